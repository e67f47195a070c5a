import PyProof.Rows.All
import Wide.All
import OpenK.AllK
import Wide.FinOn
import HandS.ForMost
import HandS.Style
import HandS.IsInst
import HandS.Defaults
import PyProof.ReprRoads
import PyProof.ReprBulk
import HandS.Lambda
import PyProof.Rows.SortShellAny
import KE.GoesMore
import HandS.Conv
import HandS.SetFor
import HandS.Zip
import HandS.TupAny
import HandS.Deep
import KE.DataMinMax
import PySem.Challenge.RW_citylines_k19_bounds_on_both_sides
import HandS.TupMul
import HandS.ForSpec
import HandS.ExcInit
import HandS.ExcSuper
import HandS.ExcIs
import HandS.ExcField
import KE.SortData
import HandS.Star
import KE.KDictZip
import HandS.ExcValue
import HandS.Strs
import HandS.TryMany
import HandS.EndTab
import HandS.TupLe
set_option Elab.async false
set_option linter.all false
set_option maxRecDepth 100000
set_option maxHeartbeats 2000000
/-! Dv: readings of pure code by data. G: the part of the heap that is data (never changed); B: what stood when the def began (but for a pot). -/
namespace Dv
open PySem L2
abbrev Fg := PySem.W.Frag
abbrev Dt := PyData
def Ex (H H' : Hp) : Prop := ∀ a o, H a = some o → H' a = some o
theorem Ex.refl (H : Hp) : Ex H H := fun _ _ h => h
theorem Ex.trans {H H1 H2 : Hp} (a : Ex H H1) (b : Ex H1 H2) : Ex H H2 := fun x o h => b x o (a x o h)
theorem Ex.new {H : Hp} {p : Addr} {o : HO} (h : H p = none) : Ex H (upd H p o) := fun a u e => by
  rw [upd_ne (ne_of_none e h)]; exact e
theorem Ex.mut {H H' : Hp} {p : Addr} {o : HO} (e : Ex H H') (h : H p = none) : Ex H (upd H' p o) := fun a u ha => by
  rw [upd_ne (ne_of_none ha h)]; exact e a u ha
theorem Ex.both {H H' : Hp} {p : Addr} {o : HO} (e : Ex H H') : Ex (upd H p o) (upd H' p o) := fun a u ha => by
  by_cases h : a = p
  · subst h; rw [upd_same] at ha ⊢; exact ha
  · rw [upd_ne h] at ha ⊢; exact e a u ha
theorem Ex.free {H H' : Hp} {p : Addr} (e : Ex H H') (h : H' p = none) : H p = none := by
  cases h1 : H p with
  | none => rfl
  | some o => rw [e p o h1] at h; cases h
theorem ex_rd {H H' : Hp} {a : Addr} {u : HO} (e : Ex H H') (h : Rd H a u) : Rd H' a u := by
  rcases h with h | ⟨o, h⟩
  · exact .inl (e a _ h)
  · exact .inr ⟨o, e a _ h⟩
theorem ex_l {K : Fg} {H H' : Hp} {a : Addr} {xs : List V} (e : Ex H H') (h : SqL K H a xs) : SqL K H' a xs := by
  rcases h with h | h
  · exact .inl (ex_rd e h)
  · exact .inr h
theorem ex_t {K : Fg} {H H' : Hp} {a : Addr} {xs : List V} (e : Ex H H') (h : SqT K H a xs) : SqT K H' a xs := by
  rcases h with h | h
  · exact .inl (ex_rd e h)
  · exact .inr h
/-- a list that is tracked or locked, or a plain list of the module -/
def SqX (K : Fg) (H : Hp) (a : Addr) (xs : List V) : Prop := Rd H a (.lst xs) ∨ ∃ (its : List Value) (n : Nat), K.lookup a = some { cls := .type "list", data := .seq its.toArray n } ∧ its.length ≤ sizeLine ∧ Vals xs its
theorem ex_x {K : Fg} {H H' : Hp} {a : Addr} {xs : List V} (e : Ex H H') (h : SqX K H a xs) : SqX K H' a xs := by
  rcases h with h | h
  · exact .inl (ex_rd e h)
  · exact .inr h
theorem sqx_l {K : Fg} {H : Hp} {a : Addr} {xs : List V} (h : SqX K H a xs) : SqL K H a xs := by
  rcases h with h | ⟨its, n, h1, h2, h3⟩
  · exact .inl h
  · exact .inr ⟨_, its.toArray, n, h1, rfl, rfl, rfl, by simpa using h2, by simpa using h3⟩
theorem exl {K : Fg} {H H' : Hp} {a : Addr} {xs : List V} (e : Ex H H') (h : SqX K H a xs) : SqL K H' a xs := sqx_l (ex_x e h)
/-! a value that reads as data; lists are tracked (or locked), tuples may stand in the written part -/
mutual
inductive Dz (K : Fg) (H : Hp) : V → PyData → Prop
  | non : Dz K H .non .none
  | bl (b : Bool) : Dz K H (.bl b) (.bool b)
  | int (i : Int) : Dz K H (.int i) (.int i)
  | str (x : Str) : Dz K H (.str x) (.str x)
  | lst {a : Addr} {xs : List V} {ds : List PyData} : SqX K H a xs → DzAll K H xs ds → Dz K H (.ref a) (.list ds)
  | tup {a : Addr} {xs : List V} {ds : List PyData} : SqT K H a xs → DzAll K H xs ds → Dz K H (.ref a) (.tuple ds)
  | dct {a : Addr} : Rd H a (.dK []) → Dz K H (.ref a) (.dict [])
  | di {a : Addr} {i j : Int} : Rd H a (.dK [(.inl i, .int j)]) → Dz K H (.ref a) (.dict [(.int i, .int j)])
inductive DzAll (K : Fg) (H : Hp) : List V → List PyData → Prop
  | nil : DzAll K H [] []
  | cons {v : V} {vs : List V} {d : PyData} {ds : List PyData} : Dz K H v d → DzAll K H vs ds → DzAll K H (v :: vs) (d :: ds)
end
mutual
theorem dz_dp {K : Fg} {H : Hp} : ∀ (d : PyData) (v : V), d.hasDict = false → Dz K H v d → Dp K H v d
  | .none, _, _, h => by cases h; exact .non
  | .bool b, _, _, h => by cases h; exact .bl b
  | .int i, _, _, h => by cases h; exact .int i
  | .str x, _, _, h => by cases h; exact .str x
  | .list ds, _, n, h => by
    cases h with
    | lst hs ha => exact .lst (sqx_l hs) (dzAll_dp ds _ (by simpa only [PyData.hasDict] using n) ha)
  | .tuple ds, _, n, h => by
    cases h with
    | tup hs ha => exact .tup hs (dzAll_dp ds _ (by simpa only [PyData.hasDict] using n) ha)
  | .dict _, _, n, _ => by simp [PyData.hasDict] at n
theorem dzAll_dp {K : Fg} {H : Hp} : ∀ (ds : List PyData) (vs : List V), PyData.hasDictAll ds = false → DzAll K H vs ds → DpAll K H vs ds
  | [], _, _, h => by cases h; exact .nil
  | d :: ds, _, n, h => by
    cases h with
    | cons h1 h2 =>
      simp only [PyData.hasDictAll, Bool.or_eq_false_iff] at n
      exact .cons (dz_dp d _ n.1 h1) (dzAll_dp ds _ n.2 h2)
end
theorem nds {d : PyData} (h : SeqAt.shaped d = true) : d.hasDict = false := PyData.hasDict_of_canLay d (SeqAt.canLay_of_shaped h)
section
variable {K : Fg} {H H' : Hp}
mutual
theorem dp_ex (e : Ex H H') : ∀ (d : Dt) (v : V), Dz K H v d → Dz K H' v d
  | .none, _, h => by cases h; exact .non
  | .bool b, _, h => by cases h; exact .bl b
  | .int i, _, h => by cases h; exact .int i
  | .str x, _, h => by cases h; exact .str x
  | .list ds, _, h => by
    cases h with
    | lst hs ha => exact .lst (ex_x e hs) (dpAll_ex e ds _ ha)
  | .tuple ds, _, h => by
    cases h with
    | tup hs ha => exact .tup (ex_t e hs) (dpAll_ex e ds _ ha)
  | .dict _, _, h => by
    cases h with
    | dct hr => exact .dct (ex_rd e hr)
    | di hr => exact .di (ex_rd e hr)
theorem dpAll_ex (e : Ex H H') : ∀ (ds : List Dt) (vs : List V), DzAll K H vs ds → DzAll K H' vs ds
  | [], _, h => by cases h; exact .nil
  | d :: ds, _, h => by
    cases h with
    | cons h1 h2 => exact .cons (dp_ex e d _ h1) (dpAll_ex e ds _ h2)
end
theorem dpAll_length : ∀ {vs : List V} {ds : List Dt}, DzAll K H vs ds → vs.length = ds.length
  | _, [], h => by cases h; rfl
  | _, _ :: _, h => by
    cases h with
    | cons h1 h2 => rw [List.length_cons, List.length_cons, dpAll_length h2]
theorem dpAll_get : ∀ {vs : List V} {ds : List Dt} {i : Nat} {d : Dt}, DzAll K H vs ds → ds[i]? = some d → ∃ v, vs[i]? = some v ∧ Dz K H v d
  | _, [], _, _, _, e => by simp at e
  | _, _ :: _, 0, _, h, e => by
    cases h with
    | cons h1 h2 => simp at e; subst e; exact ⟨_, rfl, h1⟩
  | _, _ :: _, i + 1, d, h, e => by
    cases h with
    | cons h1 h2 =>
      obtain ⟨v, q1, q2⟩ := dpAll_get (i := i) (d := d) h2 (by simpa using e)
      exact ⟨v, by simpa using q1, q2⟩
theorem dpAll_get' : ∀ {vs : List V} {ds : List Dt} {i : Nat} {v : V}, DzAll K H vs ds → vs[i]? = some v → ∃ d, ds[i]? = some d ∧ Dz K H v d
  | _, [], _, _, h, e => by cases h; simp at e
  | _, _ :: _, 0, _, h, e => by
    cases h with
    | cons h1 h2 => simp at e; subst e; exact ⟨_, rfl, h1⟩
  | _, _ :: _, i + 1, v, h, e => by
    cases h with
    | cons h1 h2 =>
      obtain ⟨d, q1, q2⟩ := dpAll_get' (i := i) (v := v) h2 (by simpa using e)
      exact ⟨d, by simpa using q1, q2⟩
theorem dpAll_append : ∀ {vs ws : List V} {ds es : List Dt}, DzAll K H vs ds → DzAll K H ws es → DzAll K H (vs ++ ws) (ds ++ es)
  | _, _, [], _, h, g => by cases h; exact g
  | _, _, _ :: _, _, h, g => by
    cases h with
    | cons h1 h2 => exact .cons h1 (dpAll_append h2 g)
theorem dpAll_take : ∀ {vs : List V} {ds : List Dt} (n : Nat), DzAll K H vs ds → DzAll K H (vs.take n) (ds.take n)
  | _, _, 0, _ => by simpa using (.nil : DzAll K H [] [])
  | _, [], n + 1, h => by cases h; exact .nil
  | _, _ :: _, n + 1, h => by
    cases h with
    | cons h1 h2 => exact .cons h1 (dpAll_take n h2)
theorem dpAll_drop : ∀ {vs : List V} {ds : List Dt} (n : Nat), DzAll K H vs ds → DzAll K H (vs.drop n) (ds.drop n)
  | _, _, 0, h => h
  | _, [], n + 1, h => by cases h; exact .nil
  | _, _ :: _, n + 1, h => by
    cases h with
    | cons h1 h2 => exact dpAll_drop n h2
theorem dpAll_reverse : ∀ {vs : List V} {ds : List Dt}, DzAll K H vs ds → DzAll K H vs.reverse ds.reverse
  | _, [], h => by cases h; exact .nil
  | _, _ :: _, h => by
    cases h with
    | cons h1 h2 => rw [List.reverse_cons, List.reverse_cons]; exact dpAll_append (dpAll_reverse h2) (.cons h1 .nil)
theorem dpAll_ints : ∀ {vs : List V} {ns : List Int}, DzAll K H vs (ns.map PyData.int) → vs = ns.map V.int
  | _, [], h => by cases h; rfl
  | _, n :: ns, h => by
    cases h with
    | cons h1 h2 => cases h1; rw [dpAll_ints h2]; rfl
theorem dpAll_bools : ∀ {vs : List V} {ns : List Bool}, DzAll K H vs (ns.map PyData.bool) → vs = ns.map V.bl
  | _, [], h => by cases h; rfl
  | _, n :: ns, h => by
    cases h with
    | cons h1 h2 => cases h1; rw [dpAll_bools h2]; rfl
theorem dpAll_of_ints : ∀ (ns : List Int), DzAll K H (ns.map V.int) (ns.map PyData.int)
  | [] => .nil
  | n :: ns => .cons (.int n) (dpAll_of_ints ns)
end

/-! ### tables of code objects: they grow, all else stands -/
/-- the tables of the defs that make lambdas, and what their code objects are called -/
class Tbl where
  ts : List (Addr × Str)
variable [Tbl]
structure Exd (H H' : Hp) : Prop where
  ex : LamX.ExtN H H'
  dom : ∀ a, H a ≠ none → H' a ≠ none
  tb : LamX.Tabs Tbl.ts H → LamX.Tabs Tbl.ts H'
theorem Exd.refl (H : Hp) : Exd H H := ⟨LamX.ExtN.refl H, fun _ h => h, fun h => h⟩
theorem Ex.dom {H H' : Hp} (e : Ex H H') : ∀ a, H a ≠ none → H' a ≠ none := fun a h => by
  cases z : H a with
  | none => exact absurd z h
  | some o => rw [e a o z]; intro w; cases w
theorem Exd.of {H H' : Hp} (e : Ex H H') : Exd H H' := ⟨LamX.ExtN.of e, e.dom, fun t => LamX.Tabs.ext t e⟩
theorem Exd.free {H H' : Hp} {p : Addr} (e : Exd H H') (h : H' p = none) : H p = none := by
  cases z : H p with
  | none => rfl
  | some o => exact absurd h (e.dom p (by rw [z]; intro w; cases w))
/-- what is no table and no code object may be written to -/
theorem tabS_upd {H : Hp} {a : Addr} {u w : HO} (h : H a = some u) (n1 : ∀ ps, u ≠ .tbl ps) (n2 : ∀ c q, u ≠ LamX.CodeO c q) {P : Addr} {q : Str} (t : LamX.TabS H P q) : LamX.TabS (upd H a w) P q := by
  obtain ⟨ps, h1, h2, h3⟩ := t
  have hp : P ≠ a := fun z => by
    rw [← z, h1] at h; cases h; exact n1 _ rfl
  refine ⟨ps, by rw [upd_ne hp]; exact h1, h2, fun pos cv hc => ?_⟩
  obtain ⟨c, e1, e2⟩ := h3 pos cv hc
  have hq : c ≠ a := fun z => by
    rw [← z, e2] at h; cases h; exact n2 _ _ rfl
  exact ⟨c, e1, by rw [upd_ne hq]; exact e2⟩
theorem code_ne_l {xs : List V} (c : Addr) (q : Str) : HO.lst xs ≠ LamX.CodeO c q := fun z => by
  unfold LamX.CodeO at z
  cases z
theorem tabS_lst {H : Hp} {a : Addr} {xs : List V} {w : HO} (h : H a = some (.lst xs)) {P : Addr} {q : Str} (t : LamX.TabS H P q) : LamX.TabS (upd H a w) P q := tabS_upd h (fun _ z => by cases z) code_ne_l t
theorem tabS_new {H : Hp} {a : Addr} {w : HO} (h : H a = none) {P : Addr} {q : Str} (t : LamX.TabS H P q) : LamX.TabS (upd H a w) P q := t.ext fun b o e => by rw [upd_ne (ne_of_none e h)]; exact e
theorem tabs_lst {T : List (Addr × Str)} {H : Hp} {a : Addr} {xs : List V} {w : HO} (h : H a = some (.lst xs)) (t : LamX.Tabs T H) : LamX.Tabs T (upd H a w) := fun q hq => tabS_lst h (t q hq)
theorem tabs_new {T : List (Addr × Str)} {H : Hp} {a : Addr} {w : HO} (h : H a = none) (t : LamX.Tabs T H) : LamX.Tabs T (upd H a w) := fun q hq => tabS_new h (t q hq)
theorem Exd.mut {H H' : Hp} {p : Addr} {o : HO} {xs : List V} (e : Exd H H') (h : H p = none) (hl : H' p = some (.lst xs)) : Exd H (upd H' p o) :=
  ⟨fun a u ha n => by rw [upd_ne (ne_of_none ha h)]; exact e.ex a u ha n, fun a ha => by
    by_cases z : a = p
    · rw [z, upd_same]; intro w; cases w
    · rw [upd_ne z]; exact e.dom a ha, fun t => tabs_lst hl (e.tb t)⟩
/-! ### what the slots hold. p: the pot's address, if there is a pot -/
inductive En where
  | no | d (x : Dt) | own (ds : List Dt) | own2 (as : List Addr) (dss : List (List Dt)) | pot | rng (lo hi : Int) | fix (v : V)
abbrev De := List En
def potOk (a b : Int) : Prop := 0 ≤ a ∧ 0 ≤ b ∧ b ≤ 2147483588
def PotI (p : Option Addr) (B G H : Hp) : Prop := ∀ q, p = some q → B q = none ∧ G q = none ∧ ∃ a b, H q = some (.lst [.int a, .int b]) ∧ potOk a b
/-- the tables stand in the heap, and are no data -/
structure TZ (G H : Hp) : Prop where
  h : LamX.Tabs Tbl.ts H
  g : ∀ q ∈ Tbl.ts, G q.1 = none
theorem TZ.mut {G H : Hp} {a : Addr} {xs : List V} {w : HO} (t : TZ G H) (h : H a = some (.lst xs)) : TZ G (upd H a w) := ⟨tabs_lst h t.h, t.g⟩
theorem TZ.dat {G H : Hp} {a : Addr} {xs : List V} {w : HO} (t : TZ G H) (h : H a = some (.lst xs)) : TZ (upd G a w) H := ⟨t.h, fun q hq => by
  have ne : q.1 ≠ a := fun z => by
    obtain ⟨ps, e, _⟩ := t.h q hq
    rw [z, h] at e; cases e
  rw [upd_ne ne]; exact t.g q hq⟩
structure I3 (p : Option Addr) (B G H : Hp) : Prop where
  bh : Exd B H
  gh : Ex G H
  pot : PotI p B G H
  tz : TZ G H
/-- of the def's own alone: not there at its begin, no data, not the pot -/
def Fr (p : Option Addr) (B G : Hp) (a : Addr) : Prop := B a = none ∧ G a = none ∧ p ≠ some a
def En.isOwn : En → Prop
  | .own _ => True
  | .own2 _ _ => True
  | _ => False
def En.inner : En → List Addr
  | .own2 as _ => as
  | _ => []
/-- the addresses that a slot alone may write to -/
def Foot (e : En) (o : Option V) (a : Addr) : Prop := (e.isOwn ∧ o = some (.ref a)) ∨ a ∈ e.inner
def Slot (K : Fg) (p : Option Addr) (B G H : Hp) : En → Option V → Prop
  | .no, _ => True
  | .d x, o => ∃ v, o = some v ∧ Dz K G v x
  | .own ds, o => ∃ l xs, o = some (.ref l) ∧ B l = none ∧ G l = none ∧ p ≠ some l ∧ H l = some (.lst xs) ∧ DzAll K G xs ds
  | .own2 as dss, o => ∃ l, o = some (.ref l) ∧ Fr p B G l ∧ H l = some (.lst (as.map V.ref)) ∧ (l :: as).Nodup ∧ as.length = dss.length ∧ ∀ (i : Nat) a ds, as[i]? = some a → dss[i]? = some ds → Fr p B G a ∧ ∃ xs, H a = some (.lst xs) ∧ DzAll K G xs ds
  | .pot, o => ∃ q, o = some (.ref q) ∧ p = some q
  | .rng lo hi, o => ∃ a, o = some (.ref a) ∧ p ≠ some a ∧ H a = some (.rng lo hi)
  | .fix v, o => o = some v
structure EnvD (K : Fg) (p : Option Addr) (B G H : Hp) (σ : L2.St) (δ : De) : Prop where
  len : σ.length = δ.length
  slot : ∀ (i : Nat) en, δ[i]? = some en → ∃ o, σ[i]? = some o ∧ Slot K p B G H en o
  apart : ∀ (i j : Nat) e f oi oj a, i ≠ j → δ[i]? = some e → δ[j]? = some f → σ[i]? = some oi → σ[j]? = some oj → Foot e oi a → Foot f oj a → False
def del (p : Option Addr) (H : Hp) : Hp := fun a => if p = some a then none else H a
theorem del_none (H : Hp) : del none H = H := by funext a; unfold del; simp
theorem del_ne {p : Option Addr} {H : Hp} {a : Addr} (h : p ≠ some a) : del p H a = H a := by unfold del; rw [if_neg h]
theorem del_le {p : Option Addr} {H : Hp} {a : Addr} {o : HO} (h : del p H a = some o) : H a = some o ∧ p ≠ some a := by
  unfold del at h
  by_cases q : p = some a
  · rw [if_pos q] at h; cases h
  · rw [if_neg q] at h; exact ⟨h, q⟩
def Step (B G G' : Hp) : Prop := Ex G G' ∧ ∀ a, B a ≠ none → G a = none → G' a = none
theorem Step.refl (B G : Hp) : Step B G G := ⟨Ex.refl G, fun _ _ h => h⟩
theorem Step.trans {B G G1 G2 : Hp} (h : Step B G G1) (k : Step B G1 G2) : Step B G G2 := ⟨h.1.trans k.1, fun a b c => k.2 a b (h.2 a b c)⟩
theorem nn {o : Option HO} {u : HO} (h : o = some u) : o ≠ none := by rw [h]; intro z; cases z
theorem Step.le {B B' G G' : Hp} (h : Step B' G G') (e : ∀ a, B a ≠ none → B' a ≠ none) : Step B G G' := ⟨h.1, fun a b c => h.2 a (e a b) c⟩
/-- from (G, H) on: all but the pot stands; what is new in G' was not there -/
structure Nxt (p : Option Addr) (G H G' H' : Hp) : Prop where
  st : Step H G G'
  ex : LamX.ExtN (del p H) H'
  gh : Ex G' H'
  pot : ∀ q, p = some q → ∃ a b, H' q = some (.lst [.int a, .int b]) ∧ potOk a b
  dom : ∀ a, H a ≠ none → H' a ≠ none
  tb : LamX.Tabs Tbl.ts H → LamX.Tabs Tbl.ts H'
theorem Nxt.exd {p : Option Addr} {G H G' H' : Hp} (n : Nxt p G H G' H') : LamX.ExtN (del p H) (del p H') := fun a o h k => by
  obtain ⟨_, q⟩ := del_le h
  rw [del_ne q]
  exact n.ex a o h k
theorem TZ.go {G H G' H' : Hp} (t : TZ G H) (st : Step H G G') (tb : LamX.Tabs Tbl.ts H → LamX.Tabs Tbl.ts H') : TZ G' H' := ⟨tb t.h, fun q hq => st.2 q.1 (by obtain ⟨ps, e, _⟩ := t.h q hq; exact nn e) (t.g q hq)⟩
theorem Nxt.trans {p : Option Addr} {G H G1 H1 G2 H2 : Hp} (a : Nxt p G H G1 H1) (b : Nxt p G1 H1 G2 H2) : Nxt p G H G2 H2 :=
  ⟨a.st.trans (b.st.le a.dom), a.exd.trans b.ex, b.gh, b.pot, fun x h => b.dom x (a.dom x h), fun t => b.tb (a.tb t)⟩
theorem Nxt.refl {p : Option Addr} {B G H : Hp} (i : I3 p B G H) : Nxt p G H G H :=
  ⟨Step.refl _ _, fun a o h _ => (del_le h).1, i.gh, fun q e => (i.pot q e).2.2, fun _ h => h, fun t => t⟩
theorem I3.nxt {p : Option Addr} {B G H G' H' : Hp} (i : I3 p B G H) (n : Nxt p G H G' H') : I3 p B G' H' := by
  refine ⟨⟨fun a o h k => ?_, fun a h => n.dom a (i.bh.dom a h), fun t => n.tb (i.bh.tb t)⟩, n.gh, fun q e => ?_, i.tz.go n.st n.tb⟩
  · have h1 := i.bh.ex a o h k
    by_cases q : p = some a
    · rw [(i.pot a q).1] at h; cases h
    · exact n.ex a o (by rw [del_ne q]; exact h1) k
  · obtain ⟨h1, h2, x, y, h3, _⟩ := i.pot q e
    exact ⟨h1, n.st.2 q (nn h3) h2, n.pot q e⟩
theorem upd_dom {H : Hp} {a : Addr} {o : HO} : ∀ b, H b ≠ none → upd H a o b ≠ none := fun b h => by
  by_cases z : b = a
  · rw [z, upd_same]; intro w; cases w
  · rw [upd_ne z]; exact h
/-- a new object, data or not -/
theorem Nxt.new {p : Option Addr} {B G H : Hp} (i : I3 p B G H) {a : Addr} (o : HO) (h : H a = none) : Nxt p G H (upd G a o) (upd H a o) := by
  refine ⟨⟨Ex.new (i.gh.free h), fun b hb hg => ?_⟩, fun b u hu _ => ?_, i.gh.both, fun q e => ?_, upd_dom, fun t => tabs_new h t⟩
  · have : b ≠ a := fun z => hb (z ▸ h)
    rw [upd_ne this]; exact hg
  · obtain ⟨h1, _⟩ := del_le hu
    rw [upd_ne (ne_of_none h1 h)]; exact h1
  · obtain ⟨_, _, x, y, h3, h4⟩ := i.pot q e
    exact ⟨x, y, by rw [upd_ne (ne_of_none h3 h)]; exact h3, h4⟩
theorem Nxt.newH {p : Option Addr} {B G H : Hp} (i : I3 p B G H) {a : Addr} (o : HO) (h : H a = none) : Nxt p G H G (upd H a o) := by
  refine ⟨Step.refl _ _, fun b u hu _ => ?_, i.gh.trans (Ex.new h), fun q e => ?_, upd_dom, fun t => tabs_new h t⟩
  · obtain ⟨h1, _⟩ := del_le hu
    rw [upd_ne (ne_of_none h1 h)]; exact h1
  · obtain ⟨_, _, x, y, h3, h4⟩ := i.pot q e
    exact ⟨x, y, by rw [upd_ne (ne_of_none h3 h)]; exact h3, h4⟩
/-- what is no data is written to: a list that was not there -/
theorem Nxt.put {p : Option Addr} {G0 H0 G H : Hp} (n : Nxt p G0 H0 G H) {a : Addr} {xs : List V} {u : HO} (h0 : H0 a = none) (g : G a = none) (hl : H a = some (.lst xs)) (pa : p ≠ some a) : Nxt p G0 H0 G (upd H a u) :=
  ⟨n.st, fun b w hb k => by rw [upd_ne (ne_of_none (del_le hb).1 h0)]; exact n.ex b w hb k, n.gh.mut g, fun z hz => by
    obtain ⟨x, y, e1, e2⟩ := n.pot z hz
    exact ⟨x, y, by rw [upd_ne (fun w => pa (by rw [hz, w]))]; exact e1, e2⟩, fun b hb => upd_dom b (n.dom b hb), fun t => tabs_lst hl (n.tb t)⟩
theorem tabS_hide {H : Hp} {z : Addr} {xs : List V} (h : H z = some (.lst xs)) {P : Addr} {q : Str} (t : LamX.TabS H P q) : LamX.TabS (del (some z) H) P q := by
  obtain ⟨ps, h1, h2, h3⟩ := t
  have hp : some z ≠ some P := fun w => by
    cases w
    rw [h] at h1; cases h1
  refine ⟨ps, by rw [del_ne hp]; exact h1, h2, fun pos cv hc => ?_⟩
  obtain ⟨c, e1, e2⟩ := h3 pos cv hc
  have hq : some z ≠ some c := fun w => by
    cases w
    rw [h] at e2; exact code_ne_l _ _ (Option.some.inj e2)
  exact ⟨c, e1, by rw [del_ne hq]; exact e2⟩
theorem Exd.hide (p : Option Addr) (H : Hp) : Exd (del p H) H := .of fun _ _ h => (del_le h).1
/-- after a call that was given the pot -/
theorem Nxt.ofPot {z : Addr} {B G H G' H' : Hp} (i3 : I3 (some z) B G H) (st : Step (del (some z) H) G G') (i2 : I3 (some z) (del (some z) H) G' H') : Nxt (some z) G H G' H' :=
  ⟨⟨st.1, fun a h1 h2 => by
    by_cases za : z = a
    · subst za; exact (i2.pot z rfl).2.1
    · exact st.2 a (by rw [del_ne (fun w => za (Option.some.inj w))]; exact h1) h2⟩, i2.bh.ex, i2.gh, fun y hy => (i2.pot y hy).2.2, fun a h => by
    by_cases za : z = a
    · subst za
      obtain ⟨_, _, x, y, e, _⟩ := i2.pot z rfl
      exact nn e
    · exact i2.bh.dom a (by rw [del_ne (fun w => za (Option.some.inj w))]; exact h), fun t => by
    obtain ⟨_, _, x, y, e, _⟩ := i3.pot z rfl
    exact i2.bh.tb fun q hq => tabS_hide e (t q hq)⟩
/-- after a call that has no pot -/
theorem Nxt.ofExd {p : Option Addr} {B G H G' H' : Hp} (i3 : I3 p B G H) (st : Step H G G') (e : Exd H H') (g : Ex G' H') : Nxt p G H G' H' :=
  ⟨st, fun a o h k => e.ex a o (del_le h).1 k, g, fun z hz => by
    obtain ⟨_, _, a, b, h3, h4⟩ := i3.pot z hz
    exact ⟨a, b, e.ex _ _ h3 (fun _ w => by cases w), h4⟩, e.dom, e.tb⟩
theorem Slot.nxt {K : Fg} {p : Option Addr} {B G H G' H' : Hp} {en : En} {o : Option V} (h : Slot K p B G H en o) (n : Nxt p G H G' H') : Slot K p B G' H' en o := by
  cases en with
  | no => trivial
  | d x => obtain ⟨v, a, b⟩ := h; exact ⟨v, a, dp_ex n.st.1 _ _ b⟩
  | own ds => obtain ⟨l, xs, a, b, c, e, d, f⟩ := h; exact ⟨l, xs, a, b, n.st.2 l (nn d) c, e, n.ex _ _ (by rw [del_ne e]; exact d) (fun _ z => by cases z), dpAll_ex n.st.1 _ _ f⟩
  | own2 as dss =>
    obtain ⟨l, a, ⟨b1, b2, b3⟩, c, d, e, f⟩ := h
    refine ⟨l, a, ⟨b1, n.st.2 l (nn c) b2, b3⟩, n.ex _ _ (by rw [del_ne b3]; exact c) (fun _ z => by cases z), d, e, fun i x ds h1 h2 => ?_⟩
    obtain ⟨⟨k1, k2, k3⟩, xs, k4, k5⟩ := f i x ds h1 h2
    exact ⟨⟨k1, n.st.2 x (nn k4) k2, k3⟩, xs, n.ex _ _ (by rw [del_ne k3]; exact k4) (fun _ z => by cases z), dpAll_ex n.st.1 _ _ k5⟩
  | pot => exact h
  | fix v => exact h
  | rng lo hi => obtain ⟨a, b, c, d⟩ := h; exact ⟨a, b, c, n.ex _ _ (by rw [del_ne c]; exact d) (fun _ z => by cases z)⟩
theorem EnvD.nxt {K : Fg} {p : Option Addr} {B G H G' H' : Hp} {σ : L2.St} {δ : De} (h : EnvD K p B G H σ δ) (n : Nxt p G H G' H') : EnvD K p B G' H' σ δ :=
  ⟨h.len, fun i en q => let ⟨o, a, b⟩ := h.slot i en q; ⟨o, a, b.nxt n⟩, h.apart⟩
section
variable {K : Fg} {p : Option Addr} {B G H : Hp} {σ σ' : L2.St} {δ : De}
/-- what a slot may write to is there, and nobody else's -/
theorem foot_of {e : En} {o : Option V} {a : Addr} (h : Slot K p B G H e o) (f : Foot e o a) : Fr p B G a ∧ ∃ xs, H a = some (.lst xs) := by
  cases e with
  | no => rcases f with ⟨z, _⟩ | z <;> cases z
  | d x => rcases f with ⟨z, _⟩ | z <;> cases z
  | pot => rcases f with ⟨z, _⟩ | z <;> cases z
  | fix v => rcases f with ⟨z, _⟩ | z <;> cases z
  | rng lo hi => rcases f with ⟨z, _⟩ | z <;> cases z
  | own ds =>
    obtain ⟨l, xs, e1, h1, h2, h3, h4, _⟩ := h
    rcases f with ⟨_, z⟩ | z
    · rw [e1] at z; cases z; exact ⟨⟨h1, h2, h3⟩, xs, h4⟩
    · cases z
  | own2 as dss =>
    obtain ⟨l, e1, h1, h2, _, h5, h6⟩ := h
    rcases f with ⟨_, z⟩ | z
    · rw [e1] at z; cases z; exact ⟨h1, _, h2⟩
    · obtain ⟨i, hi, ei⟩ := List.getElem_of_mem z
      have hi2 : i < dss.length := by rw [← h5]; exact hi
      obtain ⟨k1, xs, k2, _⟩ := h6 i a dss[i] (by rw [← ei]; exact List.getElem?_eq_getElem hi) (List.getElem?_eq_getElem hi2)
      exact ⟨k1, xs, k2⟩
/-- a slot is set -/
theorem EnvD.put (h : EnvD K p B G H σ δ) {i : Nat} {o : Option V} {en : En} (hv : Slot K p B G H en o) (ha : ∀ a, Foot en o a → ∀ (j : Nat) f oj, j ≠ i → δ[j]? = some f → σ[j]? = some oj → Foot f oj a → False) : EnvD K p B G H (σ.set i o) (δ.set i en) := by
  refine ⟨by rw [List.length_set, List.length_set]; exact h.len, fun j e q => ?_, fun j k e f oj ok a hjk q1 q2 r1 r2 f1 f2 => ?_⟩
  · by_cases hj : i = j
    · subst hj
      have hl : i < (δ.set i en).length := (List.getElem?_eq_some_iff.mp q).1
      rw [List.length_set] at hl
      rw [List.getElem?_set_self hl] at q
      cases q
      exact ⟨o, List.getElem?_set_self (by rw [h.len]; exact hl), hv⟩
    · rw [List.getElem?_set_ne hj] at q ⊢
      exact h.slot j e q
  · by_cases hj : i = j
    · subst hj
      have hl : i < (δ.set i en).length := (List.getElem?_eq_some_iff.mp q1).1
      rw [List.length_set] at hl
      rw [List.getElem?_set_self hl] at q1
      rw [List.getElem?_set_self (by rw [h.len]; exact hl)] at r1
      rw [List.getElem?_set_ne hjk] at q2 r2
      cases q1; cases r1
      exact ha a f1 k f ok (Ne.symm hjk) q2 r2 f2
    · by_cases hk : i = k
      · subst hk
        have hl : i < (δ.set i en).length := (List.getElem?_eq_some_iff.mp q2).1
        rw [List.length_set] at hl
        rw [List.getElem?_set_self hl] at q2
        rw [List.getElem?_set_self (by rw [h.len]; exact hl)] at r2
        rw [List.getElem?_set_ne hj] at q1 r1
        cases q2; cases r2
        exact ha a f2 j e oj hjk q1 r1 f1
      · rw [List.getElem?_set_ne hj] at q1 r1
        rw [List.getElem?_set_ne hk] at q2 r2
        exact h.apart j k e f oj ok a hjk q1 q2 r1 r2 f1 f2
theorem foot_no {o : Option V} {a : Addr} (h : Foot .no o a) : False := by rcases h with ⟨z, _⟩ | z <;> cases z
theorem foot_d {x : Dt} {o : Option V} {a : Addr} (h : Foot (.d x) o a) : False := by rcases h with ⟨z, _⟩ | z <;> cases z
theorem foot_pot {o : Option V} {a : Addr} (h : Foot .pot o a) : False := by rcases h with ⟨z, _⟩ | z <;> cases z
theorem EnvD.set (h : EnvD K p B G H σ δ) {i : Nat} {v : V} {x : Dt} (hv : Dz K G v x) : EnvD K p B G H (σ.set i (some v)) (δ.set i (.d x)) :=
  h.put (en := .d x) ⟨v, rfl, hv⟩ fun a z => (foot_d z).elim
theorem EnvD.wipe (h : EnvD K p B G H σ δ) (i : Nat) : EnvD K p B G H (σ.set i none) (δ.set i .no) := h.put (en := .no) (by trivial) fun a z => (foot_no z).elim
/-- a slot takes things that were not there before -/
theorem EnvD.putNew (h : EnvD K p B G H σ δ) {G' H' : Hp} (n : Nxt p G H G' H') {i : Nat} {o : Option V} {en : En} (hv : Slot K p B G' H' en o) (hf : ∀ a, Foot en o a → H a = none) : EnvD K p B G' H' (σ.set i o) (δ.set i en) :=
  (h.nxt n).put hv fun a fa j f oj hj q r fb => by
    obtain ⟨o2, e1, e2⟩ := h.slot j f q
    rw [r] at e1
    cases e1
    obtain ⟨_, xs, hx⟩ := foot_of e2 fb
    rw [hf a fa] at hx
    cases hx
theorem EnvD.putOwn (h : EnvD K p B G H σ δ) (i3 : I3 p B G H) {G' H' : Hp} {l : Addr} {xs : List V} {ds : List Dt} (n : Nxt p G H G' H') (h0 : H l = none) (g : G' l = none) (pl : p ≠ some l) (hl : H' l = some (.lst xs)) (ha : DzAll K G' xs ds) (i : Nat) :
    EnvD K p B G' H' (σ.set i (some (.ref l))) (δ.set i (.own ds)) := h.putNew n (en := .own ds) ⟨l, xs, rfl, i3.bh.free h0, g, pl, hl, ha⟩ fun a fa => by
  rcases fa with ⟨_, z⟩ | z
  · cases z; exact h0
  · cases z
/-- one slot's things are written to, and its reading is another one -/
theorem EnvD.write2 (h : EnvD K p B G H σ δ) {H' : Hp} {i : Nat} {e e' : En} {o : Option V} (hs : δ[i]? = some e) (hσ : σ[i]? = some o) (he : ∀ a, ¬ Foot e o a → H a ≠ none → H' a = H a) (hv : Slot K p B G H' e' o) (hf : ∀ a, Foot e' o a → Foot e o a ∨ ∀ (j : Nat) f oj, j ≠ i → δ[j]? = some f → σ[j]? = some oj → ¬ Foot f oj a) : EnvD K p B G H' σ (δ.set i e') := by
  have hil : i < δ.length := (List.getElem?_eq_some_iff.mp hs).1
  refine ⟨by rw [List.length_set]; exact h.len, fun j f qj => ?_, fun j k e1 f1 oj ok a hjk q1 q2 r1 r2 g1 g2 => ?_⟩
  · by_cases hj : i = j
    · subst hj
      rw [List.getElem?_set_self hil] at qj
      cases qj
      exact ⟨o, hσ, hv⟩
    · rw [List.getElem?_set_ne hj] at qj
      obtain ⟨o2, b1, b2⟩ := h.slot j f qj
      refine ⟨o2, b1, ?_⟩
      have same : ∀ a, Foot f o2 a → H' a = H a := fun a fa => he a (fun fb => h.apart i j e f o o2 a hj hs qj hσ b1 fb fa) (by obtain ⟨_, xs, hx⟩ := foot_of b2 fa; exact nn hx)
      cases f with
      | no => trivial
      | d y => exact b2
      | pot => exact b2
      | fix v => exact b2
      | rng lo hi =>
        obtain ⟨a, c1, c2, c3⟩ := b2
        obtain ⟨oe, g1, g2⟩ := h.slot i e hs
        rw [hσ] at g1
        cases g1
        refine ⟨a, c1, c2, ?_⟩
        rw [he a (fun fe => by obtain ⟨_, xs, hx⟩ := foot_of g2 fe; rw [c3] at hx; cases hx) (nn c3)]
        exact c3
      | own fs =>
        obtain ⟨l2, zs, c1, c2, c3, c4, c5, c6⟩ := b2
        exact ⟨l2, zs, c1, c2, c3, c4, by rw [same l2 (.inl ⟨trivial, c1⟩)]; exact c5, c6⟩
      | own2 as dss =>
        obtain ⟨l2, c1, c2, c3, c4, c5, c6⟩ := b2
        refine ⟨l2, c1, c2, by rw [same l2 (.inl ⟨trivial, c1⟩)]; exact c3, c4, c5, fun n a ds k1 k2 => ?_⟩
        obtain ⟨m1, xs, m2, m3⟩ := c6 n a ds k1 k2
        exact ⟨m1, xs, by rw [same a (.inr (List.mem_of_getElem? k1))]; exact m2, m3⟩
  · by_cases hj : i = j
    · subst hj
      rw [List.getElem?_set_self hil] at q1
      rw [List.getElem?_set_ne hjk] at q2
      cases q1
      rw [hσ] at r1
      cases r1
      rcases hf a g1 with z | z
      · exact h.apart i k e f1 o ok a hjk hs q2 hσ r2 z g2
      · exact z k f1 ok (Ne.symm hjk) q2 r2 g2
    · rw [List.getElem?_set_ne hj] at q1
      by_cases hk : i = k
      · subst hk
        rw [List.getElem?_set_self hil] at q2
        cases q2
        rw [hσ] at r2
        cases r2
        rcases hf a g2 with z | z
        · exact h.apart j i e1 e oj o a hjk q1 hs r1 hσ g1 z
        · exact z j e1 oj hjk q1 r1 g1
      · rw [List.getElem?_set_ne hk] at q2
        exact h.apart j k e1 f1 oj ok a hjk q1 q2 r1 r2 g1 g2
theorem EnvD.write (h : EnvD K p B G H σ δ) {H' : Hp} {i : Nat} {e e' : En} {o : Option V} (hs : δ[i]? = some e) (hσ : σ[i]? = some o) (he : ∀ a, ¬ Foot e o a → H' a = H a) (hv : Slot K p B G H' e' o) (hf : ∀ a, Foot e' o a → Foot e o a) : EnvD K p B G H' σ (δ.set i e') :=
  h.write2 hs hσ (fun a na _ => he a na) hv fun a fa => .inl (hf a fa)
theorem EnvD.app (h : EnvD K p B G H σ δ) {i : Nat} {l : Addr} {ys : List V} {ds es : List Dt} (hs : δ[i]? = some (.own ds)) (h1 : σ[i]? = some (some (.ref l))) (ha : DzAll K G ys es) : EnvD K p B G (upd H l (.lst ys)) σ (δ.set i (.own es)) := by
  obtain ⟨o, q1, l2, xs, q2, b, g, pp, _, _⟩ := h.slot i _ hs
  rw [h1] at q1
  cases q1
  cases q2
  exact h.write hs h1 (fun a na => upd_ne fun z => na (.inl ⟨trivial, by rw [z]⟩)) (e' := .own es) ⟨l, ys, rfl, b, g, pp, upd_same, ha⟩ fun a fa => by
    rcases fa with ⟨_, z⟩ | z
    · exact .inl ⟨trivial, z⟩
    · cases z
/-- σ may be otherwise where δ says nothing -/
theorem EnvD.other (h : EnvD K p B G H σ δ) (hl : σ'.length = σ.length) (hs : ∀ (i : Nat) en, δ[i]? = some en → en ≠ .no → σ'[i]? = σ[i]?) : EnvD K p B G H σ' δ := by
  refine ⟨by rw [hl]; exact h.len, fun j en q => ?_, fun j k e f oj ok a hjk q1 q2 r1 r2 f1 f2 => ?_⟩
  · obtain ⟨o, a, b⟩ := h.slot j en q
    by_cases hn : en = .no
    · subst hn
      have hj : j < σ'.length := by rw [hl]; exact (List.getElem?_eq_some_iff.mp a).1
      exact ⟨σ'[j], List.getElem?_eq_getElem hj, trivial⟩
    · exact ⟨o, by rw [hs j en q hn]; exact a, b⟩
  · have n1 : e ≠ .no := fun z => by subst z; exact foot_no f1
    have n2 : f ≠ .no := fun z => by subst z; exact foot_no f2
    rw [hs j e q1 n1] at r1
    rw [hs k f q2 n2] at r2
    exact h.apart j k e f oj ok a hjk q1 q2 r1 r2 f1 f2
end
end Dv

set_option linter.all false
set_option maxRecDepth 100000
set_option maxHeartbeats 2000000
namespace Dv
open PySem L2
variable [Tbl]
/-! ### the judgements -/
def rX (K : Fg) (δ : De) (R : Dt → Prop) : TE := fun σ H Q => ∃ p B G, I3 p B G H ∧ EnvD K p B G H σ δ ∧ ∀ v d G' H', R d → Nxt p G H G' H' → Dz K G' v d → Q v H'
def rA (K : Fg) (δ : De) (R : List Dt → Prop) : TA := fun σ H Q => ∃ p B G, I3 p B G H ∧ EnvD K p B G H σ δ ∧ ∀ vs ds G' H', R ds → Nxt p G H G' H' → DzAll K G' vs ds → Q vs H'
def rT (K : Fg) (δ : De) (R : Bool → Prop) : TT := fun σ H Q => ∃ p B G, I3 p B G H ∧ EnvD K p B G H σ δ ∧ ∀ c G' H', R c → Nxt p G H G' H' → Q c H'
def XD (X : Cx) (e : Expr) (δ : De) (R : Dt → Prop) : Prop := PE X e (rX X.K δ R)
structure XA (X : Cx) (es : List Expr) (δ : De) (R : List Dt → Prop) : Prop where
  pa : PA X es (rA X.K δ R)
  pl : starEach es X.env = es.map fun e => (false, eval e X.env)
theorem XA.he {X : Cx} {e : Expr} {es : List Expr} {δ : De} {R : List Dt → Prop} (h : XA X (e :: es) δ R) : starEach (e :: es) X.env = (false, eval e X.env) :: (es.map fun e => (false, eval e X.env)) := h.pl
theorem back_plain {X : Cx} {es : List Expr} {pos : Pos} (h : starEach es X.env = es.map fun e => (false, eval e X.env)) : (backTo pos (starEach es X.env)).any (·.1) = false := by
  rw [h]
  unfold backTo
  rw [List.map_map, List.any_map]
  exact List.any_eq_false.mpr fun e _ => by simp
def XT (X : Cx) (e : Expr) (δ : De) (R : Bool → Prop) : Prop := PT X e (rT X.K δ R)
def XW (X : Cx) (e : Expr) (δ : De) (R : Bool → Prop) : Prop := PW X e (rT X.K δ R)
abbrev PD (X : Cx) (e : Expr) (δ : De) (d : Dt) : Prop := XD X e δ (fun x => x = d)
abbrev PAD (X : Cx) (es : List Expr) (δ : De) (ds : List Dt) : Prop := XA X es δ (fun x => x = ds)
abbrev PTD (X : Cx) (e : Expr) (δ : De) (c : Bool) : Prop := XT X e δ (fun x => x = c)
abbrev PWD (X : Cx) (e : Expr) (δ : De) (c : Bool) : Prop := XW X e δ (fun x => x = c)

theorem PE.imp {X : Cx} {e : Expr} {t t' : TE} (h : PE X e t) (k : ∀ σ H Q, t' σ H Q → t σ H Q) : PE X e t' := ⟨fun pins s σ H Q I q => h.run pins s σ H Q I (k σ H Q q)⟩
theorem PA.imp {X : Cx} {e : List Expr} {t t' : TA} (h : PA X e t) (k : ∀ σ H Q, t' σ H Q → t σ H Q) : PA X e t' := ⟨fun pos pins s σ H Q I q => h.run pos pins s σ H Q I (k σ H Q q)⟩
theorem PT.imp {X : Cx} {e : Expr} {t t' : TT} (h : PT X e t) (k : ∀ σ H Q, t' σ H Q → t σ H Q) : PT X e t' := ⟨fun pins s σ H Q I q => h.run pins s σ H Q I (k σ H Q q)⟩
theorem PW.imp {X : Cx} {e : Expr} {t t' : TT} (h : PW X e t) (k : ∀ σ H Q, t' σ H Q → t σ H Q) : PW X e t' := ⟨fun w pins s σ H Q I q => h.run w pins s σ H Q I (k σ H Q q)⟩
theorem PS.imp {X : Cx} {e : Stmt} {t t' : TS} (h : PS X e t) (k : ∀ D σ H, t' D σ H → t D σ H) : PS X e t' := ⟨fun pins s σ H Q I q => h.run pins s σ H Q I (k Q σ H q)⟩
theorem PSs.imp {X : Cx} {e : List Stmt} {t t' : TS} (h : PSs X e t) (k : ∀ D σ H, t' D σ H → t D σ H) : PSs X e t' := ⟨fun pins s σ H Q I q => h.run pins s σ H Q I (k Q σ H q)⟩
section
variable {X : Cx} {a b c e : Expr} {es : List Expr} {δ : De} {pos : Pos} {R U1 U2 : Dt → Prop} {d x y : Dt} {ds : List Dt}
theorem XD.mono (h : XD X e δ U1) (k : ∀ d, U1 d → R d) : XD X e δ R := PE.imp h fun σ H Q ⟨p, B, G, i, en, q⟩ => ⟨p, B, G, i, en, fun v d G' H' r => q v d G' H' (k d r)⟩
theorem XT.mono {U1 R : Bool → Prop} (h : XT X e δ U1) (k : ∀ d, U1 d → R d) : XT X e δ R := PT.imp h fun σ H Q ⟨p, B, G, i, en, q⟩ => ⟨p, B, G, i, en, fun c G' H' r => q c G' H' (k c r)⟩
theorem XA.mono {U1 R : List Dt → Prop} (h : XA X es δ U1) (k : ∀ d, U1 d → R d) : XA X es δ R := ⟨PA.imp h.pa fun σ H Q ⟨p, B, G, i, en, q⟩ => ⟨p, B, G, i, en, fun v d G' H' r => q v d G' H' (k d r)⟩, h.pl⟩
theorem PD.is (h : PD X e δ x) (k : x = d) : PD X e δ d := k ▸ h
theorem pd_v (i : Nat) {x : Str} (hs : δ[i]? = some (.d d) := by rfl) (hN : X.N[i]? = some x := by rfl) (hv : Vis X.env.scope x := by first | exact Or.inl rfl | exact Or.inr (Or.inl rfl) | exact Or.inr (Or.inr rfl)) (hd : (x == ("__debug__" : Str)) = false := by decide)
    (hcd : (x == ("__classdict__" : Str)) = false := by decide) : PD X (.Name x pos) δ d := PE.imp (pe_var hN hv hd hcd) fun σ H Q ⟨p, B, G, i3, en, q⟩ => by
  obtain ⟨o, h1, v, rfl, h2⟩ := en.slot i _ hs
  exact ⟨v, h1, q v d G H rfl (.refl i3) h2⟩
theorem pd_int {i : Int} {j} : PD X (.Constant (.int i) j pos) δ (.int i) := PE.imp pe_int fun σ H Q ⟨p, B, G, i3, en, q⟩ => q _ _ G H rfl (.refl i3) (.int i)
theorem pd_bl {i : Bool} {j} : PD X (.Constant (.bool i) j pos) δ (.bool i) := PE.imp pe_bl fun σ H Q ⟨p, B, G, i3, en, q⟩ => q _ _ G H rfl (.refl i3) (.bl i)
theorem pd_str {i : Str} {j} : PD X (.Constant (.str i) j pos) δ (.str i) := PE.imp pe_str fun σ H Q ⟨p, B, G, i3, en, q⟩ => q _ _ G H rfl (.refl i3) (.str i)
theorem pd_non {j} : PD X (.Constant .none j pos) δ .none := PE.imp pe_non fun σ H Q ⟨p, B, G, i3, en, q⟩ => q _ _ G H rfl (.refl i3) .non
/-- a constant of the module -/
theorem pd_glob {x : Str} {v : V} {u : Value} (hg : Gl X x) (hm : X.mg x = some u) (r : RelV v u) (hv : ∀ G, Dz X.K G v d) (hd : (x == ("__debug__" : Str)) = false := by decide) : PD X (.Name x pos) δ d :=
  PE.imp (pe_glob hg hm r hd) fun σ H Q ⟨p, B, G, i3, en, q⟩ => q _ _ G H rfl (.refl i3) (hv G)
/-- two in a row -/
theorem two {U1 U2 : Dt → Prop} {K : Fg} {p : Option Addr} {B G H : Hp} {σ : L2.St} {Q : V → V → Hp → Prop} (i3 : I3 p B G H) (en : EnvD K p B G H σ δ)
    (k : ∀ v w d1 d2 G' H', U1 d1 → U2 d2 → Nxt p G H G' H' → I3 p B G' H' → Dz K G' v d1 → Dz K G' w d2 → Q v w H') : rX K δ U1 σ H fun v H1 => rX K δ U2 σ H1 fun w H2 => Q v w H2 :=
  ⟨p, B, G, i3, en, fun v d1 G1 H1 r1 n1 h1 => ⟨p, B, G1, i3.nxt n1, en.nxt n1, fun w d2 G2 H2 r2 n2 h2 => k v w d1 d2 G2 H2 r1 r2 (n1.trans n2) (i3.nxt (n1.trans n2)) (dp_ex n2.st.1 _ _ h1) h2⟩⟩
/-- what a relation of two values gives -/
def RD (K : Fg) (r : R2) (x y : Dt) (R : Dt → Prop) : Prop := ∀ p B G H v w, I3 p B G H → Dz K G v x → Dz K G w y → ∀ Q : VK, (∀ u d G' H', R d → Nxt p G H G' H' → Dz K G' u d → Q u H') → r v w H Q
theorem xd_op {op : Operator} {r : R2} (ho : OpR X (binaryOp op) r) (ha : XD X a δ U1) (hb : XD X b δ U2) (hr : ∀ x y, U1 x → U2 y → RD X.K r x y R) : XD X (.BinOp a op b pos) δ R :=
  PE.imp (pe_op ho ha hb) fun σ H Q ⟨p, B, G, i3, en, q⟩ => two i3 en fun v w d1 d2 G' H' r1 r2 n i' h1 h2 => hr d1 d2 r1 r2 p B G' H' v w i' h1 h2 Q fun u d G2 H2 rr n2 hu => q u d G2 H2 rr (n.trans n2) hu
theorem xd_cmp {op : CmpOp} {r : R2} (ho : OpR X (compareOp op) r) (ha : XD X a δ U1) (hb : XD X b δ U2) (hm : behindInMarks op b = false) (hr : ∀ x y, U1 x → U2 y → RD X.K r x y R) : XD X (.Compare a [op] [b] pos) δ R :=
  PE.imp (pe_cmpR ho ha hb hm) fun σ H Q ⟨p, B, G, i3, en, q⟩ => two i3 en fun v w d1 d2 G' H' r1 r2 n i' h1 h2 => hr d1 d2 r1 r2 p B G' H' v w i' h1 h2 Q fun u d G2 H2 rr n2 hu => q u d G2 H2 rr (n.trans n2) hu
theorem xd_ix {r : R2} (ho : IxR X r) (ha : XD X a δ U1) (hb : XD X b δ U2) (hs : PlainIx b) (hr : ∀ x y, U1 x → U2 y → RD X.K r x y R) : XD X (.Subscript a b pos) δ R :=
  PE.imp (pe_ix ho ha hb hs) fun σ H Q ⟨p, B, G, i3, en, q⟩ => two i3 en fun v w d1 d2 G' H' r1 r2 n i' h1 h2 => hr d1 d2 r1 r2 p B G' H' v w i' h1 h2 Q fun u d G2 H2 rr n2 hu => q u d G2 H2 rr (n.trans n2) hu
theorem rd_i {g : Int → Int → Int} {i j : Int} (hR : R (.int (g i j))) {K : Fg} : RD K (rI0 fun i j => .int (g i j)) (.int i) (.int j) R := by
  intro p B G H v w i3 h1 h2 Q q
  cases h1; cases h2
  exact ⟨i, j, rfl, rfl, q _ _ G H hR (.refl i3) (.int _)⟩
theorem rd_b {g : Int → Int → Bool} {i j : Int} (hR : R (.bool (g i j))) {K : Fg} : RD K (rI0 fun i j => .bl (g i j)) (.int i) (.int j) R := by
  intro p B G H v w i3 h1 h2 Q q
  cases h1; cases h2
  exact ⟨i, j, rfl, rfl, q _ _ G H hR (.refl i3) (.bl _)⟩
theorem rd_c {C : Int → Int → Prop} {g : Int → Int → Int} {i j : Int} (hc : C i j) (hR : R (.int (g i j))) {K : Fg} : RD K (rI C fun i j => .int (g i j)) (.int i) (.int j) R := by
  intro p B G H v w i3 h1 h2 Q q
  cases h1; cases h2
  exact ⟨i, j, rfl, rfl, hc, q _ _ G H hR (.refl i3) (.int _)⟩
variable {i j : Int}
theorem pd_add (ha : PD X a δ (.int i)) (hb : PD X b δ (.int j)) : PD X (.BinOp a .Add b pos) δ (.int (i + j)) := xd_op op_add ha hb fun x y e1 e2 => by subst e1; subst e2; (refine rd_i ?_; rfl)
theorem pd_sub (ha : PD X a δ (.int i)) (hb : PD X b δ (.int j)) : PD X (.BinOp a .Sub b pos) δ (.int (i - j)) := xd_op op_sub ha hb fun x y e1 e2 => by subst e1; subst e2; (refine rd_i ?_; rfl)
theorem pd_mul (ha : PD X a δ (.int i)) (hb : PD X b δ (.int j)) (hc : CMul i j) : PD X (.BinOp a .Mult b pos) δ (.int (i * j)) := xd_op op_mul ha hb fun x y e1 e2 => by subst e1; subst e2; (refine rd_c ?_ ?_; exact hc; rfl)
theorem pd_mod (ha : PD X a δ (.int i)) (hb : PD X b δ (.int j)) (hc : 0 < j) : PD X (.BinOp a .Mod b pos) δ (.int (i % j)) := xd_op op_mod ha hb fun x y e1 e2 => by subst e1; subst e2; (refine rd_c ?_ ?_; exact hc; rfl)
theorem pd_fdiv (ha : PD X a δ (.int i)) (hb : PD X b δ (.int j)) (hc : CDiv i j) : PD X (.BinOp a .FloorDiv b pos) δ (.int (i / j)) := xd_op op_fdiv ha hb fun x y e1 e2 => by subst e1; subst e2; (refine rd_c ?_ ?_; exact hc; rfl)
theorem pd_pow (ha : PD X a δ (.int i)) (hb : PD X b δ (.int j)) (hc : CPow i j) : PD X (.BinOp a .Pow b pos) δ (.int (i ^ j.toNat)) := xd_op op_pow ha hb fun x y e1 e2 => by subst e1; subst e2; (refine rd_c ?_ ?_; exact hc; rfl)
theorem pd_lt (ha : PD X a δ (.int i)) (hb : PD X b δ (.int j)) : PD X (.Compare a [.Lt] [b] pos) δ (.bool (decide (i < j))) := xd_cmp op_lt ha hb (nomark _) fun x y e1 e2 => by subst e1; subst e2; (refine rd_b ?_; rfl)
theorem pd_le (ha : PD X a δ (.int i)) (hb : PD X b δ (.int j)) : PD X (.Compare a [.LtE] [b] pos) δ (.bool (decide (i ≤ j))) := xd_cmp op_le ha hb (nomark _) fun x y e1 e2 => by subst e1; subst e2; (refine rd_b ?_; rfl)
theorem pd_gt (ha : PD X a δ (.int i)) (hb : PD X b δ (.int j)) : PD X (.Compare a [.Gt] [b] pos) δ (.bool (decide (j < i))) := xd_cmp op_gt ha hb (nomark _) fun x y e1 e2 => by subst e1; subst e2; (refine rd_b ?_; rfl)
theorem pd_ge (ha : PD X a δ (.int i)) (hb : PD X b δ (.int j)) : PD X (.Compare a [.GtE] [b] pos) δ (.bool (decide (j ≤ i))) := xd_cmp op_ge ha hb (nomark _) fun x y e1 e2 => by subst e1; subst e2; (refine rd_b ?_; rfl)
theorem pd_eqI (ha : PD X a δ (.int i)) (hb : PD X b δ (.int j)) : PD X (.Compare a [.Eq] [b] pos) δ (.bool (decide (i = j))) := xd_cmp op_eq ha hb (nomark _) fun x y e1 e2 => by
  subst e1; subst e2
  intro p B G H v w i3 h1 h2 Q q
  cases h1; cases h2
  refine ⟨rfl, q _ _ G H rfl (.refl i3) ?_⟩
  have : decide (V.int i = V.int j) = decide (i = j) := by rw [dec_int]; rfl
  rw [this]; exact .bl _
theorem pd_neI (ha : PD X a δ (.int i)) (hb : PD X b δ (.int j)) : PD X (.Compare a [.NotEq] [b] pos) δ (.bool (!decide (i = j))) := xd_cmp op_ne ha hb (nomark _) fun x y e1 e2 => by
  subst e1; subst e2
  intro p B G H v w i3 h1 h2 Q q
  cases h1; cases h2
  refine ⟨rfl, q _ _ G H rfl (.refl i3) ?_⟩
  have : decide (V.int i = V.int j) = decide (i = j) := by rw [dec_int]; rfl
  rw [this]; exact .bl _
theorem pd_eqS {i j : Str} (ha : PD X a δ (.str i)) (hb : PD X b δ (.str j)) : PD X (.Compare a [.Eq] [b] pos) δ (.bool (decide (i = j))) := xd_cmp op_eq ha hb (nomark _) fun x y e1 e2 => by
  subst e1; subst e2
  intro p B G H v w i3 h1 h2 Q q
  cases h1; cases h2
  refine ⟨rfl, q _ _ G H rfl (.refl i3) ?_⟩
  have : decide (V.str i = V.str j) = decide (i = j) := by by_cases h : i = j <;> simp [h]
  rw [this]; exact .bl _
theorem pd_neS {i j : Str} (ha : PD X a δ (.str i)) (hb : PD X b δ (.str j)) : PD X (.Compare a [.NotEq] [b] pos) δ (.bool (!decide (i = j))) := xd_cmp op_ne ha hb (nomark _) fun x y e1 e2 => by
  subst e1; subst e2
  intro p B G H v w i3 h1 h2 Q q
  cases h1; cases h2
  refine ⟨rfl, q _ _ G H rfl (.refl i3) ?_⟩
  have : decide (V.str i = V.str j) = decide (i = j) := by by_cases h : i = j <;> simp [h]
  rw [this]; exact .bl _
theorem pd_eqB {i j : Bool} (ha : PD X a δ (.bool i)) (hb : PD X b δ (.bool j)) : PD X (.Compare a [.Eq] [b] pos) δ (.bool (decide (i = j))) := xd_cmp op_eq ha hb (nomark _) fun x y e1 e2 => by
  subst e1; subst e2
  intro p B G H v w i3 h1 h2 Q q
  cases h1; cases h2
  refine ⟨rfl, q _ _ G H rfl (.refl i3) ?_⟩
  have : decide (V.bl i = V.bl j) = decide (i = j) := by by_cases h : i = j <;> simp [h]
  rw [this]; exact .bl _
theorem pd_neB {i j : Bool} (ha : PD X a δ (.bool i)) (hb : PD X b δ (.bool j)) : PD X (.Compare a [.NotEq] [b] pos) δ (.bool (!decide (i = j))) := xd_cmp op_ne ha hb (nomark _) fun x y e1 e2 => by
  subst e1; subst e2
  intro p B G H v w i3 h1 h2 Q q
  cases h1; cases h2
  refine ⟨rfl, q _ _ G H rfl (.refl i3) ?_⟩
  have : decide (V.bl i = V.bl j) = decide (i = j) := by by_cases h : i = j <;> simp [h]
  rw [this]; exact .bl _
/-- == and != of data -/
theorem pd_eqD (hu : X.A.units + 64 < cLine) (ha : PD X a δ x) (hb : PD X b δ y) (hx : SeqAt.shaped x = true) (hy : SeqAt.shaped y = true) : PD X (.Compare a [.Eq] [b] pos) δ (.bool (PyData.eqv x y)) := xd_cmp (op_eqD hu) ha hb (nomark _) fun x y e1 e2 => by
  subst e1; subst e2
  intro p B G H v w i3 h1 h2 Q q
  exact ⟨_, _, dz_dp _ _ (nds hx) (dp_ex i3.gh _ _ h1), dz_dp _ _ (nds hy) (dp_ex i3.gh _ _ h2), hx, hy, q _ _ G H rfl (.refl i3) (.bl _)⟩
theorem pd_neD (hu : X.A.units + 64 < cLine) (ha : PD X a δ x) (hb : PD X b δ y) (hx : SeqAt.shaped x = true) (hy : SeqAt.shaped y = true) : PD X (.Compare a [.NotEq] [b] pos) δ (.bool (!PyData.eqv x y)) := xd_cmp (op_neD hu) ha hb (nomark _) fun x y e1 e2 => by
  subst e1; subst e2
  intro p B G H v w i3 h1 h2 Q q
  exact ⟨_, _, dz_dp _ _ (nds hx) (dp_ex i3.gh _ _ h1), dz_dp _ _ (nds hy) (dp_ex i3.gh _ _ h2), hx, hy, q _ _ G H rfl (.refl i3) (.bl _)⟩
theorem pd_isN {c : Bool} (ha : PD X a δ x) (hb : PD X b δ .none) (hc : c = (match x with | .none => true | _ => false) := by rfl) : PD X (.Compare a [.Is] [b] pos) δ (.bool c) := xd_cmp op_isN ha hb (nomark _) fun x y e1 e2 => by
  subst e1; subst e2
  intro p B G H v w i3 h1 h2 Q q
  cases h2
  refine ⟨rfl, q _ _ G H rfl (.refl i3) ?_⟩
  subst hc
  cases h1 <;> exact .bl _
theorem pd_notN {c : Bool} (ha : PD X a δ x) (hb : PD X b δ .none) (hc : c = (match x with | .none => false | _ => true) := by rfl) : PD X (.Compare a [.IsNot] [b] pos) δ (.bool c) := xd_cmp op_notN ha hb (nomark _) fun x y e1 e2 => by
  subst e1; subst e2
  intro p B G H v w i3 h1 h2 Q q
  cases h2
  refine ⟨rfl, q _ _ G H rfl (.refl i3) ?_⟩
  subst hc
  cases h1 <;> exact .bl _
/-! places -/
theorem atI_all {K : Fg} {G : Hp} {xs : List V} {ds : List Dt} {i : Int} {d : Dt} (h : DzAll K G xs ds) (e : atI ds i = some d) : ∃ v, atI xs i = some v ∧ Dz K G v d := by
  unfold atI at e ⊢
  rw [← dpAll_length h] at e
  cases q : ixN xs.length i with
  | none => rw [q] at e; cases e
  | some j => rw [q] at e; exact dpAll_get h e
theorem rd_ixT {K : Fg} {i : Int} (h : ∃ d, atI ds i = some d ∧ R d) : RD K (rIxT K) (.tuple ds) (.int i) R := by
  intro p B G H v w i3 h1 h2 Q q
  cases h2
  cases h1 with
  | tup hs ha =>
    obtain ⟨d, e, hR⟩ := h
    obtain ⟨u, e1, e2⟩ := atI_all ha e
    exact ⟨_, _, i, u, rfl, rfl, ex_t i3.gh hs, e1, q u d G H hR (.refl i3) e2⟩
theorem rd_ixL {K : Fg} {i : Int} (h : ∃ d, atI ds i = some d ∧ R d) : RD K (rIxL K) (.list ds) (.int i) R := by
  intro p B G H v w i3 h1 h2 Q q
  cases h2
  cases h1 with
  | lst hs ha =>
    obtain ⟨d, e, hR⟩ := h
    obtain ⟨u, e1, e2⟩ := atI_all ha e
    exact ⟨_, _, i, u, rfl, rfl, exl i3.gh hs, e1, q u d G H hR (.refl i3) e2⟩
theorem pd_ixT (ha : PD X a δ (.tuple ds)) (hb : PD X b δ (.int i)) (h : atI ds i = some d) (hs : PlainIx b := by exact fun _ _ => rfl) : PD X (.Subscript a b pos) δ d := xd_ix ix_tup ha hb hs fun x y e1 e2 => by subst e1; subst e2; exact rd_ixT ⟨d, h, rfl⟩
theorem pd_ixL (ha : PD X a δ (.list ds)) (hb : PD X b δ (.int i)) (h : atI ds i = some d) (hs : PlainIx b := by exact fun _ _ => rfl) : PD X (.Subscript a b pos) δ d := xd_ix ix_list ha hb hs fun x y e1 e2 => by subst e1; subst e2; exact rd_ixL ⟨d, h, rfl⟩
/-! bool values, conditional expressions -/
theorem pd_not {c : Bool} (ha : PD X a δ (.bool c)) : PD X (.UnaryOp .Not a pos) δ (.bool (!c)) := PE.imp (pe_not ha) fun σ H Q ⟨p, B, G, i3, en, q⟩ => ⟨p, B, G, i3, en, fun v d G' H' r n h => by
  subst r; cases h; exact ⟨c, rfl, q _ _ G' H' rfl n (.bl _)⟩⟩
theorem pd_one {op} (h : XD X a δ R) : XD X (.BoolOp op [a] pos) δ R := pe_one h
theorem pd_and {rest : List Expr} {u w : Bool} (ha : PD X a δ (.bool u)) (hb : u = true → PD X (.BoolOp .And (b :: rest) pos) δ (.bool w)) : PD X (.BoolOp .And (a :: b :: rest) pos) δ (.bool (u && w)) := by
  cases u with
  | true => exact PE.imp (pe_and ha (hb rfl)) fun σ H Q ⟨p, B, G, i3, en, q⟩ => ⟨p, B, G, i3, en, fun v d G' H' r n h => by
      subst r; cases h
      exact ⟨true, rfl, iteT ⟨p, B, G', i3.nxt n, en.nxt n, fun v2 d2 G2 H2 r2 n2 h2 => by subst r2; exact q v2 _ G2 H2 rfl (n.trans n2) h2⟩⟩⟩
  | false =>
    have hz : PE X (.BoolOp .And (b :: rest) pos) (fun _ _ _ => False) := ⟨fun _ _ _ _ _ _ z => z.elim⟩
    exact PE.imp (pe_and ha hz) fun σ H Q ⟨p, B, G, i3, en, q⟩ => ⟨p, B, G, i3, en, fun v d G' H' r n h => by
      subst r; cases h
      exact ⟨false, rfl, iteF (q _ _ G' H' rfl n (.bl _))⟩⟩
theorem pd_or {rest : List Expr} {u w : Bool} (ha : PD X a δ (.bool u)) (hb : u = false → PD X (.BoolOp .Or (b :: rest) pos) δ (.bool w)) : PD X (.BoolOp .Or (a :: b :: rest) pos) δ (.bool (u || w)) := by
  cases u with
  | false => exact PE.imp (pe_or ha (hb rfl)) fun σ H Q ⟨p, B, G, i3, en, q⟩ => ⟨p, B, G, i3, en, fun v d G' H' r n h => by
      subst r; cases h
      exact ⟨false, rfl, iteF ⟨p, B, G', i3.nxt n, en.nxt n, fun v2 d2 G2 H2 r2 n2 h2 => by subst r2; exact q v2 _ G2 H2 rfl (n.trans n2) h2⟩⟩⟩
  | true =>
    have hz : PE X (.BoolOp .Or (b :: rest) pos) (fun _ _ _ => False) := ⟨fun _ _ _ _ _ _ z => z.elim⟩
    exact PE.imp (pe_or ha hz) fun σ H Q ⟨p, B, G, i3, en, q⟩ => ⟨p, B, G, i3, en, fun v d G' H' r n h => by
      subst r; cases h
      exact ⟨true, rfl, iteT (q _ _ G' H' rfl n (.bl _))⟩⟩
/-! tests -/
theorem xt_val {R : Bool → Prop} (h : XD X e δ fun d => ∃ c, d = .bool c ∧ R c) (he : ∀ whole, isTrue e X.env whole = (do let v ← whole; standAt e.pos; holding [v] (truthy v)) := by intro _; rfl) : XT X e δ R := PT.imp (pt_val h he) fun σ H Q ⟨p, B, G, i3, en, q⟩ =>
  ⟨p, B, G, i3, en, fun v d G' H' ⟨c, r, rc⟩ n hv => by subst r; cases hv; exact ⟨c, rfl, q c G' H' rc n⟩⟩
theorem pt_v {u : Bool} (h : PD X e δ (.bool u)) (he : ∀ whole, isTrue e X.env whole = (do let v ← whole; standAt e.pos; holding [v] (truthy v)) := by intro _; rfl) : PTD X e δ u := xt_val (h.mono fun d e => ⟨u, e, rfl⟩) he
theorem xt_cmp {op : CmpOp} {r : R2} {R : Bool → Prop} (ho : OpR X (compareOp op) r) (ha : XD X a δ U1) (hb : XD X b δ U2) (hm : behindInMarks op b = false) (hr : ∀ x y, U1 x → U2 y → RD X.K r x y fun d => ∃ c, d = .bool c ∧ R c) : XT X (.Compare a [op] [b] pos) δ R :=
  PT.imp (pt_cmpR ho ha hb hm) fun σ H Q ⟨p, B, G, i3, en, q⟩ => two i3 en fun v w d1 d2 G' H' r1 r2 n i' h1 h2 => hr d1 d2 r1 r2 p B G' H' v w i' h1 h2 _ fun u d G2 H2 ⟨c, rr, rc⟩ n2 hu => by
    subst rr; cases hu; exact ⟨c, rfl, q c G2 H2 rc (n.trans n2)⟩
theorem xt_not {R : Bool → Prop} (h : XT X e δ fun c => R (!c)) : XT X (.UnaryOp .Not e pos) δ R := PT.imp (pt_not h) fun σ H Q ⟨p, B, G, i3, en, q⟩ => ⟨p, B, G, i3, en, fun c G' H' r n => q _ G' H' r n⟩
theorem pt_n {u : Bool} (h : PTD X e δ u) : PTD X (.UnaryOp .Not e pos) δ (!u) := xt_not (h.mono fun c e => by rw [e])
theorem XW.pt {R : Bool → Prop} (h : XW X e δ R) : XT X e δ R := L2.PW.pt h
theorem pw_a1 {R : Bool → Prop} (h : XT X a δ R) : XW X (.BoolOp .And [a] pos) δ R := pw_and1 h
theorem pw_o1 {R : Bool → Prop} (h : XT X a δ R) : XW X (.BoolOp .Or [a] pos) δ R := pw_or1 h
theorem pw_a {rest : List Expr} {u w : Bool} (ha : PTD X a δ u) (hb : u = true → PWD X (.BoolOp .And (b :: rest) pos) δ w) : PWD X (.BoolOp .And (a :: b :: rest) pos) δ (u && w) := by
  cases u with
  | true => exact PW.imp (pw_and ha (hb rfl)) fun σ H Q ⟨p, B, G, i3, en, q⟩ => ⟨p, B, G, i3, en, fun c G' H' r n => by
      subst r
      exact iteT ⟨p, B, G', i3.nxt n, en.nxt n, fun c2 G2 H2 r2 n2 => by subst r2; exact q _ G2 H2 rfl (n.trans n2)⟩⟩
  | false =>
    have hz : PW X (.BoolOp .And (b :: rest) pos) (fun _ _ _ => False) := ⟨fun _ _ _ _ _ _ _ z => z.elim⟩
    exact PW.imp (pw_and ha hz) fun σ H Q ⟨p, B, G, i3, en, q⟩ => ⟨p, B, G, i3, en, fun c G' H' r n => by
      subst r
      exact iteF (q _ G' H' rfl n)⟩
theorem pw_o {rest : List Expr} {u w : Bool} (ha : PTD X a δ u) (hb : u = false → PWD X (.BoolOp .Or (b :: rest) pos) δ w) : PWD X (.BoolOp .Or (a :: b :: rest) pos) δ (u || w) := by
  cases u with
  | false => exact PW.imp (pw_or ha (hb rfl)) fun σ H Q ⟨p, B, G, i3, en, q⟩ => ⟨p, B, G, i3, en, fun c G' H' r n => by
      subst r
      exact iteF ⟨p, B, G', i3.nxt n, en.nxt n, fun c2 G2 H2 r2 n2 => by subst r2; exact q _ G2 H2 rfl (n.trans n2)⟩⟩
  | true =>
    have hz : PW X (.BoolOp .Or (b :: rest) pos) (fun _ _ _ => False) := ⟨fun _ _ _ _ _ _ _ z => z.elim⟩
    exact PW.imp (pw_or ha hz) fun σ H Q ⟨p, B, G, i3, en, q⟩ => ⟨p, B, G, i3, en, fun c G' H' r n => by
      subst r
      exact iteT (q _ G' H' rfl n)⟩
/-- conditional expressions -/
theorem xd_if {S : Bool → Prop} (hc : XT X c δ S) (ha : S true → XD X a δ R) (hb : S false → XD X b δ R) : XD X (.IfExp c a b pos) δ R := by
  have za : PE X a (fun σ H Q => S true ∧ rX X.K δ R σ H Q) := ⟨fun pins s σ H Q I h => (ha h.1).run pins s σ H Q I h.2⟩
  have zb : PE X b (fun σ H Q => S false ∧ rX X.K δ R σ H Q) := ⟨fun pins s σ H Q I h => (hb h.1).run pins s σ H Q I h.2⟩
  exact PE.imp (pe_ifExp hc za zb) fun σ H Q ⟨p, B, G, i3, en, q⟩ => ⟨p, B, G, i3, en, fun k G' H' r n => by
    cases k with
    | true => exact iteT ⟨r, p, B, G', i3.nxt n, en.nxt n, fun v d G2 H2 r2 n2 h2 => q v d G2 H2 r2 (n.trans n2) h2⟩
    | false => exact iteF ⟨r, p, B, G', i3.nxt n, en.nxt n, fun v d G2 H2 r2 n2 h2 => q v d G2 H2 r2 (n.trans n2) h2⟩⟩
theorem pd_if {k : Bool} (hc : PTD X c δ k) (ha : k = true → PD X a δ d) (hb : k = false → PD X b δ d) : PD X (.IfExp c a b pos) δ d := xd_if hc (fun h => ha h.symm) fun h => hb h.symm
/-! argument lists, displays -/
theorem xa_nil : XA X [] δ (fun ds => ds = []) := ⟨PA.imp pa_nil fun σ H Q ⟨p, B, G, i3, en, q⟩ => q [] [] G H rfl (.refl i3) .nil, rfl⟩
theorem xa_cons {S T : List Dt → Prop} (ha : XD X e δ R) (hr : XA X es δ S) (hT : ∀ d ds, R d → S ds → T (d :: ds)) (hs : starEach (e :: es) X.env = (false, eval e X.env) :: starEach es X.env := by rfl) : XA X (e :: es) δ T :=
  ⟨PA.imp (pa_cons ha hr.pa hs) fun σ H Q ⟨p, B, G, i3, en, q⟩ => ⟨p, B, G, i3, en, fun v d G1 H1 r1 n1 h1 => ⟨p, B, G1, i3.nxt n1, en.nxt n1, fun vs ds G2 H2 r2 n2 h2 => q (v :: vs) (d :: ds) G2 H2 (hT d ds r1 r2) (n1.trans n2) (.cons (dp_ex n2.st.1 _ _ h1) h2)⟩⟩, by rw [hs, hr.pl]; rfl⟩
theorem pa_n : PAD X [] δ [] := xa_nil
theorem pa_c (ha : PD X e δ d) (hr : PAD X es δ ds) (hs : starEach (e :: es) X.env = (false, eval e X.env) :: starEach es X.env := by rfl) : PAD X (e :: es) δ (d :: ds) := xa_cons ha hr (fun a b h1 h2 => by rw [h1, h2]) hs
theorem xd_tup {S : List Dt → Prop} {k} (h : XA X es δ S) (hl : es.length ≤ 1000) (hS : ∀ ds, S ds → R (.tuple ds) ∧ ds.length ≤ 100000) : XD X (.Tuple es k pos) δ R := PE.imp (pe_tup h.pa) fun σ H Q ⟨p, B, G, i3, en, q⟩ => ⟨p, B, G, i3, en, fun vs ds G' H' r n h' =>
  ⟨by rw [dpAll_length h']; exact Nat.le_trans (hS ds r).2 (by decide), fun a ha => q (.ref a) _ _ _ (hS ds r).1 (n.trans (.new (i3.nxt n) (.tup vs) ha)) (.tup (.inl (.inl upd_same)) (dpAll_ex (Ex.new ((i3.nxt n).gh.free ha)) _ _ h'))⟩⟩
theorem xd_lst {S : List Dt → Prop} (h : XA X es δ S) (hS : ∀ ds, S ds → R (.list ds) ∧ ds.length ≤ 100000) : XD X (.List es pos) δ R := PE.imp (pe_lst h.pa) fun σ H Q ⟨p, B, G, i3, en, q⟩ => ⟨p, B, G, i3, en, fun vs ds G' H' r n h' =>
  ⟨by rw [dpAll_length h']; exact Nat.le_trans (hS ds r).2 (by decide), fun a ha => q (.ref a) _ _ _ (hS ds r).1 (n.trans (.new (i3.nxt n) (.lst vs) ha)) (.lst (.inl (.inl upd_same)) (dpAll_ex (Ex.new ((i3.nxt n).gh.free ha)) _ _ h'))⟩⟩
theorem pd_tup {k} (h : PAD X es δ ds) (hl : ds.length ≤ 100000 := by first | decide | simp) : PD X (.Tuple es k pos) δ (.tuple ds) := PE.imp (pe_tup h.pa) fun σ H Q ⟨p, B, G, i3, en, q⟩ => ⟨p, B, G, i3, en, fun vs ds G' H' r n h' =>
  ⟨by rw [dpAll_length h', r]; exact Nat.le_trans hl (by decide), fun a ha => q (.ref a) _ _ _ (by rw [r]) (n.trans (.new (i3.nxt n) (.tup vs) ha)) (.tup (.inl (.inl upd_same)) (dpAll_ex (Ex.new ((i3.nxt n).gh.free ha)) _ _ h'))⟩⟩
theorem pd_lst (h : PAD X es δ ds) (hl : ds.length ≤ 100000 := by first | decide | simp) : PD X (.List es pos) δ (.list ds) := xd_lst h fun ds' e => by subst e; exact ⟨rfl, hl⟩
end
end Dv

set_option linter.all false
set_option maxRecDepth 100000
set_option maxHeartbeats 2000000
namespace Dv
open PySem PySem.Spec PyProof.Rows L2
variable [Tbl]
/-! ### defs, where no repr is under way -/
structure FnG (P : Program) (w : World) (K : Fg) (mg : Str → Option Value) (base : Heap) (k : Nat) (f : Addr) (fd : FuncData) (ps : List Str) (sp : Sp) : Prop where
  len : ∀ vs H Q E, sp vs H Q E → vs.length = ps.length
  run : ∀ (A : Around) (outer : List Env) (s : Shared) (H : Hp) (args : Args) (us : List Value) (vs : List V) (Q : VK) (E : XK),
    Room k A → A.guards = some [] → Env0 P w K mg base A outer s H → BindsTo s fd args (ps.zip us) → Vals vs us → sp vs H Q E →
      codeAny (model P w) A (.call (.ref f) args) (CR CX0 outer P w H s Q E) s
section
variable {P : Program} {w : World} {K : Fg} {mg : Str → Option Value} {base : Heap}
abbrev xc (P : Program) (w : World) (K : Fg) (mg : Str → Option Value) (base : Heap) (N : List Str) (x : Str) (st : Stmt) (f : Addr) (cdv : Value) (A : Around) (outer : List Env) (s : Shared) (H : Hp) (E : XK) : Cx :=
  (cxOf CX0 P w K mg base N x (defScope st) f cdv A outer s H E).nox
theorem fnG_of {x : Str} {st : Stmt} {f : Addr} {fd : FuncData} {N ps : List Str} {k : Nat} {sp : Sp} (F : Fun K x x st f fd) (S : FnScope N ps (defScope st)) (len : ∀ vs H Q E, sp vs H Q E → vs.length = ps.length)
    (body : ∀ (cdv : Value) (A : Around) (outer : List Env) (s : Shared) (H : Hp) (vs : List V) (Q : VK) (E : XK), Room k (A.deeper (envOfC x (defScope st) s.heap.objs.size f cdv)) → A.guards = some [] → sp vs H Q E →
      ∃ t, PSs (xc P w K mg base N x st f cdv A outer s H E) (defBody st) t ∧ t { nx := fun _ H' => Q .non H', rt := Q } (start N vs) H) : FnG P w K mg base (k + 1) f fd ps sp := by
  obtain ⟨oc, od, kV, doc, pm, an, cdv, ct, osl, rfl, lk, hcd⟩ := F.ex
  refine ⟨len, fun A outer s H args us vs Q E hr hg e0 hb r hsp => ?_⟩
  have hl := len _ _ _ _ hsp
  have KX : K.In s.heap := e0.mod.kin.keeps fun b o e => (e0.bs b o e).1
  have lim : s.heap.NoLimit := e0.mod.nolimit.keeps fun b o e => (e0.bs b o e).1
  refine codeAny_call_function hr.depth (KX _ _ lk) rfl S.co S.gen rfl (PySem.W.codeRec_of KX hcd) (hb _ _ _ _ ?_)
  refine wpAny_newFunctionEnv_cells S.kind (fun ⟨n, v⟩ hy => ?_) fun env he s1 z => ?_
  · rcases S.par n (List.of_mem_zip hy).1 with q | q
    · exact .inl q
    · exact .inr ⟨q, PySem.W.cellsFrom_some _ _ _ (.inl q)⟩
  · subst he
    refine ⟨lim.keeps z.toInCall.keep, codeAny_func ?_⟩
    obtain ⟨t, ht, hq⟩ := body cdv A outer s H vs Q E (hr.deeper _) hg hsp
    have I : Inv (cxOf CX0 P w K mg base N x (defScope st) f cdv A outer s H E) [] (start N vs) H s1 := inv_start S hr.hd e0 hl r z
    refine wpAny_mono (ht.nox.run [] s1 (start N vs) H _ I hq) (fun fl s' hs => ?_) fun e s' hs => hs
    cases fl with
    | ret u => obtain ⟨v, σ', H', J, rv, q⟩ := hs; exact ⟨v, H', J.os, J.bare, J.base, J.hok, rv, q⟩
    | next => obtain ⟨σ', H', J, q⟩ := hs; exact ⟨V.non, H', J.os, J.bare, J.base, J.hok, rfl, q⟩
    | brk => obtain ⟨_, _, _, q⟩ := hs; exact False.elim q
    | cont => obtain ⟨_, _, _, q⟩ := hs; exact False.elim q
end
section
variable {X : Cx} {k n : Nat} {f : Addr} {fd : FuncData} {ps ks : List Str} {sp : Sp} {x : Str} {p pos : Pos} {e : Expr} {es : List Expr} {t tk : TA} {kws : List Keyword} {g : List Value → List Value → List Value} {gV : List V → List V → List V}
theorem fnG_end {pins : List (Addr × Obj)} {σ : L2.St} {H : Hp} {s s' : Shared} {Q : VK} {E : XK} {r : Result} (I : Inv X pins σ H s) (hq : CR CX0 X.stack X.prog X.w H s Q E r s') : match r with
    | .ok (.ret u) => EP X pins σ Q u s'
    | .ok _ => False
    | .error e => X.xe e s' := by
  cases r with
  | error e => exact False.elim hq
  | ok fl =>
    cases fl with
    | ret u => exact I.after hq
    | next => exact False.elim hq
    | brk => exact False.elim hq
    | cont => exact False.elim hq
theorem run_g {pins : List (Addr × Obj)} {σ : L2.St} {H : Hp} {s : Shared} {Q : VK} {us : List Value} {vs : List V} (F : FnG X.prog X.w X.K X.mg X.base k f fd ps sp) (hr : Room k X.A) (hgd : X.A.guards = some []) (hb : Binds X.K fd ps [])
    (I : Inv X pins σ H s) (r : Vals vs us) (h : sp vs H Q E0) : wpAny (model X.prog X.w) X.A (call (.ref f) us) (EP X pins σ Q) X.xe s := by
  have hl : (us ++ []).length = ps.length := by rw [List.append_nil, ← r.length]; exact F.len _ _ _ _ h
  have hb' := hb s us I.kIn hl
  rw [List.append_nil] at hb'
  refine wpAny_call (codeAny_mono (F.run X.A X.stack s H ⟨us, []⟩ us vs Q E0 hr hgd I.env0 hb' r h) fun r s' hq => ?_)
  have z := fnG_end I hq
  cases r with
  | error e => exact z
  | ok fl => cases fl <;> first | exact z | exact False.elim z
theorem pe_g (F : FnG X.prog X.w X.K X.mg X.base k f fd ps sp) (hr : Room k X.A) (hgd : X.A.guards = some []) (hg : Gl X x) (hm : X.mg x = some (.ref f)) (hk : PySem.W.keepIn X.K (.ref f) = true) (hb : Binds X.K fd ps [])
    (ha : PA X (e :: es) t) (hdb : (x == ("__debug__" : Str)) = false := by decide) (he : starEach (e :: es) X.env = (false, eval e X.env) :: starEach es X.env := by rfl) (hpl : (backTo pos (starEach es X.env)).any (·.1) = false := by rfl) :
    PE X (.Call (.Name x p) (e :: es) [] pos) (fun σ H Q => t σ H fun vs H1 => sp vs H1 Q E0) := by
  refine ⟨fun pins s σ H Q I h => ?_⟩
  refine wpAny_Call_Name_kw (ld_glob I hg hm ?_ hdb)
  refine PySem.W.callWith_K (h₀ := X.base) I.ok.mod.kin hk (thn (ha.run pos pins s σ H _ I h) fun us s1 ⟨vs, H1, I1, r, q⟩ => ⟨I1.kIn, ?_⟩) he hpl
  exact run_g F hr hgd hb I1 r q
theorem pe_g0 (F : FnG X.prog X.w X.K X.mg X.base k f fd ps sp) (hr : Room k X.A) (hgd : X.A.guards = some []) (hg : Gl X x) (hm : X.mg x = some (.ref f)) (hk : PySem.W.keepIn X.K (.ref f) = true) (hb : Binds X.K fd ps [])
    (hdb : (x == ("__debug__" : Str)) = false := by decide) : PE X (.Call (.Name x p) [] [] pos) (fun σ H Q => sp [] H Q E0) := by
  refine ⟨fun pins s σ H Q I h => ?_⟩
  refine wpAny_Call_Name_kw (ld_glob I hg hm ?_ hdb)
  exact PySem.W.callWith_K0 I.kIn hk (run_g (us := []) F hr hgd hb I .nil h)
end
end Dv

set_option linter.all false
set_option maxRecDepth 100000
set_option maxHeartbeats 2000000
namespace Dv
open PySem PySem.Spec PyProof.Rows L2
variable [Tbl]
/-! ### what is walked -/
def Yld (K : Fg) (J : It) (G : Hp) (ds : List Dt) : Prop := ∀ p B G1 H1, Ex G G1 → I3 p B G1 H1 → ∀ i : Nat,
  (i < ds.length → J.go i H1 ∧ ∀ x H2, J.yld i H1 x H2 → ∃ G2 d, ds[i]? = some d ∧ Nxt p G1 H1 G2 H2 ∧ Dz K G2 x d) ∧ (i = ds.length → J.stop i H1)
def rI (K : Fg) (δ : De) (S : List Dt → Prop) : TI := fun σ H R => ∃ p B G, I3 p B G H ∧ EnvD K p B G H σ δ ∧ ∀ J ds G' H', S ds → Nxt p G H G' H' → Yld K J G' ds → R J H'
def XI (X : Cx) (tg e : Expr) (δ : De) (S : List Dt → Prop) : Prop := PI X tg e (rI X.K δ S)
abbrev ID (X : Cx) (tg e : Expr) (δ : De) (ds : List Dt) : Prop := XI X tg e δ (fun x => x = ds)
theorem PI.imp {X : Cx} {tg e : Expr} {t t' : TI} (h : PI X tg e t) (k : ∀ σ H Q, t' σ H Q → t σ H Q) : PI X tg e t' := ⟨fun pins s σ H Q I q => h.run pins s σ H Q I (k σ H Q q)⟩
theorem yld_list {K : Fg} {G : Hp} {a : Addr} {xs : List V} {ds : List Dt} (hs : SqX K G a xs) (ha : DzAll K G xs ds) (inj : ∀ H, Ex G H → ∀ ys, SqL K H a ys → True := by intros; trivial) : Yld K (Itl K a) G ds := by
  intro p B G1 H1 e i3 i
  have h1 : SqL K H1 a xs := exl (e.trans i3.gh) hs
  refine ⟨fun hi => ?_, fun hi => ⟨xs, h1, by rw [dpAll_length ha]; omega⟩⟩
  obtain ⟨v, hv, hd⟩ := dpAll_get (i := i) (d := ds[i]) ha (List.getElem?_eq_getElem hi)
  refine ⟨⟨xs, v, h1, hv⟩, fun x H2 ⟨e2, hx⟩ => ?_⟩
  subst e2
  have := hx xs h1
  rw [hv] at this
  cases this
  exact ⟨G1, ds[i], List.getElem?_eq_getElem hi, .refl i3, dp_ex e _ _ hd⟩
theorem yld_tup {K : Fg} {G : Hp} {a : Addr} {xs : List V} {ds : List Dt} (hs : SqT K G a xs) (ha : DzAll K G xs ds) : Yld K (Itt K a) G ds := by
  intro p B G1 H1 e i3 i
  have h1 : SqT K H1 a xs := ex_t (e.trans i3.gh) hs
  refine ⟨fun hi => ?_, fun hi => ⟨xs, h1, by rw [dpAll_length ha]; omega⟩⟩
  obtain ⟨v, hv, hd⟩ := dpAll_get (i := i) (d := ds[i]) ha (List.getElem?_eq_getElem hi)
  refine ⟨⟨xs, v, h1, hv⟩, fun x H2 ⟨e2, hx⟩ => ?_⟩
  subst e2
  have := hx xs h1
  rw [hv] at this
  cases this
  exact ⟨G1, ds[i], List.getElem?_eq_getElem hi, .refl i3, dp_ex e _ _ hd⟩
def rngD (lo : Int) (n : Nat) : List Dt := (List.range n).map fun i => .int (lo + (i : Nat))
theorem rngD_get {lo : Int} {n i : Nat} (h : i < n) : (rngD lo n)[i]? = some (.int (lo + (i : Nat))) := by
  unfold rngD
  rw [List.getElem?_map, List.getElem?_range h]; rfl
theorem rngD_length {lo : Int} {n : Nat} : (rngD lo n).length = n := by unfold rngD; rw [List.length_map, List.length_range]
theorem yld_rng {K : Fg} {G : Hp} {lo : Int} {n : Nat} : Yld K (Itr lo n) G (rngD lo n) := by
  intro p B G1 H1 e i3 i
  rw [rngD_length]
  refine ⟨fun hi => ⟨hi, fun x H2 ⟨e2, hx⟩ => ?_⟩, fun hi => Nat.le_of_eq hi.symm⟩
  subst e2; subst hx
  exact ⟨G1, _, rngD_get hi, .refl i3, .int _⟩
def enD (ds : List Dt) : List Dt := ds.zipIdx.map fun q => .tuple [.int ((q.2 : Nat) : Int), q.1]
theorem enD_length {ds : List Dt} : (enD ds).length = ds.length := by unfold enD; rw [List.length_map, List.length_zipIdx]
theorem enD_get {ds : List Dt} {i : Nat} {d : Dt} (h : ds[i]? = some d) : (enD ds)[i]? = some (.tuple [.int ((i : Nat) : Int), d]) := by
  unfold enD
  rw [List.getElem?_map, List.getElem?_zipIdx, h]
  simp
theorem yld_enum {K : Fg} {G : Hp} {a : Addr} {xs : List V} {ds : List Dt} (hs : SqX K G a xs) (ha : DzAll K G xs ds) : Yld K (Ite K a) G (enD ds) := by
  intro p B G1 H1 e i3 i
  rw [enD_length]
  have h1 : SqL K H1 a xs := exl (e.trans i3.gh) hs
  refine ⟨fun hi => ?_, fun hi => ⟨xs, h1, by rw [dpAll_length ha]; omega⟩⟩
  obtain ⟨v, hv, hd⟩ := dpAll_get (i := i) (d := ds[i]) ha (List.getElem?_eq_getElem hi)
  refine ⟨⟨xs, v, h1, hv⟩, fun x H2 ⟨T, z, e1, hT, e2, hx⟩ => ?_⟩
  subst e1; subst e2
  have := hx xs h1
  rw [hv] at this
  cases this
  exact ⟨_, _, enD_get (List.getElem?_eq_getElem hi), .new i3 _ hT, .tup (.inl (.inl upd_same)) (.cons (.int _) (.cons (dp_ex (e.trans (Ex.new (i3.gh.free hT))) _ _ hd) .nil))⟩
section
variable {X : Cx} {tg e a b : Expr} {es : List Expr} {δ : De} {ds : List Dt} {p pos tpos : Pos} {S : List Dt → Prop} {R : Dt → Prop}
theorem xi_list (h : XD X e δ fun d => ∃ ds, d = .list ds ∧ S ds) : XI X tg e δ S := PI.imp (pi_list h) fun σ H Q ⟨p, B, G, i3, en, q⟩ => ⟨p, B, G, i3, en, fun v d G' H' ⟨ds, e1, s⟩ n hv => by
  subst e1
  cases hv with
  | lst hs ha => exact ⟨_, rfl, ⟨_, exl n.gh hs⟩, q _ ds G' H' s n (yld_list hs ha)⟩⟩
theorem xi_tup (h : XD X e δ fun d => ∃ ds, d = .tuple ds ∧ S ds) : XI X tg e δ S := PI.imp (pi_tup h) fun σ H Q ⟨p, B, G, i3, en, q⟩ => ⟨p, B, G, i3, en, fun v d G' H' ⟨ds, e1, s⟩ n hv => by
  subst e1
  cases hv with
  | tup hs ha => exact ⟨_, rfl, ⟨_, ex_t n.gh hs⟩, q _ ds G' H' s n (yld_tup hs ha)⟩⟩
theorem i_list (h : PD X e δ (.list ds)) : ID X tg e δ ds := xi_list (h.mono fun d e => ⟨ds, e, rfl⟩)
theorem i_tup (h : PD X e δ (.tuple ds)) : ID X tg e δ ds := xi_tup (h.mono fun d e => ⟨ds, e, rfl⟩)
theorem i_rng1 {j : Int} (h : PAD X [e] δ [.int j]) (hm : X.mg "range" = none) (hj : -(2 ^ 62) ≤ j ∧ j < 2 ^ 62) (hg : Gl X "range" := by rfl) : ID X tg (.Call (.Name "range" p) [e] [] pos) δ (rngD 0 j.toNat) :=
  PI.imp (pi_range1 hg hm h.pa h.pl) fun σ H Q ⟨p, B, G, i3, en, q⟩ => ⟨p, B, G, i3, en, fun v d G' H' r n hv => by
    subst r
    cases hv with
    | cons h1 h2 => cases h2; cases h1; exact ⟨j, rfl, hj.1, hj.2, q _ _ G' H' rfl n yld_rng⟩⟩
theorem i_rng2 {i j : Int} (h : PAD X [a, b] δ [.int i, .int j]) (hm : X.mg "range" = none) (hj : (-(2 ^ 62) ≤ i ∧ i < 2 ^ 62 ∧ -(2 ^ 62) ≤ j ∧ j < 2 ^ 62)) (hg : Gl X "range" := by rfl) (hs2 : starEach [b] X.env = [(false, eval b X.env)] := by rfl) : ID X tg (.Call (.Name "range" p) [a, b] [] pos) δ (rngD i (j - i).toNat) :=
  PI.imp (pi_range2 hg hm h.pa h.pl hs2) fun σ H Q ⟨p, B, G, i3, en, q⟩ => ⟨p, B, G, i3, en, fun v d G' H' r n hv => by
    subst r
    cases hv with
    | cons h1 h2 => cases h2 with
      | cons h2 h3 => cases h3; cases h1; cases h2; exact ⟨i, j, rfl, hj, q _ _ G' H' rfl n yld_rng⟩⟩
theorem i_enum {elts : List Expr} {kk : Nat} (h : PAD X [e] δ [.list ds]) (hm : X.mg "enumerate" = none) (hg : Gl X "enumerate" := by rfl) : ID X (.Tuple elts kk tpos) (.Call (.Name "enumerate" p) [e] [] pos) δ (enD ds) :=
  PI.imp (pi_enum hg hm h.pa h.pl) fun σ H Q ⟨p, B, G, i3, en, q⟩ => ⟨p, B, G, i3, en, fun v d G' H' r n hv => by
    subst r
    cases hv with
    | cons h1 h2 => cases h2; cases h1 with
      | lst hs ha => exact ⟨_, _, rfl, exl n.gh hs, q _ _ G' H' rfl n (yld_enum hs ha)⟩⟩
end

/-! ### targets: js, the slots that are set -/
def rG (K : Fg) (js : List Nat) (d : Dt) (δ δ' : De) : TG := fun v σ H Q => ∃ p B G, I3 p B G H ∧ EnvD K p B G H σ δ ∧ Dz K G v d ∧ ∀ σ', EnvD K p B G H σ' δ' → σ'.length = σ.length ∧ (∀ i, i ∉ js → σ'[i]? = σ[i]?) → Q σ' H
def rGs (K : Fg) (js : List Nat) (ds : List Dt) (δ δ' : De) : TGs := fun vs σ H Q => ∃ p B G, I3 p B G H ∧ EnvD K p B G H σ δ ∧ DzAll K G vs ds ∧ ∀ σ', EnvD K p B G H σ' δ' → σ'.length = σ.length ∧ (∀ i, i ∉ js → σ'[i]? = σ[i]?) → Q σ' H
def TgD (X : Cx) (tg : Expr) (js : List Nat) (d : Dt) (δ δ' : De) : Prop := PG X tg (rG X.K js d δ δ')
def TgsD (X : Cx) (tg : List Expr) (js : List Nat) (d : List Dt) (δ δ' : De) : Prop := PGs X tg (rGs X.K js d δ δ')
theorem PG.imp {X : Cx} {tg : Expr} {t t' : TG} (h : PG X tg t) (k : ∀ v σ H Q, t' v σ H Q → t v σ H Q) : PG X tg t' := ⟨fun pins s σ H v u Q I r q => h.run pins s σ H v u Q I r (k v σ H Q q)⟩
theorem PGs.imp {X : Cx} {tg : List Expr} {t t' : TGs} (h : PGs X tg t) (k : ∀ v σ H Q, t' v σ H Q → t v σ H Q) : PGs X tg t' := ⟨fun pins s σ H v u Q I r q => h.run pins s σ H v u Q I r (k v σ H Q q)⟩
section
variable {X : Cx} {pos : Pos} {δ δ1 δ2 : De} {d : Dt} {ds : List Dt} {js ks : List Nat}
theorem tg_name (i : Nat) {x : Str} (hN : X.N.Nodup) (hi : X.N[i]? = some x := by rfl) (hx : Loc X.env.scope x := by first | exact Or.inl rfl | exact Or.inr rfl) (hf : X.fn x = true ∨ X.env.scope.names.lookup x = some .local := by first | exact .inl rfl | exact .inr rfl | assumption) : TgD X (.Name x pos) [i] d δ (δ.set i (.d d)) :=
  PG.imp (pg_name hN hi hx hf) fun v σ H Q ⟨p, B, G, i3, en, hv, q⟩ => q _ (en.set hv) ⟨by rw [List.length_set], fun j hj => by
    have : i ≠ j := fun e => hj (by simp [e])
    rw [List.getElem?_set_ne this]⟩
theorem tgs_nil : TgsD X [] [] [] δ δ := PGs.imp pgs_nil fun v σ H Q ⟨p, B, G, i3, en, hv, q⟩ => by
  cases hv
  exact ⟨rfl, q σ en ⟨rfl, fun _ _ => rfl⟩⟩
theorem tgs_cons {e : Expr} {es : List Expr} (h1 : TgD X e js d δ δ1) (h2 : TgsD X es ks ds δ1 δ2) (hs : (assignEach (e :: es) X.env).map (·.2) = assign e X.env :: (assignEach es X.env).map (·.2) := by rfl) : TgsD X (e :: es) (js ++ ks) (d :: ds) δ δ2 :=
  PGs.imp (pgs_cons h1 h2 hs) fun v σ H Q ⟨p, B, G, i3, en, hv, q⟩ => by
    cases hv with
    | cons a b =>
      refine ⟨_, _, rfl, p, B, G, i3, en, a, fun σ1 en1 ⟨l1, k1⟩ => ⟨p, B, G, i3, en1, b, fun σ2 en2 ⟨l2, k2⟩ => q σ2 en2 ⟨l2.trans l1, fun i hi => ?_⟩⟩⟩
      rw [List.mem_append, not_or] at hi
      rw [k2 i hi.2, k1 i hi.1]
theorem tg_tup {es : List Expr} {k : Nat} (hc : X.calm = true) (h : TgsD X es js ds δ δ1) (hn : (assignEach es X.env).length = ds.length := by rfl) (hst : (assignEach es X.env).findIdx? (·.1) = none := by rfl) : TgD X (.Tuple es k pos) js (.tuple ds) δ δ1 :=
  PG.imp (pg_tup hc h hn hst) fun v σ H Q ⟨p, B, G, i3, en, hv, q⟩ => by
    cases hv with
    | tup hs ha => exact ⟨_, _, rfl, ex_t i3.gh hs, dpAll_length ha, p, B, G, i3, en, ha, q⟩
end

/-! ### list comprehensions of one clause -/
def wipeD (δ : De) : List Nat → De
  | [] => δ
  | v :: vs => (wipeD δ vs).set v .no
theorem EnvD.wipes {K : Fg} {p : Option Addr} {B G H : Hp} {σ : L2.St} {δ : De} (h : EnvD K p B G H σ δ) : ∀ vs : List Nat, EnvD K p B G H (L2.wipe σ vs) (wipeD δ vs)
  | [] => h
  | v :: vs => (h.wipes vs).wipe v
theorem wipe_in {σ : L2.St} {i : Nat} : ∀ {vs : List Nat}, i ∈ vs → i < σ.length → (wipe σ vs)[i]? = some none
  | v :: vs, h, hl => by
    unfold wipe
    by_cases e : v = i
    · subst e; rw [List.getElem?_set_self (by rw [wipe_length]; exact hl)]
    · rw [List.getElem?_set_ne e]
      exact wipe_in (by rcases List.mem_cons.mp h with z | z; exact absurd z.symm e; exact z) hl
theorem wipe_same {σ σ' : L2.St} {vs : List Nat} (hl : σ'.length = σ.length) (h : ∀ i, i ∉ vs → σ'[i]? = (wipe σ vs)[i]?) : wipe σ' vs = wipe σ vs := by
  refine List.ext_getElem? fun i => ?_
  by_cases hi : i ∈ vs
  · by_cases hb : i < σ.length
    · rw [wipe_in hi hb, wipe_in hi (by rw [hl]; exact hb)]
    · rw [List.getElem?_eq_none (by rw [wipe_length, hl]; omega), List.getElem?_eq_none (by rw [wipe_length]; omega)]
  · rw [wipe_out hi, h i hi]
structure Makes (K : Fg) (p : Option Addr) (G H : Hp) (D : Addr) (out : List Dt → Prop) (n : Nat) (H' : Hp) : Prop where
  ex : ∃ G' acc os, Nxt p G H G' H' ∧ G' D = none ∧ H' D = some (.lst acc) ∧ DzAll K G' acc os ∧ out os ∧ os.length ≤ n
abbrev bX (X : Cx) (sc : Scope) (s : Shared) (H : Hp) (C : Addr) (cl : List (Str × Addr)) (fp : List Addr) : Cx := X.blk s H sc (compEnvC sc cl C X.env) fp
def rPs (K : Fg) (δ : De) (R : Bool → Prop) : TT := rT K δ R
def XPs (X : Cx) (ifs : List Expr) (δ : De) (R : Bool → Prop) : Prop := PTs X ifs (rT X.K δ R)
theorem PTs.imp {X : Cx} {e : List Expr} {t t' : TT} (h : PTs X e t) (k : ∀ σ H Q, t' σ H Q → t σ H Q) : PTs X e t' := ⟨fun pins s σ H Q I q => h.run pins s σ H Q I (k σ H Q q)⟩
section
variable {X : Cx} {elt tg iter : Expr} {ifs : List Expr} {scope : Scope} {own : List (Str × Nat)} {pos : Pos} {δ : De} {S : List Dt → Prop} {R : Dt → Prop}
/-- a comprehension's parts, and what it makes -/
structure Lc (X : Cx) (elt tg iter : Expr) (ifs : List Expr) (scope : Scope) (δ : De) (R : Dt → Prop) : Prop where
  ex : ∃ (own : List (Str × Nat)) (wi : TI) (g : TG) (tt : TT) (te : TE), PI X tg iter wi ∧ BlkOk X.N X.env.scope scope own ∧ (∀ s H C cl fp, PG (bX X scope s H C cl fp) tg g) ∧ (∀ s H C cl fp, PTs (bX X scope s H C cl fp) ifs tt) ∧ (∀ s H C cl fp, PE (bX X scope s H C cl fp) elt te) ∧
    ∀ σ H Q, rX X.K δ R σ H Q → tLc wi g tt te (own.map (·.2)) σ H Q
/-- Iv: what has been made behind so many turns -/
theorem lc_of (hi : XI X tg iter δ S) (ok : BlkOk X.N X.env.scope scope own) (hS : ∀ ds, S ds → ds.length ≤ 100000)
    (Iv : List Dt → Nat → List Dt → Prop) (h0 : ∀ ds, S ds → Iv ds 0 []) (hR : ∀ ds out, S ds → Iv ds ds.length out → R (.list out))
    (δt : Dt → De) (T : List Dt → Nat → Dt → Bool → Prop)
    (hg : ∀ s H C cl fp ds (i : Nat) d, S ds → ds[i]? = some d → TgD (bX X scope s H C cl fp) tg (own.map (·.2)) d (wipeD δ (own.map (·.2))) (δt d))
    (ht : ∀ s H C cl fp ds (i : Nat) d, S ds → ds[i]? = some d → XPs (bX X scope s H C cl fp) ifs (δt d) (T ds i d))
    (hf : ∀ ds (i : Nat) d out, S ds → ds[i]? = some d → T ds i d false → Iv ds i out → Iv ds (i + 1) out)
    (he : ∀ s H C cl fp ds (i : Nat) d, S ds → ds[i]? = some d → T ds i d true → XD (bX X scope s H C cl fp) elt (δt d) fun y => ∀ out, Iv ds i out → Iv ds (i + 1) (out ++ [y])) : Lc X elt tg iter ifs scope δ R := by
  have pg : ∀ s H C cl fp, PG (bX X scope s H C cl fp) tg (fun v σ H Q => ∃ ds, ∃ (i : Nat), ∃ d, S ds ∧ ds[i]? = some d ∧ rG X.K (own.map (·.2)) d (wipeD δ (own.map (·.2))) (δt d) v σ H Q) := fun s H C cl fp =>
    ⟨fun pins s1 σ H1 v u Q I r ⟨ds, i, d, a, b, q⟩ => (hg s H C cl fp ds i d a b).run pins s1 σ H1 v u Q I r q⟩
  have pt : ∀ s H C cl fp, PTs (bX X scope s H C cl fp) ifs (fun σ H Q => ∃ ds, ∃ (i : Nat), ∃ d, S ds ∧ ds[i]? = some d ∧ rT X.K (δt d) (T ds i d) σ H Q) := fun s H C cl fp =>
    ⟨fun pins s1 σ H1 Q I ⟨ds, i, d, a, b, q⟩ => (ht s H C cl fp ds i d a b).run pins s1 σ H1 Q I q⟩
  have pe : ∀ s H C cl fp, PE (bX X scope s H C cl fp) elt (fun σ H Q => ∃ ds, ∃ (i : Nat), ∃ d, S ds ∧ ds[i]? = some d ∧ T ds i d true ∧ rX X.K (δt d) (fun y => ∀ out, Iv ds i out → Iv ds (i + 1) (out ++ [y])) σ H Q) := fun s H C cl fp =>
    ⟨fun pins s1 σ H1 Q I ⟨ds, i, d, a, b, c, q⟩ => (he s H C cl fp ds i d a b c).run pins s1 σ H1 Q I q⟩
  refine ⟨own, _, _, _, _, hi, ok, pg, pt, pe, fun σ H Q ⟨p, B, G, i3, en, q⟩ => ⟨p, B, G, i3, en, fun J ds G1 H1 s n yl Dl hD => ?_⟩⟩
  have i31 := i3.nxt n
  have en1 := en.nxt n
  have gD : G1 Dl = none := i31.gh.free hD
  have pD : p ≠ some Dl := fun z => by
    obtain ⟨_, _, _, _, h3, _⟩ := i31.pot Dl z
    rw [hD] at h3; cases h3
  refine ⟨fun i m H' => m = ds.length - i ∧ i ≤ ds.length ∧ Makes X.K p G1 H1 Dl (Iv ds i) i H', ⟨_, rfl, Nat.zero_le _, ⟨G1, [], [], .newH i31 _ hD, gD, upd_same, .nil, h0 ds s, Nat.le_refl _⟩⟩, ?_⟩
  rintro i m H' ⟨em, hle, ⟨G', acc, os, n', gd, hd, ha, iv, hl⟩⟩
  have i3' := i31.nxt n'
  by_cases hlt : i < ds.length
  · obtain ⟨go, yd⟩ := (yl p B G' H' n'.st.1 i3' i).1 hlt
    refine .inr ⟨go, fun H'' => Makes X.K p G1 H1 Dl (Iv ds (i + 1)) (i + 1) H'', fun H'' k => ⟨_, by omega, rfl, by omega, k⟩, fun x H2 hy => ?_⟩
    obtain ⟨G2, d, e2, n2, hx⟩ := yd x H2 hy
    have n12 := n'.trans n2
    have gd2 : G2 Dl = none := n2.st.2 Dl (nn hd) gd
    have hd2 : H2 Dl = some (.lst acc) := n2.ex Dl _ (by rw [del_ne pD]; exact hd) (fun _ z => by cases z)
    refine ⟨ds, i, d, s, e2, p, B, G2, i31.nxt n12, (en1.nxt n12).wipes _, hx, fun σ2 en2 ⟨ks', ks⟩ => ⟨?_, ds, i, d, s, e2, p, B, G2, i31.nxt n12, en2, fun c G3 H3 hc3 n3 => ?_⟩⟩
    · refine wipe_same ?_ ks
      rw [ks', wipe_length]
    · have n13 := n12.trans n3
      have gd3 : G3 Dl = none := n3.st.2 Dl (nn hd2) gd2
      have hd3 : H3 Dl = some (.lst acc) := n3.ex Dl _ (by rw [del_ne pD]; exact hd2) (fun _ z => by cases z)
      have ha3 := dpAll_ex (n2.st.1.trans n3.st.1) _ _ ha
      cases c with
      | false => exact iteF ⟨G3, acc, os, n13, gd3, hd3, ha3, hf ds i d os s e2 hc3 iv, by omega⟩
      | true =>
        refine iteT ⟨ds, i, d, s, e2, hc3, p, B, G3, i31.nxt n13, en2.nxt n3, fun y dy G4 H4 ry n4 hy4 => ?_⟩
        have n14 := n13.trans n4
        have gd4 : G4 Dl = none := n4.st.2 Dl (nn hd3) gd3
        have hd4 : H4 Dl = some (.lst acc) := n4.ex Dl _ (by rw [del_ne pD]; exact hd3) (fun _ z => by cases z)
        have ha4 := dpAll_ex n4.st.1 _ _ ha3
        refine ⟨acc, hd4, ?_, ⟨G4, acc ++ [y], os ++ [dy], n14.put hD gd4 hd4 pD, gd4, upd_same, dpAll_append ha4 (.cons hy4 .nil), ry os iv, by rw [List.length_append, List.length_singleton]; omega⟩⟩
        · rw [dpAll_length ha4]
          exact Nat.lt_of_le_of_lt (Nat.le_trans hl (Nat.le_trans hle (hS ds s))) (by decide)
  · have e : i = ds.length := by omega
    subst e
    refine .inl ⟨(yl p B G' H' n'.st.1 i3' _).2 rfl, q (.ref Dl) (.list os) (upd G' Dl (.lst acc)) H' (hR ds os s iv) (n.trans ⟨⟨n'.st.1.mut gD, fun a h1 h2 => ?_⟩, n'.ex, fun a o h => ?_, n'.pot, n'.dom, n'.tb⟩) (.lst (.inl (.inl upd_same)) (dpAll_ex (Ex.new gd) _ _ ha))⟩
    · have : a ≠ Dl := fun z => h1 (z ▸ hD)
      rw [upd_ne this]; exact n'.st.2 a h1 h2
    · by_cases z : a = Dl
      · subst z; rw [upd_same] at h; cases h; exact hd
      · rw [upd_ne z] at h; exact n'.gh a o h
theorem Lc.xd (h : Lc X elt tg iter ifs scope δ R) (hN : X.N.Nodup) (hc : X.calm = true := by rfl) (hs : ∀ x, foldedSetIterable iter X.env x = pure x := by intro _; rfl) : XD X (.ListComp elt [⟨tg, iter, ifs, 0⟩] scope pos) δ R := by
  obtain ⟨own, wi, g, tt, te, a1, a2, a3, a4, a5, a6⟩ := h.ex
  exact PE.imp (pe_lc hc hN a1 a2 a3 a4 a5 hs) a6
end
end Dv

set_option linter.all false
set_option maxRecDepth 100000
set_option maxHeartbeats 2000000
namespace Dv
open PySem PySem.Spec PyProof.Rows L2
variable [Tbl]
/-! ### built-in functions -/
def RC (K : Fg) (r : List V → Hp → VK → Prop) (ds : List Dt) (R : Dt → Prop) : Prop := ∀ p B G H vs, I3 p B G H → DzAll K G vs ds → ∀ Q : VK, (∀ u d G' H', R d → Nxt p G H G' H' → Dz K G' u d → Q u H') → r vs H Q
section
variable {X : Cx} {a b c e : Expr} {es : List Expr} {δ : De} {p pos : Pos} {R : Dt → Prop} {S : List Dt → Prop} {d : Dt} {ds : List Dt} {i j : Int} {x T id : String} {r : List V → Hp → VK → Prop}
theorem xd_cb {x : Str} (hc : CallR X (.builtin id) r) (hg : Gl X x) (hm : X.mg x = none) (hv : bootBuiltins x = some (.builtin id)) (ha : XA X (e :: es) δ S) (hr : ∀ ds, S ds → RC X.K r ds R) (hpl : starEach es X.env = es.map fun e => (false, eval e X.env) := by rfl) (hn : x ≠ "__name__" := by decide) (hdb : (x == ("__debug__" : Str)) = false := by decide) : XD X (.Call (.Name x p) (e :: es) [] pos) δ R :=
  PE.imp (pe_callB hc hg hm hv ha.pa hn hdb (by rw [hpl]; exact ha.pl) (back_plain hpl)) fun σ H Q ⟨p, B, G, i3, en, q⟩ => ⟨p, B, G, i3, en, fun vs ds G' H' s n hv => hr ds s p B G' H' vs (i3.nxt n) hv Q fun u d G2 H2 rr n2 hu => q u d G2 H2 rr (n.trans n2) hu⟩
theorem xd_ct {x : Str} (hc : CallR X (.type T) r) (hg : Gl X x) (hm : X.mg x = none) (hv : bootBuiltins x = some (.type T)) (ha : XA X (e :: es) δ S) (hr : ∀ ds, S ds → RC X.K r ds R) (hpl : starEach es X.env = es.map fun e => (false, eval e X.env) := by rfl) (hn : x ≠ "__name__" := by decide) (hdb : (x == ("__debug__" : Str)) = false := by decide) : XD X (.Call (.Name x p) (e :: es) [] pos) δ R :=
  PE.imp (pe_callTy hc hg hm hv ha.pa hn hdb (by rw [hpl]; exact ha.pl) (back_plain hpl)) fun σ H Q ⟨p, B, G, i3, en, q⟩ => ⟨p, B, G, i3, en, fun vs ds G' H' s n hv => hr ds s p B G' H' vs (i3.nxt n) hv Q fun u d G2 H2 rr n2 hu => q u d G2 H2 rr (n.trans n2) hu⟩
theorem one_of {K : Fg} {G : Hp} {vs : List V} (h : DzAll K G vs [d]) : ∃ v, vs = [v] ∧ Dz K G v d := by
  cases h with
  | cons a b => cases b; exact ⟨_, rfl, a⟩
theorem two_of {K : Fg} {G : Hp} {d d' : Dt} {vs : List V} (h : DzAll K G vs [d, d']) : ∃ v w, vs = [v, w] ∧ Dz K G v d ∧ Dz K G w d' := by
  cases h with
  | cons a b => obtain ⟨w, e, f⟩ := one_of b; exact ⟨_, w, by rw [e], a, f⟩
theorem pd_len_list (hm : X.mg "len" = none) (ha : PAD X [e] δ [.list ds]) (hg : Gl X "len" := by rfl) : PD X (.Call (.Name "len" p) [e] [] pos) δ (.int (ds.length : Int)) :=
  xd_cb call_len_seq hg hm PySem.boot_len ha fun ds' e p B G H vs i3 hv Q q => by
    subst e
    obtain ⟨v, rfl, h⟩ := one_of hv
    cases h with
    | lst hs ha => exact ⟨_, _, rfl, .inl (exl i3.gh hs), q _ _ G H (by rw [dpAll_length ha]) (.refl i3) (.int _)⟩
theorem pd_len_tup (hm : X.mg "len" = none) (ha : PAD X [e] δ [.tuple ds]) (hg : Gl X "len" := by rfl) : PD X (.Call (.Name "len" p) [e] [] pos) δ (.int (ds.length : Int)) :=
  xd_cb call_len_seq hg hm PySem.boot_len ha fun ds' e p B G H vs i3 hv Q q => by
    subst e
    obtain ⟨v, rfl, h⟩ := one_of hv
    cases h with
    | tup hs ha => exact ⟨_, _, rfl, .inr (ex_t i3.gh hs), q _ _ G H (by rw [dpAll_length ha]) (.refl i3) (.int _)⟩
theorem pd_abs (hm : X.mg "abs" = none) (ha : PAD X [e] δ [.int i]) (hg : Gl X "abs" := by rfl) : PD X (.Call (.Name "abs" p) [e] [] pos) δ (.int (if i < 0 then -i else i)) :=
  xd_cb call_abs hg hm (by decide +kernel) ha fun ds' e p B G H vs i3 hv Q q => by
    subst e
    obtain ⟨v, rfl, h⟩ := one_of hv
    cases h
    exact ⟨i, rfl, q _ _ G H rfl (.refl i3) (.int _)⟩
theorem pd_max2 (hc : X.calm = true) (hm : X.mg "max" = none) (ha : PAD X [a, b] δ [.int i, .int j]) (hg : Gl X "max" := by rfl) (hpl : starEach [b] X.env = [(false, eval b X.env)] := by rfl) : PD X (.Call (.Name "max" p) [a, b] [] pos) δ (.int (max i j)) :=
  xd_cb (call_max2 hc) hg hm (by decide +kernel) ha (fun ds' e p B G H vs i3 hv Q q => by
    subst e
    obtain ⟨v, w, rfl, h1, h2⟩ := two_of hv
    cases h1; cases h2
    refine ⟨i, j, rfl, q _ _ G H rfl (.refl i3) ?_⟩
    have : (if j > i then j else i) = max i j := by omega
    rw [this]; exact .int _) (hpl := hpl)
theorem pd_min2 (hc : X.calm = true) (hm : X.mg "min" = none) (ha : PAD X [a, b] δ [.int i, .int j]) (hg : Gl X "min" := by rfl) (hpl : starEach [b] X.env = [(false, eval b X.env)] := by rfl) : PD X (.Call (.Name "min" p) [a, b] [] pos) δ (.int (min i j)) :=
  xd_cb (call_min2 hc) hg hm (by decide +kernel) ha (fun ds' e p B G H vs i3 hv Q q => by
    subst e
    obtain ⟨v, w, rfl, h1, h2⟩ := two_of hv
    cases h1; cases h2
    refine ⟨i, j, rfl, q _ _ G H rfl (.refl i3) ?_⟩
    have : (if j < i then j else i) = min i j := by omega
    rw [this]; exact .int _) (hpl := hpl)
theorem xd_int {S : Int → Prop} (hm : X.mg "int" = none) (ha : XA X [e] δ fun ds => ∃ i, ds = [.int i] ∧ S i) (hg : Gl X "int" := by rfl) : XD X (.Call (.Name "int" p) [e] [] pos) δ fun d => ∃ i, d = .int i ∧ S i :=
  xd_ct call_int1 hg hm (by decide +kernel) ha fun ds' ⟨i, e, s⟩ p B G H vs i3 hv Q q => by
    subst e
    obtain ⟨v, rfl, h⟩ := one_of hv
    cases h
    exact .inl ⟨i, rfl, q _ _ G H ⟨i, rfl, s⟩ (.refl i3) (.int _)⟩
theorem pd_int1 (hm : X.mg "int" = none) (ha : PAD X [e] δ [.int i]) (hg : Gl X "int" := by rfl) : PD X (.Call (.Name "int" p) [e] [] pos) δ (.int i) :=
  (xd_int (S := fun j => j = i) hm (ha.mono fun ds e => ⟨i, e, rfl⟩) hg).mono fun d ⟨j, e, f⟩ => by rw [e, f]
theorem pd_maxL {ns : List Int} {m : Int} (hc : X.calm = true) (hm : X.mg "max" = none) (ha : PAD X [e] δ [.list (ns.map PyData.int)]) (h1 : m ∈ ns) (h2 : ∀ y ∈ ns, y ≤ m) (hg : Gl X "max" := by rfl) : PD X (.Call (.Name "max" p) [e] [] pos) δ (.int m) :=
  xd_cb (cr_max hc) hg hm (by decide +kernel) ha fun ds' e p B G H vs i3 hv Q q => by
    subst e
    obtain ⟨v, rfl, h⟩ := one_of hv
    cases h with
    | lst hs ha =>
      have e := dpAll_ints ha
      subst e
      refine ⟨_, ns, rfl, exl i3.gh hs, List.length_pos_of_mem h1, fun k k1 k2 => q _ _ G H rfl (.refl i3) ?_⟩
      have : k = m := Int.le_antisymm (h2 k k1) (k2 m h1)
      rw [this]; exact .int _
theorem pd_any {bs : List Bool} (hc : X.calm = true) (hm : X.mg "any" = none) (ha : PAD X [e] δ [.list (bs.map PyData.bool)]) (hg : Gl X "any" := by rfl) : PD X (.Call (.Name "any" p) [e] [] pos) δ (.bool (bs.any _root_.id)) :=
  xd_cb (cr_any hc) hg hm (by decide +kernel) ha fun ds' e p B G H vs i3 hv Q q => by
    subst e
    obtain ⟨v, rfl, h⟩ := one_of hv
    cases h with
    | lst hs ha =>
      have e := dpAll_bools ha
      subst e
      exact ⟨_, bs, rfl, exl i3.gh hs, q _ _ G H rfl (.refl i3) (.bl _)⟩
theorem xd_all {S : List Bool → Prop} {R : Bool → Prop} (hc : X.calm = true) (hm : X.mg "all" = none) (ha : XA X [e] δ fun ds => ∃ bs : List Bool, ds = [.list (bs.map PyData.bool)] ∧ S bs) (hR : ∀ bs, S bs → R (bs.all _root_.id)) (hg : Gl X "all" := by rfl) : XD X (.Call (.Name "all" p) [e] [] pos) δ (fun d => ∃ b, d = .bool b ∧ R b) :=
  xd_cb (cr_all hc) hg hm (by decide +kernel) ha fun ds' ⟨bs, e, sb⟩ p B G H vs i3 hv Q q => by
    subst e
    obtain ⟨v, rfl, h⟩ := one_of hv
    cases h with
    | lst hs ha =>
      have e := dpAll_bools ha
      subst e
      exact ⟨_, bs, rfl, exl i3.gh hs, q _ _ G H ⟨_, rfl, hR bs sb⟩ (.refl i3) (.bl _)⟩
theorem pd_all {bs : List Bool} (hc : X.calm = true) (hm : X.mg "all" = none) (ha : PAD X [e] δ [.list (bs.map PyData.bool)]) (hg : Gl X "all" := by rfl) : PD X (.Call (.Name "all" p) [e] [] pos) δ (.bool (bs.all _root_.id)) :=
  (xd_all (S := fun x => x = bs) (R := fun c => c = bs.all _root_.id) hc hm (ha.mono fun ds e => ⟨bs, e, rfl⟩) (fun x e => by rw [e]) hg).mono fun d ⟨b, e, f⟩ => by rw [e, f]
/-- sorted of whole numbers, any number of them -/
def rSortA (K : Fg) : List V → Hp → VK → Prop := fun vs H Q => ∃ (a : Addr) (ns : List Int), vs = [V.ref a] ∧ SqL K H a (ns.map V.int) ∧
  ∀ (ms : List Int) (p : Addr), ms.Perm ns → ms.Pairwise (· ≤ ·) → H p = none → Q (.ref p) (upd H p (.lst (ms.map V.int)))
theorem cr_sortA : CallR X (.builtin "sorted") (rSortA X.K) := by
  intro pins s σ H vs us Q I r h
  obtain ⟨a, ns, rfl, hs, q⟩ := h
  obtain ⟨its, rv, hl, hz⟩ := I.list hs
  rw [Vals.ref1 r]
  have hi := rv.ints
  have hz' : its.length ≤ sizeLine := by rw [← rv.length]; exact hz
  refine PyProof.Rows.sorted_intsAny hl.isList hi hz' fun out ms h1 h2 h3 => ?_
  obtain ⟨ep, he⟩ := PyProof.Rows.sortedAll_at s.heap its out
  have hlen : (ms.map V.int).length ≤ sizeLine := by rw [List.length_map, h2.length_eq, ← List.length_map (f := V.int)]; exact hz
  exact ⟨.ref _, upd H (s.heap.objs.size + 1) (.lst (ms.map V.int)), I.laid (t' := s.toks) (fun _ _ => PyProof.Rows.sortedAll_old) (Nat.le_succ _) ⟨hlen, out.toList, ep, vals_of_ints h1, he⟩, rfl, q ms _ h2 h3 (I.hok.fresh (Nat.le_succ _))⟩
theorem pd_sorted {ns ms : List Int} (hm : X.mg "sorted" = none) (ha : PAD X [e] δ [.list (ns.map PyData.int)]) (hp : ms.Perm ns) (hw : ms.Pairwise (· ≤ ·)) (hg : Gl X "sorted" := by rfl) : PD X (.Call (.Name "sorted" p) [e] [] pos) δ (.list (ms.map PyData.int)) :=
  xd_cb cr_sortA hg hm (by decide +kernel) ha fun ds' e p B G H vs i3 hv Q q => by
    subst e
    obtain ⟨v, rfl, h⟩ := one_of hv
    cases h with
    | lst hs ha =>
      have e := dpAll_ints ha
      subst e
      refine ⟨_, ns, rfl, exl i3.gh hs, fun ks l k1 k2 hl => ?_⟩
      have : ks = ms := List.Perm.eq_of_pairwise (fun a b _ _ h1 h2 => Int.le_antisymm h1 h2) k2 hw (k1.trans hp.symm)
      subst this
      exact q _ _ _ _ rfl (.new i3 _ hl) (.lst (.inl (.inl upd_same)) (dpAll_of_ints ks))
/-- list(..), tuple(..) -/
theorem pd_tuple_of (hm : X.mg "tuple" = none) (ha : PAD X [e] δ [.list ds]) (hg : Gl X "tuple" := by rfl) : PD X (.Call (.Name "tuple" p) [e] [] pos) δ (.tuple ds) :=
  xd_ct call_tuple_of hg hm (by decide +kernel) ha fun ds' e p B G H vs i3 hv Q q => by
    subst e
    obtain ⟨v, rfl, h⟩ := one_of hv
    cases h with
    | lst hs ha => exact ⟨_, _, rfl, .inl ⟨exl i3.gh hs, fun l hl => q _ _ _ _ rfl (.new i3 _ hl) (.tup (.inl (.inl upd_same)) (dpAll_ex (Ex.new (i3.gh.free hl)) _ _ ha))⟩⟩
/-! repr -/
mutual
/-- the dicts are empty ones -/
def edOk : Dt → Bool
  | .list ds => edAll ds
  | .tuple ds => edAll ds
  | .dict ks => ks.isEmpty
  | _ => true
def edAll : List Dt → Bool
  | [] => true
  | d :: ds => edOk d && edAll ds
end
structure OkD (d : Dt) (b k : Nat) : Prop where
  sh : d.leavesShort 40 = true
  ok : d.showable = true
  dp : d.depth ≤ k
  bk : d.bulk ≤ b
  ed : edOk d = true
theorem OkD.mono {b k b' k' : Nat} (h : OkD d b k) (hb : b ≤ b' := by omega) (hk : k ≤ k' := by omega) : OkD d b' k' := ⟨h.sh, h.ok, Nat.le_trans h.dp hk, Nat.le_trans h.bk hb, h.ed⟩
theorem okd_bool {c : Bool} : OkD (.bool c) 0 0 := ⟨by simp [PyData.leavesShort], by simp [PyData.showable], by simp [PyData.depth], by simp [PyData.bulk], by simp [edOk]⟩
theorem okd_none : OkD .none 0 0 := ⟨by simp [PyData.leavesShort], by simp [PyData.showable], by simp [PyData.depth], by simp [PyData.bulk], by simp [edOk]⟩
theorem okd_int (h : i.natAbs < 10 ^ 38) : OkD (.int i) 0 0 := by
  refine ⟨?_, ?_, by simp [PyData.depth], by simp [PyData.bulk], by simp [edOk]⟩
  · simp only [PyData.leavesShort, decide_eq_true_eq]
    have e := int_text_length_le10 (k := 38) (by decide) h
    show (Str.ofString (toString i)).length ≤ 40
    rw [PySem.ofString_length]; omega
  · simp only [PyData.showable, decide_eq_true_eq]
    by_cases z : i.natAbs = 0
    · rw [z]; decide
    · have h2 : i.natAbs.log2 < 127 := (Nat.log2_lt z).mpr (Nat.lt_of_lt_of_le h (by decide))
      omega
theorem okd_str {x : Str} (h : (x.cps.toList.all fun c => decide (c < 16 ^ 8)) = true) : OkD (.str x) x.cps.size 0 := ⟨by simpa [PyData.leavesShort] using h, by simp [PyData.showable], by simp [PyData.depth], by simp [PyData.bulk], by simp [edOk]⟩
theorem okd_all {b k : Nat} : ∀ {ds : List Dt}, (∀ d ∈ ds, OkD d b k) → PyData.leavesShortAll 40 ds = true ∧ PyData.showableAll ds = true ∧ PyData.depthAll ds ≤ k ∧ PyData.bulkAll ds ≤ ds.length * (b + 1) ∧ edAll ds = true
  | [], _ => ⟨by simp [PyData.leavesShortAll], by simp [PyData.showableAll], by simp [PyData.depthAll], by simp [PyData.bulkAll], by simp [edAll]⟩
  | d :: ds, h => by
    obtain ⟨h1, h2, h4, h5, h6⟩ := okd_all fun x hx => h x (List.mem_cons_of_mem _ hx)
    have g := h d List.mem_cons_self
    refine ⟨by simp [PyData.leavesShortAll, g.sh, h1], by simp [PyData.showableAll, g.ok, h2], ?_, ?_, by simp [edAll, g.ed, h6]⟩
    · simp only [PyData.depthAll]; exact Nat.max_le.mpr ⟨g.dp, h4⟩
    · simp only [PyData.bulkAll, List.length_cons]
      have := g.bk
      rw [Nat.add_mul]; omega
theorem okd_list {b k n : Nat} (h : ∀ d ∈ ds, OkD d b k) (hn : ds.length ≤ n := by simp) : OkD (.list ds) (n * (b + 1)) (k + 1) := by
  obtain ⟨h1, h2, h4, h5, h6⟩ := okd_all h
  exact ⟨by simp only [PyData.leavesShort]; exact h1, by simp only [PyData.showable]; exact h2, by simp only [PyData.depth]; omega, by simp only [PyData.bulk]; exact Nat.le_trans h5 (Nat.mul_le_mul_right _ hn), by simp only [edOk]; exact h6⟩
theorem okd_tuple {b k n : Nat} (h : ∀ d ∈ ds, OkD d b k) (hn : ds.length ≤ n := by simp) : OkD (.tuple ds) (n * (b + 1)) (k + 1) := by
  obtain ⟨h1, h2, h4, h5, h6⟩ := okd_all h
  exact ⟨by simp only [PyData.leavesShort]; exact h1, by simp only [PyData.showable]; exact h2, by simp only [PyData.depth]; omega, by simp only [PyData.bulk]; exact Nat.le_trans h5 (Nat.mul_le_mul_right _ hn), by simp only [edOk]; exact h6⟩
theorem OkD.fits (h : OkD d 390000 40) : d.shown.length ≤ sizeLine := by
  have h1 := PyData.shown_le_bulk 40 (by decide) d h.sh
  have h2 := h.bk
  rw [sizeLine_eq]
  omega
theorem okd_dict : OkD (.dict []) 0 1 := ⟨by simp [PyData.leavesShort, PyData.leavesShortKv], by simp [PyData.showable, PyData.showableKv], by simp [PyData.depth, PyData.depthKv], by simp [PyData.bulk, PyData.bulkKv], by simp [edOk]⟩
/-! a reading in which the dicts are empty ones of ours: no other address is asked about -/
mutual
inductive Rx (h : Heap) : Value → PyData → List Addr → Prop
  | non : Rx h .none .none []
  | bl (b : Bool) : Rx h (.bool b) (.bool b) []
  | num (i : Int) (t : Tok) : Rx h (.int i t) (.int i) []
  | txt (x : Str) (t : Tok) : Rx h (.str x t) (.str x) []
  | lst {a : Addr} {o : Obj} {vs : Array Value} {n : Nat} {xs : List PyData} {as : List Addr} : h.get? a = some o → o.cls = .type "list" → o.data = .seq vs n → RxAll h vs.toList xs as → Rx h (.ref a) (.list xs) (a :: as)
  | tup {a : Addr} {o : Obj} {vs : Array Value} {n : Nat} {xs : List PyData} {as : List Addr} : h.get? a = some o → o.cls = .type "tuple" → o.data = .seq vs n → RxAll h vs.toList xs as → Rx h (.ref a) (.tuple xs) as
  | dct {a : Addr} {o : Obj} {es : Array DictEntry} {n : Nat} : h.get? a = some o → o.cls = .type "dict" → o.data = .dict es n → es.toList = [] → (a == sysModules) = false → Rx h (.ref a) (.dict []) [a]
inductive RxAll (h : Heap) : List Value → List PyData → List Addr → Prop
  | nil : RxAll h [] [] []
  | cons {v : Value} {vs : List Value} {d : PyData} {ds : List PyData} {as bs : List Addr} : Rx h v d as → RxAll h vs ds bs → RxAll h (v :: vs) (d :: ds) (as ++ bs)
end
section
variable {prog : Program} {w : World} {h : Heap}
mutual
theorem Rx.rd : ∀ {v : Value} {d : PyData} {as : List Addr}, Rx h v d as → Reads h v d as
  | _, _, _, .non => .none
  | _, _, _, .bl b => .bool b
  | _, _, _, .num i t => .int i t
  | _, _, _, .txt x t => .str x t
  | _, _, _, .lst p q r s => .list p q r s.rd
  | _, _, _, .tup p q r s => .tuple p q r s.rd
  | _, _, _, .dct p q r s _ => .dict (kvs := []) (as := []) (bs := []) p q r (by rw [s]; exact .nil) (by rw [s]; exact .nil)
theorem RxAll.rd : ∀ {vs : List Value} {ds : List PyData} {as : List Addr}, RxAll h vs ds as → ReadsAll h vs ds as
  | _, _, _, .nil => .nil
  | _, _, _, .cons r rs => .cons r.rd rs.rd
end
theorem rx_ents {es : Array DictEntry} {bs : List Addr} {n : Nat} (e : es.toList = []) : ReprEntriesK prog w bs h n es.toList (PyData.shownKv []) := by rw [e]; simp only [PyData.shownKv]; exact .nil
mutual
theorem Rx.sh : ∀ {v : Value} {d : PyData} {as : List Addr}, Rx h v d as → d.showable = true → d.shown.length ≤ sizeLine → ∃ bs, ReadAtMost h d.depth bs ∧ ReprK prog w bs h d.depth v d.shown
  | _, _, _, .non, _, _ => ⟨[], (fun _ z => nomatch z), by simp only [PyData.shown]; exact .of_is .none _ _ _⟩
  | _, _, _, .bl b, _, _ => ⟨[], (fun _ z => nomatch z), by simp only [PyData.shown]; exact .of_is (.bool b) _ _ _⟩
  | _, _, _, .num i t, k, _ => ⟨[], (fun _ z => nomatch z), by simp only [PyData.shown]; exact .of_is (.int t (of_decide_eq_true (by simpa only [PyData.showable] using k))) _ _ _⟩
  | _, _, _, .txt x t, _, z => ⟨[], (fun _ z => nomatch z), by simp only [PyData.shown] at z ⊢; exact .of_is (.str x t z) _ _ _⟩
  | _, _, _, .lst (a := b) (vs := ws) (xs := ys) p q r s, k, z => by
    simp only [PyData.shown] at z
    simp only [PyData.showable] at k
    obtain ⟨cs, u1, u2⟩ := s.sh k fun t m => Nat.le_trans (listText_mem_le m) z
    have rr := (Rx.lst p q r s).rd
    have out := not_mem_of_deeper rr (n := PyData.depthAll ys) (by simp only [PyData.depth]; exact Nat.lt_succ_self _) u1
    refine ⟨b :: cs, .cons rr (n := PyData.depthAll ys) (by simp only [PyData.depth]; exact Nat.le_succ _) u1, ?_⟩
    simp only [PyData.shown, PyData.depth]
    match ws, s, u2, r with
    | ⟨[]⟩, s, _, r => cases s; simp only [PyData.shownAll, listText_nil]; exact .listEmpty p q r
    | ⟨_ :: _⟩, _, u2, r => exact .list p q r out (by simpa using u2.length_eq) fun i y m => u2.item i y (by simpa using m)
  | _, _, _, .tup (a := b) (xs := ys) p q r s, k, z => by
    simp only [PyData.shown] at z
    simp only [PyData.showable] at k
    obtain ⟨cs, u1, u2⟩ := s.sh k fun t m => Nat.le_trans (tupleText_mem_le m) z
    have rr := (Rx.tup p q r s).rd
    have out := not_mem_of_deeper rr (n := PyData.depthAll ys) (by simp only [PyData.depth]; exact Nat.lt_succ_self _) u1
    refine ⟨b :: cs, .cons rr (n := PyData.depthAll ys) (by simp only [PyData.depth]; exact Nat.le_succ _) u1, ?_⟩
    simp only [PyData.shown, PyData.depth]
    exact .tuple p q r out u2
  | _, _, _, .dct (a := b) p q r s y, _, _ => by
    have rr := (Rx.dct p q r s y).rd
    refine ⟨[b], .cons rr (n := 0) (Nat.zero_le _) (fun _ z => nomatch z), ?_⟩
    simp only [PyData.shown, PyData.depth, PyData.depthKv]
    exact .dict p q r y (fun z => nomatch z) (rx_ents s)
theorem RxAll.sh : ∀ {vs : List Value} {ds : List PyData} {as : List Addr}, RxAll h vs ds as → PyData.showableAll ds = true → (∀ t ∈ PyData.shownAll ds, t.length ≤ sizeLine) → ∃ bs, ReadAtMost h (PyData.depthAll ds) bs ∧ ReprAllK prog w bs h (PyData.depthAll ds) vs (PyData.shownAll ds)
  | _, _, _, .nil, _, _ => ⟨[], (fun _ z => nomatch z), by simp only [PyData.shownAll]; exact .nil⟩
  | _, _, _, .cons r rs, k, z => by
    simp only [PyData.showableAll, Bool.and_eq_true] at k
    simp only [PyData.shownAll] at z ⊢
    obtain ⟨c1, u1, v1⟩ := r.sh k.1 (z _ List.mem_cons_self)
    obtain ⟨c2, u2, v2⟩ := rs.sh k.2 fun t m => z t (List.mem_cons_of_mem _ m)
    simp only [PyData.depthAll]
    exact ⟨c1 ++ c2, (u1.mono (Nat.le_max_left _ _)).append (u2.mono (Nat.le_max_right _ _)), .cons ((v1.more fun y m => List.mem_append_left _ m).level_le (Nat.le_max_left _ _)) (v2.more_le (fun y m => List.mem_append_right _ m) (Nat.le_max_right _ _))⟩
end
end
/-- repr of a value that reads as data -/
def rRepr (K : Fg) : List V → Hp → VK → Prop := fun vs H Q => ∃ v d, vs = [v] ∧ Dz K H v d ∧ OkD d 390000 40 ∧ Q (.str d.shown) H
section
variable {pins : List (Addr × Obj)} {σ : L2.St} {H : Hp} {s : Shared}
mutual
theorem dz_rx (I : L2.Inv X pins σ H s) : ∀ (d : PyData) (v : V) (u : Value), edOk d = true → Dz X.K H v d → RelV v u → ∃ as, Rx s.heap u d as
  | .none, _, _, _, h, r => by cases h; cases r; exact ⟨_, .non⟩
  | .bool b, _, _, _, h, r => by cases h; cases r; exact ⟨_, .bl b⟩
  | .int i, _, _, _, h, r => by
    cases h
    obtain ⟨t, rfl⟩ := r
    exact ⟨_, .num i t⟩
  | .str x, _, _, _, h, r => by
    cases h
    obtain ⟨t, rfl⟩ := r
    exact ⟨_, .txt x t⟩
  | .list ds, _, _, ed, h, r => by
    cases h with
    | lst hs ha =>
      cases r
      obtain ⟨its, rv, ⟨o, n, ho, hc, _, hd⟩, _⟩ := I.list (sqx_l hs)
      obtain ⟨as, hr⟩ := dzAll_rx I ds _ its (by simpa only [edOk] using ed) ha rv
      exact ⟨_, .lst ho hc hd hr⟩
  | .tuple ds, _, _, ed, h, r => by
    cases h with
    | tup hs ha =>
      cases r
      obtain ⟨its, rv, ⟨o, ho, hc, n, hd⟩, _⟩ := I.tuple hs
      obtain ⟨as, hr⟩ := dzAll_rx I ds _ its (by simpa only [edOk] using ed) ha rv
      exact ⟨_, .tup ho hc hd hr⟩
  | .dict _, _, _, ed, h, r => by
    cases h with
    | dct hr =>
      cases r
      obtain ⟨_, hsm, vs, rv, o, es, ep, ho, hx, hd, _, hp, _⟩ := dk_rd I.hok hr
      have ev : vs = [] := by cases rv; rfl
      subst ev
      have ee : es.toList = [] := by
        cases q : es.toList with
        | nil => rfl
        | cons y ys => rw [q] at hp; cases hp
      exact ⟨_, .dct ho hx.1 hd ee hsm⟩
    | di hr => simp [edOk] at ed
theorem dzAll_rx (I : L2.Inv X pins σ H s) : ∀ (ds : List PyData) (vs : List V) (us : List Value), edAll ds = true → DzAll X.K H vs ds → Vals vs us → ∃ as, RxAll s.heap us ds as
  | [], _, _, _, h, r => by cases h; cases r; exact ⟨_, .nil⟩
  | d :: ds, _, _, ed, h, r => by
    simp only [edAll, Bool.and_eq_true] at ed
    cases h with
    | cons h1 h2 =>
      cases r with
      | cons r1 r2 =>
        obtain ⟨as, q1⟩ := dz_rx I d _ _ ed.1 h1 r1
        obtain ⟨bs, q2⟩ := dzAll_rx I ds _ _ ed.2 h2 r2
        exact ⟨_, .cons q1 q2⟩
end
end
theorem cr_repr (hg : X.A.guards = some []) (hu : X.A.units + 64 < cLine) : CallR X (.builtin "repr") (rRepr X.K) := by
  intro pins s σ H vs us Q I r h
  obtain ⟨v, d, rfl, hd, ok, q⟩ := h
  obtain ⟨u, rfl, ru⟩ := r.one
  obtain ⟨as, rx⟩ := dz_rx I d v u ok.ed hd ru
  have fin : ∀ (h' : Heap) (t : Tok) (k : Nat), (∀ b o, s.heap.get? b = some o → h'.get? b = some o) → EP X pins σ Q (.str d.shown t) { s with heap := h', toks := k } := fun h' t k kp => ⟨.str d.shown, H, I.kept (t' := k) kp, ⟨t, rfl⟩, q⟩
  have hsz := ok.fits
  have hdp := ok.dp
  cases rx with
  | non => exact PySem.P.repr_of_none (fin s.heap _ _ fun _ _ e => e)
  | bl b => exact PySem.P.repr_of_bool (fin s.heap _ _ fun _ _ e => e)
  | num i t => exact PySem.P.repr_of_int (by simpa [PyData.showable] using ok.ok) (fin s.heap _ _ fun _ _ e => e)
  | txt x t => exact PySem.P.repr_of_str (fin s.heap _ _ fun _ _ e => e) hsz
  | @lst a o ws n ys as p c dt rs =>
    have rr := (Rx.lst p c dt rs).rd
    have kk := ok.ok
    simp only [PyData.showable] at kk
    simp only [PyData.shown] at hsz
    simp only [PyData.depth] at hdp
    obtain ⟨cs, u1, u2⟩ := rs.sh (prog := X.prog) (w := X.w) kk fun t m => Nat.le_trans (listText_mem_le m) hsz
    have out := not_mem_of_deeper rr (n := PyData.depthAll ys) (by simp only [PyData.depth]; exact Nat.lt_succ_self _) u1
    refine call_repr_slot (by omega) ⟨o, p, c⟩ F.slot_list_repr.toG ?_
    match ws, rs, u2, dt with
    | ⟨[]⟩, rs, _, dt =>
      cases rs
      exact call_list_repr_empty ⟨o, p, c⟩ p dt ⟨_, _, rfl, by have := fin s.heap s.toks (s.toks + 1) fun _ _ e => e; simpa only [PyData.shown, PyData.shownAll, listText_nil] using this⟩
    | ⟨_ :: _⟩, _, u2, dt => exact call_list_reprK p c dt out (by simpa using u2.length_eq) (fun i y m => u2.item i y (by simpa using m)) hg (fun b _ => Clear.nil b) (by show X.A.units + 1 + _ < _; omega) (fun _ _ e => e) (fun h' u tk kp => ⟨_, _, rfl, by have := fin h' u tk kp; simpa only [PyData.shown] using this⟩) hsz
  | @tup a o ws n ys as p c dt rs =>
    have rr := (Rx.tup p c dt rs).rd
    have kk := ok.ok
    simp only [PyData.showable] at kk
    simp only [PyData.shown] at hsz
    simp only [PyData.depth] at hdp
    obtain ⟨cs, u1, u2⟩ := rs.sh (prog := X.prog) (w := X.w) kk fun t m => Nat.le_trans (tupleText_mem_le m) hsz
    have out := not_mem_of_deeper rr (n := PyData.depthAll ys) (by simp only [PyData.depth]; exact Nat.lt_succ_self _) u1
    refine call_repr_slot (by omega) ⟨o, p, c⟩ F.slot_tuple_repr ?_
    exact call_tuple_reprK p c dt out u2 hg (fun b _ => Clear.nil b) (by show X.A.units + 1 + _ < _; omega) (fun _ _ e => e) (fun h' u tk kp => ⟨_, _, rfl, by have := fin h' u tk kp; simpa only [PyData.shown] using this⟩) hsz
  | @dct a o es n p c dt e0 y =>
    simp only [PyData.depth, PyData.depthKv] at hdp
    refine call_repr_slot (by omega) ⟨o, p, c⟩ F.slot_dict_repr ?_
    exact call_dict_reprK (as := []) p c dt y (fun z => nomatch z) (rx_ents e0) hg (fun b _ => Clear.nil b) (by show X.A.units + 1 + (0 + 1) < _; omega) (fun _ _ e => e) (fun h' u tk kp => ⟨_, _, rfl, by have := fin h' u tk kp; simpa only [PyData.shown] using this⟩) (by simpa only [PyData.shown] using hsz)
theorem pd_repr (hgd : X.A.guards = some []) (hu : X.A.units + 64 < cLine) (hm : X.mg "repr" = none) (ha : PAD X [e] δ [d]) (ok : OkD d 390000 40) (hg : Gl X "repr" := by rfl) : PD X (.Call (.Name "repr" p) [e] [] pos) δ (.str d.shown) :=
  xd_cb (cr_repr hgd hu) hg hm (by decide +kernel) ha fun ds' e p B G H vs i3 hv Q q => by
    subst e
    obtain ⟨v, rfl, h⟩ := one_of hv
    exact ⟨v, _, rfl, dp_ex i3.gh _ _ h, ok, q _ _ G H rfl (.refl i3) (.str _)⟩
/-- isinstance against a built-in class -/
def tyD : Dt → String
  | .none => "NoneType"
  | .bool _ => "bool"
  | .int _ => "int"
  | .str _ => "str"
  | .list _ => "list"
  | .tuple _ => "tuple"
  | .dict _ => "dict"
theorem dz_ty {K : Fg} {G H : Hp} {v : V} (h : Dz K G v d) (ex : Ex G H) : TyX K H v (.type (tyD d)) := by
  cases h with
  | non => exact .base .non
  | bl b => exact .base (.bl b)
  | int i => exact .base (.int i)
  | str x => exact .base (.str x)
  | lst hs _ =>
    rcases ex_x ex hs with (h | ⟨o, h⟩) | ⟨its, n, h, _⟩
    · exact .base (.lst h)
    · exact .base (.frz h)
    · exact .kList h rfl
  | tup hs _ =>
    rcases ex_t ex hs with (h | ⟨o, h⟩) | ⟨o, its, n, h1, h2, _⟩
    · exact .base (.tup h)
    · exact .fTuple h
    · exact .kTuple h1 h2
  | dct hr =>
    rcases ex_rd ex hr with h | ⟨o, h⟩
    · exact .base (.dK h)
    · exact .fDict h
  | di hr =>
    rcases ex_rd ex hr with h | ⟨o, h⟩
    · exact .base (.dK h)
    · exact .fDict h
theorem pd_isi (t T : String) (c : Bool) {tn : Str} {p2 : Pos} (hm : X.mg "isinstance" = none) (hmT : X.mg tn = none) (he : PD X e δ d) (ht : tyD d = t := by rfl) (hk : kitB t T = some c := by decide +kernel) (hv : bootBuiltins tn = some (.type T) := by decide +kernel) (hgT : Gl X tn := by rfl) (hg : Gl X "isinstance" := by rfl)
    (hn : tn ≠ "__name__" := by decide) (hd : (tn == ("__debug__" : Str)) = false := by decide) (hs1 : starEach [.Name tn p2] X.env = [(false, eval (.Name tn p2) X.env)] := by rfl) (hs : starEach [e, .Name tn p2] X.env = (false, eval e X.env) :: starEach [.Name tn p2] X.env := by rfl) :
    PD X (.Call (.Name "isinstance" p) [e, .Name tn p2] [] pos) δ (.bool c) := by
  refine PE.imp (pe_callB call_isi hg hm (by decide +kernel) (pa_cons he (pa_cons (pe_bltn (v := .ty T) hgT hmT hv rfl hn hd) pa_nil (by rw [hs1]; rfl)) hs) (he := hs) (hpl := by rw [hs1]; rfl)) fun σ H Q ⟨p, B, G, i3, en, q⟩ => ⟨p, B, G, i3, en, fun v d' G' H' r n hv' => ?_⟩
  subst r
  exact ⟨v, .ty T, _, _, c, rfl, .ty T, dz_ty hv' n.gh, kit_ty (ht.symm ▸ hk), q _ _ G' H' rfl n (.bl _)⟩
theorem pd_isi2 (t T U : String) (c c2 : Bool) {tn un : Str} {p2 p3 p4 : Pos} {k : Nat} (hm : X.mg "isinstance" = none) (hmT : X.mg tn = none) (hmU : X.mg un = none) (he : PD X e δ d) (ht : tyD d = t := by rfl) (hk : kitB t T = some c := by decide +kernel) (hkU : kitB t U = some c2 := by decide +kernel) (hv : bootBuiltins tn = some (.type T) := by decide +kernel) (hvU : bootBuiltins un = some (.type U) := by decide +kernel)
    (hgT : Gl X tn := by rfl) (hgU : Gl X un := by rfl) (hg : Gl X "isinstance" := by rfl) (hn : tn ≠ "__name__" := by decide) (hd : (tn == ("__debug__" : Str)) = false := by decide) (hn2 : un ≠ "__name__" := by decide) (hd2 : (un == ("__debug__" : Str)) = false := by decide)
    (hs1 : starEach [.Tuple [.Name tn p2, .Name un p3] k p4] X.env = [(false, eval (.Tuple [.Name tn p2, .Name un p3] k p4) X.env)] := by rfl) (hs : starEach [e, .Tuple [.Name tn p2, .Name un p3] k p4] X.env = (false, eval e X.env) :: starEach [.Tuple [.Name tn p2, .Name un p3] k p4] X.env := by rfl) (ht2 : starEach [.Name un p3] X.env = [(false, eval (.Name un p3) X.env)] := by rfl) (ht : starEach [.Name tn p2, .Name un p3] X.env = (false, eval (.Name tn p2) X.env) :: starEach [.Name un p3] X.env := by rfl) :
    PD X (.Call (.Name "isinstance" p) [e, .Tuple [.Name tn p2, .Name un p3] k p4] [] pos) δ (.bool (c || c2)) := by
  refine PE.imp (pe_callB call_isiT hg hm (by decide +kernel) (pa_cons he (pa_cons (pe_tup (pa_cons (pe_bltn (v := .ty T) hgT hmT hv rfl hn hd) (pa_cons (pe_bltn (v := .ty U) hgU hmU hvU rfl hn2 hd2) pa_nil (by rw [ht2]; rfl)) ht)) pa_nil (by rw [hs1]; rfl)) hs) (he := hs) (hpl := by rw [hs1]; rfl)) fun σ H Q ⟨p, B, G, i3, en, q⟩ => ⟨p, B, G, i3, en, fun v d' G' H' r n hv' => ?_⟩
  subst r
  have i3' := i3.nxt n
  refine ⟨by show 2 ≤ sizeLine; decide, fun l hl => ?_⟩
  have n2 := Nxt.newH i3' (.tup [.ty T, .ty U]) hl
  refine ⟨v, l, _, _, [.type T, .type U], c || c2, rfl, upd_same, .cons (.ty T) (.cons (.ty U) .nil), dz_ty hv' n2.gh, kitAny_cons (kit_ty (ht.symm ▸ hk)) (fun hc => kitAny_cons (kit_ty (ht.symm ▸ hkU)) (fun h2 => ?_) (fun h2 => ?_)) (fun hc => ?_), q _ _ _ _ rfl (n.trans n2) (.bl _)⟩
  · rw [hc, h2]; rfl
  · rw [hc, h2]; rfl
  · rw [hc]; rfl
/-- x in (..), texts -/
theorem dz_strs {K : Fg} {G : Hp} : ∀ {xs : List V} {ss : List Str}, DzAll K G xs (ss.map PyData.str) → xs = ss.map V.str
  | _, [], h => by cases h; rfl
  | _, n :: ns, h => by
    cases h with
    | cons h1 h2 => cases h1; rw [dz_strs h2]; rfl
theorem pd_inS {ss : List Str} {x : Str} (ha : PD X a δ (.str x)) (hb : PD X b δ (.tuple (ss.map PyData.str))) (hmk : behindInMarks .In b = false := by rfl) : PD X (.Compare a [.In] [b] pos) δ (.bool (ss.any fun y => y == x)) :=
  xd_cmp op_in_seq ha hb hmk fun d1 d2 e1 e2 => by
    subst e1; subst e2
    intro p B G H v w i3 h1 h2 Q q
    cases h1
    cases h2 with
    | tup hs ha =>
      have e := dz_strs ha
      subst e
      refine ⟨_, _, rfl, .inr (ex_t i3.gh hs), rfl, ?_, q _ _ G H rfl (.refl i3) ?_⟩
      · rw [List.all_map]; exact List.all_eq_true.mpr fun _ _ => rfl
      · have : inV (V.str x) (ss.map V.str) = ss.any fun y => y == x := by unfold inV; rw [List.any_map]; rfl
        show Dz _ _ (V.bl (inV (V.str x) (ss.map V.str))) _
        rw [this]; exact .bl _
/-! slices, sums of lists -/
def cutD (ds : List Dt) (lo hi : Option Int) : List Dt := (ds.drop (HT.sIx ds.length 0 lo)).take (HT.sIx ds.length ds.length hi - HT.sIx ds.length 0 lo)
theorem dz_cut {K : Fg} {G : Hp} {xs : List V} {lo hi : Option Int} (h : DzAll K G xs ds) : DzAll K G (cutV xs lo hi) (cutD ds lo hi) := by
  unfold cutV cutD
  rw [dpAll_length h]
  exact dpAll_take _ (dpAll_drop _ h)
def rO (K : Fg) (δ : De) (o : Option Int) : TO := fun σ H Q => ∃ p B G, I3 p B G H ∧ EnvD K p B G H σ δ ∧ ∀ G' H', Nxt p G H G' H' → Q o H'
def OD (X : Cx) (e : Option Expr) (δ : De) (o : Option Int) : Prop := PO X e (rO X.K δ o)
theorem PO.imp {X : Cx} {e : Option Expr} {t t' : TO} (h : PO X e t) (k : ∀ σ H Q, t' σ H Q → t σ H Q) : PO X e t' := ⟨fun pins s σ H Q I q => h.run pins s σ H Q I (k σ H Q q)⟩
theorem od_none : OD X none δ none := PO.imp po_none fun σ H Q ⟨p, B, G, i3, en, q⟩ => q G H (.refl i3)
theorem od_some (h : PD X e δ (.int i)) : OD X (some e) δ (some i) := PO.imp (po_some h) fun σ H Q ⟨p, B, G, i3, en, q⟩ => ⟨p, B, G, i3, en, fun v d G' H' r n hv => by subst r; cases hv; exact ⟨i, rfl, q G' H' n⟩⟩
theorem pd_slL {lo hi : Option Expr} {l u : Option Int} {p2 : Pos} (he : PD X e δ (.list ds)) (hl : OD X lo δ l) (hu : OD X hi δ u) : PD X (.Subscript e (.Slice lo hi none p2) pos) δ (.list (cutD ds l u)) :=
  PE.imp (pe_slice sl_list he hl hu) fun σ H Q ⟨p, B, G, i3, en, q⟩ => ⟨p, B, G, i3, en, fun v d G1 H1 r n1 hv => ⟨p, B, G1, i3.nxt n1, en.nxt n1, fun G2 H2 n2 => ⟨p, B, G2, i3.nxt (n1.trans n2), en.nxt (n1.trans n2), fun G3 H3 n3 => by
    subst r
    have n := (n1.trans n2).trans n3
    have i3' := i3.nxt n
    cases dp_ex (n2.st.1.trans n3.st.1) _ _ hv with
    | lst hs ha => exact ⟨_, _, rfl, exl i3'.gh hs, fun l hl => q _ _ _ _ rfl (n.trans (.new i3' _ hl)) (.lst (.inl (.inl upd_same)) (dpAll_ex (Ex.new (i3'.gh.free hl)) _ _ (dz_cut ha)))⟩⟩⟩⟩
theorem pd_rev {k : Nat} {p1 p2 p3 : Pos} (he : PD X e δ (.list ds)) : PD X (.Subscript e (.Slice none none (some (.UnaryOp .USub (.Constant (.int 1) k p1) p2)) p3) pos) δ (.list ds.reverse) :=
  PE.imp (pe_revL he) fun σ H Q ⟨p, B, G, i3, en, q⟩ => ⟨p, B, G, i3, en, fun v d G' H' r n hv => by
    subst r
    have i3' := i3.nxt n
    cases hv with
    | lst hs ha => exact ⟨_, _, rfl, exl i3'.gh hs, fun l hl => q _ _ _ _ rfl (n.trans (.new i3' _ hl)) (.lst (.inl (.inl upd_same)) (dpAll_ex (Ex.new (i3'.gh.free hl)) _ _ (dpAll_reverse ha)))⟩⟩
def rCatR (K : Fg) : R2 := fun x y H Q => ∃ l b xs zs, x = .ref l ∧ y = .ref b ∧ SqX K H l xs ∧ SqX K H b zs ∧ xs.length + zs.length ≤ sizeLine ∧ ∀ p, H p = none → Q (.ref p) (upd H p (.lst (xs ++ zs)))
theorem rd_lst {pins : List (Addr × Obj)} {σ : L2.St} {H : Hp} {s : Shared} {l : Addr} {xs : List V} (I : Inv X pins σ H s) (h : SqX X.K H l xs) : ∃ its n, Vals xs its ∧ s.heap.get? l = some { cls := .type "list", data := .seq its.toArray n } := by
  rcases h with h | ⟨its, n, h1, _, h3⟩
  case inr => exact ⟨its, n, h3, I.kIn l _ h1⟩
  obtain ⟨_, its, n, r, e⟩ := (show ObjOk X.prog X.w H s.heap l (.lst xs) from h.ok I.hok)
  exact ⟨its, n, r, e⟩
theorem op_catR : OpR X (binaryOp .Add) (rCatR X.K) := by
  intro pins s σ H x y v u Q I rx ry h
  obtain ⟨l, b, xs, zs, rfl, rfl, hH, hB, hz, q⟩ := h
  cases rx
  cases ry
  obtain ⟨its, n, r, e⟩ := rd_lst I hH
  obtain ⟨its2, n2, r2, e2⟩ := rd_lst I hB
  refine PySem.P.add_list e e2 ?_ (by rw [List.size_toArray, List.size_toArray, ← r.length, ← r2.length]; exact hz)
  have ea : its.toArray ++ its2.toArray = (its ++ its2).toArray := by simp
  rw [ea]
  exact ⟨.ref _, _, I.lnew (t' := s.toks) (r.append r2) (by rw [List.length_append]; exact hz), rfl, q _ I.fresh⟩
theorem pd_cat {es fs : List Dt} (ha : PD X a δ (.list es)) (hb : PD X b δ (.list fs)) (hl : es.length + fs.length ≤ 100000) : PD X (.BinOp a .Add b pos) δ (.list (es ++ fs)) := xd_op op_catR ha hb fun x y e1 e2 => by
  subst e1; subst e2
  intro p B G H v w i3 h1 h2 Q q
  cases h1 with
  | lst hs ha => cases h2 with
    | lst hs2 ha2 =>
      exact ⟨_, _, _, _, rfl, rfl, ex_x i3.gh hs, ex_x i3.gh hs2, by rw [dpAll_length ha, dpAll_length ha2]; exact Nat.le_trans hl (by decide), fun l hl => q _ _ _ _ rfl (.new i3 _ hl) (.lst (.inl (.inl upd_same)) (dpAll_ex (Ex.new (i3.gh.free hl)) _ _ (dpAll_append ha ha2)))⟩
end
end Dv

namespace Dv
open PySem PySem.Spec PyProof.Rows L2
variable [Tbl]
section
variable {X : Cx} {a b c e : Expr} {δ : De} {pos : Pos} {x y : Dt} {i j : Int}
/-- comparisons as tests -/
theorem ptc {op : CmpOp} {r : R2} {k : Bool} (ho : OpR X (compareOp op) r) (ha : PD X a δ x) (hb : PD X b δ y) (hm : behindInMarks op b = false) (hr : RD X.K r x y fun d => d = .bool k) : PTD X (.Compare a [op] [b] pos) δ k :=
  xt_cmp ho ha hb hm fun x' y' e1 e2 => by
    subst e1; subst e2
    intro p B G H v w i3 h1 h2 Q q
    exact hr p B G H v w i3 h1 h2 Q fun u d G' H' e => q u d G' H' ⟨k, e, rfl⟩
theorem pt_lt (ha : PD X a δ (.int i)) (hb : PD X b δ (.int j)) : PTD X (.Compare a [.Lt] [b] pos) δ (decide (i < j)) := ptc op_lt ha hb (nomark _) (by refine rd_b ?_; rfl)
theorem pt_le (ha : PD X a δ (.int i)) (hb : PD X b δ (.int j)) : PTD X (.Compare a [.LtE] [b] pos) δ (decide (i ≤ j)) := ptc op_le ha hb (nomark _) (by refine rd_b ?_; rfl)
theorem pt_gt (ha : PD X a δ (.int i)) (hb : PD X b δ (.int j)) : PTD X (.Compare a [.Gt] [b] pos) δ (decide (j < i)) := ptc op_gt ha hb (nomark _) (by refine rd_b ?_; rfl)
theorem pt_ge (ha : PD X a δ (.int i)) (hb : PD X b δ (.int j)) : PTD X (.Compare a [.GtE] [b] pos) δ (decide (j ≤ i)) := ptc op_ge ha hb (nomark _) (by refine rd_b ?_; rfl)
theorem pt_eqI {i j : Int} (ha : PD X a δ (.int i)) (hb : PD X b δ (.int j)) : PTD X (.Compare a [.Eq] [b] pos) δ (decide (i = j)) := ptc op_eq ha hb (nomark _) (by
  intro p B G H v w i3 h1 h2 Q q
  cases h1; cases h2
  refine ⟨rfl, q _ _ G H rfl (.refl i3) ?_⟩
  have : decide (V.int i = V.int j) = decide (i = j) := by by_cases h : i = j <;> simp [h]
  rw [this]; exact .bl _)
theorem pt_neI {i j : Int} (ha : PD X a δ (.int i)) (hb : PD X b δ (.int j)) : PTD X (.Compare a [.NotEq] [b] pos) δ (!decide (i = j)) := ptc op_ne ha hb (nomark _) (by
  intro p B G H v w i3 h1 h2 Q q
  cases h1; cases h2
  refine ⟨rfl, q _ _ G H rfl (.refl i3) ?_⟩
  have : decide (V.int i = V.int j) = decide (i = j) := by by_cases h : i = j <;> simp [h]
  rw [this]; exact .bl _)
theorem pt_eqS {i j : Str} (ha : PD X a δ (.str i)) (hb : PD X b δ (.str j)) : PTD X (.Compare a [.Eq] [b] pos) δ (decide (i = j)) := ptc op_eq ha hb (nomark _) (by
  intro p B G H v w i3 h1 h2 Q q
  cases h1; cases h2
  refine ⟨rfl, q _ _ G H rfl (.refl i3) ?_⟩
  have : decide (V.str i = V.str j) = decide (i = j) := by by_cases h : i = j <;> simp [h]
  rw [this]; exact .bl _)
theorem pt_neS {i j : Str} (ha : PD X a δ (.str i)) (hb : PD X b δ (.str j)) : PTD X (.Compare a [.NotEq] [b] pos) δ (!decide (i = j)) := ptc op_ne ha hb (nomark _) (by
  intro p B G H v w i3 h1 h2 Q q
  cases h1; cases h2
  refine ⟨rfl, q _ _ G H rfl (.refl i3) ?_⟩
  have : decide (V.str i = V.str j) = decide (i = j) := by by_cases h : i = j <;> simp [h]
  rw [this]; exact .bl _)
theorem pt_eqB {i j : Bool} (ha : PD X a δ (.bool i)) (hb : PD X b δ (.bool j)) : PTD X (.Compare a [.Eq] [b] pos) δ (decide (i = j)) := ptc op_eq ha hb (nomark _) (by
  intro p B G H v w i3 h1 h2 Q q
  cases h1; cases h2
  refine ⟨rfl, q _ _ G H rfl (.refl i3) ?_⟩
  have : decide (V.bl i = V.bl j) = decide (i = j) := by by_cases h : i = j <;> simp [h]
  rw [this]; exact .bl _)
theorem pt_neB {i j : Bool} (ha : PD X a δ (.bool i)) (hb : PD X b δ (.bool j)) : PTD X (.Compare a [.NotEq] [b] pos) δ (!decide (i = j)) := ptc op_ne ha hb (nomark _) (by
  intro p B G H v w i3 h1 h2 Q q
  cases h1; cases h2
  refine ⟨rfl, q _ _ G H rfl (.refl i3) ?_⟩
  have : decide (V.bl i = V.bl j) = decide (i = j) := by by_cases h : i = j <;> simp [h]
  rw [this]; exact .bl _)

theorem pt_isN {c : Bool} (ha : PD X a δ x) (hb : PD X b δ .none) (hc : c = (match x with | .none => true | _ => false) := by rfl) : PTD X (.Compare a [.Is] [b] pos) δ c := ptc op_isN ha hb (nomark _) (by
  intro p B G H v w i3 h1 h2 Q q
  cases h2
  refine ⟨rfl, q _ _ G H rfl (.refl i3) ?_⟩
  subst hc
  cases h1 <;> exact .bl _)
theorem pt_notN {c : Bool} (ha : PD X a δ x) (hb : PD X b δ .none) (hc : c = (match x with | .none => false | _ => true) := by rfl) : PTD X (.Compare a [.IsNot] [b] pos) δ c := ptc op_notN ha hb (nomark _) (by
  intro p B G H v w i3 h1 h2 Q q
  cases h2
  refine ⟨rfl, q _ _ G H rfl (.refl i3) ?_⟩
  subst hc
  cases h1 <;> exact .bl _)
theorem pt_eqD (hu : X.A.units + 64 < cLine) (ha : PD X a δ x) (hb : PD X b δ y) (hx : SeqAt.shaped x = true) (hy : SeqAt.shaped y = true) : PTD X (.Compare a [.Eq] [b] pos) δ (PyData.eqv x y) := ptc (op_eqD hu) ha hb (nomark _) (by
  intro p B G H v w i3 h1 h2 Q q
  exact ⟨_, _, dz_dp _ _ (nds hx) (dp_ex i3.gh _ _ h1), dz_dp _ _ (nds hy) (dp_ex i3.gh _ _ h2), hx, hy, q _ _ G H rfl (.refl i3) (.bl _)⟩)
theorem pt_neD (hu : X.A.units + 64 < cLine) (ha : PD X a δ x) (hb : PD X b δ y) (hx : SeqAt.shaped x = true) (hy : SeqAt.shaped y = true) : PTD X (.Compare a [.NotEq] [b] pos) δ (!PyData.eqv x y) := ptc (op_neD hu) ha hb (nomark _) (by
  intro p B G H v w i3 h1 h2 Q q
  exact ⟨_, _, dz_dp _ _ (nds hx) (dp_ex i3.gh _ _ h1), dz_dp _ _ (nds hy) (dp_ex i3.gh _ _ h2), hx, hy, q _ _ G H rfl (.refl i3) (.bl _)⟩)
end
end Dv

set_option linter.all false
set_option maxRecDepth 100000
set_option maxHeartbeats 2000000
namespace Dv
open PySem PySem.Spec PyProof.Rows L2
variable [Tbl]
/-! ### statements -/
structure Out where
  nx : De → Prop := fun _ => False
  rt : Dt → Prop := fun _ => False
  bk : De → Prop := fun _ => False
  ct : De → Prop := fun _ => False
  ro : List Dt → Prop := fun _ => False
/-- what is wanted, from (B, G) on -/
structure Post (K : Fg) (p : Option Addr) (B G : Hp) (D : Ends) (o : Out) : Prop where
  nx : ∀ δ σ G' H', o.nx δ → Step B G G' → I3 p B G' H' → EnvD K p B G' H' σ δ → D.nx σ H'
  rt : ∀ d v G' H', o.rt d → Step B G G' → I3 p B G' H' → Dz K G' v d → D.rt v H'
  bk : ∀ δ σ G' H', o.bk δ → Step B G G' → I3 p B G' H' → EnvD K p B G' H' σ δ → D.bk σ H'
  ct : ∀ δ σ G' H', o.ct δ → Step B G G' → I3 p B G' H' → EnvD K p B G' H' σ δ → D.ct σ H'
  ro : ∀ ds l xs G' H', o.ro ds → Step B G G' → I3 p B G' H' → B l = none → G' l = none → p ≠ some l → H' l = some (.lst xs) → DzAll K G' xs ds → D.rt (.ref l) H'
def rS (K : Fg) (δ : De) (o : Out) : TS := fun D σ H => ∃ p B G, I3 p B G H ∧ EnvD K p B G H σ δ ∧ Post K p B G D o
def SD (X : Cx) (st : Stmt) (δ : De) (o : Out) : Prop := PS X st (rS X.K δ o)
def SsD (X : Cx) (st : List Stmt) (δ : De) (o : Out) : Prop := PSs X st (rS X.K δ o)
theorem Post.step {K : Fg} {p : Option Addr} {B G G' : Hp} {D : Ends} {o : Out} (h : Post K p B G D o) (s : Step B G G') : Post K p B G' D o :=
  ⟨fun δ σ G2 H2 a b => h.nx δ σ G2 H2 a (s.trans b), fun d v G2 H2 a b => h.rt d v G2 H2 a (s.trans b), fun δ σ G2 H2 a b => h.bk δ σ G2 H2 a (s.trans b), fun δ σ G2 H2 a b => h.ct δ σ G2 H2 a (s.trans b), fun ds l xs G2 H2 a b => h.ro ds l xs G2 H2 a (s.trans b)⟩
theorem Nxt.stepB {p : Option Addr} {B G H G' H' : Hp} (i : I3 p B G H) (n : Nxt p G H G' H') : Step B G G' := n.st.le i.bh.dom
section
variable {X : Cx} {st : Stmt} {sts tss : List Stmt} {a b c e : Expr} {es : List Expr} {δ δ' : De} {o : Out} {d : Dt} {ds : List Dt} {pos p : Pos} {R : Dt → Prop}
theorem SD.mono {o1 : Out} (h : SD X st δ o1) (h1 : ∀ x, o1.nx x → o.nx x) (h2 : ∀ x, o1.rt x → o.rt x) (h3 : ∀ x, o1.bk x → o.bk x) (h4 : ∀ x, o1.ct x → o.ct x) (h5 : ∀ x, o1.ro x → o.ro x) : SD X st δ o := PS.imp h fun D σ H ⟨p, B, G, i3, en, q⟩ =>
  ⟨p, B, G, i3, en, fun δ σ G2 H2 a => q.nx δ σ G2 H2 (h1 _ a), fun d v G2 H2 a => q.rt d v G2 H2 (h2 _ a), fun δ σ G2 H2 a => q.bk δ σ G2 H2 (h3 _ a), fun δ σ G2 H2 a => q.ct δ σ G2 H2 (h4 _ a), fun ds l xs G2 H2 a => q.ro ds l xs G2 H2 (h5 _ a)⟩
theorem ss_nil (h : o.nx δ) : SsD X [] δ o := PSs.imp pss_nil fun D σ H ⟨p, B, G, i3, en, q⟩ => q.nx δ σ G H h (.refl _ _) i3 en
/-- a statement, then the rest from whatever it may leave -/
theorem ss_seq {N : De → Prop} (h : SD X st δ { o with nx := N }) (k : ∀ δ', N δ' → SsD X sts δ' o) : SsD X (st :: sts) δ o := by
  have hk : PSs X sts (fun D σ H => ∃ δ', N δ' ∧ rS X.K δ' o D σ H) := ⟨fun pins s σ H D I ⟨δ', n, q⟩ => (k δ' n).run pins s σ H D I q⟩
  exact PSs.imp (pss_cons h hk) fun D σ H ⟨p, B, G, i3, en, q⟩ => ⟨p, B, G, i3, en, fun δ1 σ1 G1 H1 a s i en1 => ⟨δ1, a, p, B, G1, i, en1, q.step s⟩, q.rt, q.bk, q.ct, q.ro⟩
theorem ss_to (h : SD X st δ { o with nx := fun x => x = δ' }) (k : SsD X sts δ' o) : SsD X (st :: sts) δ o := ss_seq h fun _ e => e ▸ k
/-- a statement that does not go on -/
theorem ss_end (h : SD X st δ { o with nx := fun _ => False }) : SsD X (st :: sts) δ o := ss_seq h fun _ z => z.elim
theorem sd_ret (h : XD X e δ R) (hR : ∀ d, R d → o.rt d) : SD X (.Return (some e) pos) δ o := PS.imp (ps_ret h) fun D σ H ⟨p, B, G, i3, en, q⟩ => ⟨p, B, G, i3, en, fun v d G' H' r n hv => q.rt d v G' H' (hR d r) (n.stepB i3) (i3.nxt n) hv⟩
theorem s_ret (h : PD X e δ d) (hR : o.rt d) : SsD X (.Return (some e) pos :: sts) δ o := ss_end (sd_ret h fun x e => e ▸ hR)
/-- x = e -/
theorem sd_set (i : Nat) {x : Str} {N : De → Prop} {pos' : Pos} (hN : X.N.Nodup) (he : XD X e δ R) (hR : ∀ d, R d → N (δ.set i (.d d))) (hi : X.N[i]? = some x := by rfl) (hx : Loc X.env.scope x := by first | exact Or.inl rfl | exact Or.inr rfl)
    (hs : swapsWith e (some (.Name x pos')) pos.line X.env = pure false := by rfl) (hf : X.fn x = true ∨ X.env.scope.names.lookup x = some .local := by first | exact .inl rfl | exact .inr rfl | assumption) : SD X (.Assign [.Name x pos'] e pos) δ { o with nx := N } :=
  PS.imp (ps_set hN hi hx he hs hf) fun D σ H ⟨p, B, G, i3, en, q⟩ => ⟨p, B, G, i3, en, fun v d G' H' r n hv => q.nx _ _ G' H' (hR d r) (n.stepB i3) (i3.nxt n) ((en.nxt n).set hv)⟩
theorem s_set (i : Nat) {x : Str} {pos' : Pos} (hN : X.N.Nodup) (he : PD X e δ d) (k : SsD X sts (δ.set i (.d d)) o) (hi : X.N[i]? = some x := by rfl) (hx : Loc X.env.scope x := by first | exact Or.inl rfl | exact Or.inr rfl)
    (hs : swapsWith e (some (.Name x pos')) pos.line X.env = pure false := by rfl) (hf : X.fn x = true ∨ X.env.scope.names.lookup x = some .local := by first | exact .inl rfl | exact .inr rfl | assumption) : SsD X (.Assign [.Name x pos'] e pos :: sts) δ o :=
  ss_to (sd_set i hN he (fun x e => by rw [e]) hi hx hs hf) k
/-- a, b, .. = e -/
theorem sd_asg {tg : Expr} {js : List Nat} {N : De → Prop} (he : XD X e δ R) (F : Dt → De) (hg : ∀ d, R d → TgD X tg js d δ (F d)) (hR : ∀ d, R d → N (F d)) (hs : swapsWithSole [tg] e pos.line X.env = pure false := by rfl) (hw : swappedStores [tg] e X.env = pure none := by rfl)
    (h1 : (assignEach [tg] X.env).map (·.2) = [assign tg X.env] := by rfl) : SD X (.Assign [tg] e pos) δ { o with nx := N } := by
  have pg : PG X tg (fun v σ H Q => ∃ d, R d ∧ rG X.K js d δ (F d) v σ H Q) := ⟨fun pins s σ H v u Q I r ⟨d, a, q⟩ => (hg d a).run pins s σ H v u Q I r q⟩
  exact PS.imp (ps_asg he pg hs hw h1) fun D σ H ⟨p, B, G, i3, en, q⟩ => ⟨p, B, G, i3, en, fun v d G' H' r n hv => ⟨d, r, p, B, G', i3.nxt n, en.nxt n, hv, fun σ' en' _ => q.nx _ _ G' H' (hR d r) (n.stepB i3) (i3.nxt n) en'⟩⟩
theorem s_asg {tg : Expr} {js : List Nat} (he : PD X e δ d) (hg : TgD X tg js d δ δ') (k : SsD X sts δ' o) (hs : swapsWithSole [tg] e pos.line X.env = pure false := by rfl) (hw : swappedStores [tg] e X.env = pure none := by rfl)
    (h1 : (assignEach [tg] X.env).map (·.2) = [assign tg X.env] := by rfl) : SsD X (.Assign [tg] e pos :: sts) δ o :=
  ss_to (sd_asg he (fun _ => δ') (fun x e => by rw [e]; exact hg) (fun _ _ => rfl) hs hw h1) k
/-- an expression alone -/
theorem sd_expr {N : De → Prop} (he : XD X e δ R) (hR : ∀ d, R d → N δ) (hs : swapsWith e none pos.line X.env = pure false := by rfl) : SD X (.Expr e pos) δ { o with nx := N } :=
  PS.imp (ps_expr he hs) fun D σ H ⟨p, B, G, i3, en, q⟩ => ⟨p, B, G, i3, en, fun v d G' H' r n hv => q.nx _ _ G' H' (hR d r) (n.stepB i3) (i3.nxt n) (en.nxt n)⟩
theorem s_expr (he : PD X e δ d) (k : SsD X sts δ o) (hs : swapsWith e none pos.line X.env = pure false := by rfl) : SsD X (.Expr e pos :: sts) δ o := ss_to (sd_expr he (fun _ _ => rfl) hs) k
/-- if -/
theorem sd_if {S : Bool → Prop} (hc : XT X c δ S) (h1 : S true → SsD X sts δ o) (h2 : S false → SsD X tss δ o) : SD X (.If c sts tss pos) δ o := by
  have z1 : PSs X sts (fun D σ H => S true ∧ rS X.K δ o D σ H) := ⟨fun pins s σ H D I h => (h1 h.1).run pins s σ H D I h.2⟩
  have z2 : PSs X tss (fun D σ H => S false ∧ rS X.K δ o D σ H) := ⟨fun pins s σ H D I h => (h2 h.1).run pins s σ H D I h.2⟩
  exact PS.imp (ps_if hc z1 z2) fun D σ H ⟨p, B, G, i3, en, q⟩ => ⟨p, B, G, i3, en, fun k G' H' r n => by
    cases k with
    | true => exact iteT ⟨r, p, B, G', i3.nxt n, en.nxt n, q.step (n.stepB i3)⟩
    | false => exact iteF ⟨r, p, B, G', i3.nxt n, en.nxt n, q.step (n.stepB i3)⟩⟩
/-- if c: .. that ends; then the rest -/
theorem s_if {k : Bool} (hc : PTD X c δ k) (h1 : k = true → SsD X sts δ { o with nx := fun _ => False }) (h2 : k = false → SsD X tss δ o) : SsD X (.If c sts [] pos :: tss) δ o :=
  ss_seq (N := fun x => k = false ∧ x = δ) (sd_if hc (fun h => PSs.imp (h1 h.symm) fun D σ H ⟨p, B, G, i3, en, q⟩ => ⟨p, B, G, i3, en, fun _ _ _ _ z => z.elim, q.rt, q.bk, q.ct, q.ro⟩) fun h => ss_nil ⟨h.symm, rfl⟩) fun x ⟨h, e⟩ => e ▸ h2 h
/-- a test known to be false -/
theorem s_if0 (hc : PTD X c δ false) (h2 : SsD X tss δ o) : SsD X (.If c sts [] pos :: tss) δ o := s_if hc (fun h => Bool.noConfusion h) fun _ => h2
/-- for -/
theorem sd_for {tg iter : Expr} {js : List Nat} {S : List Dt → Prop} {N : De → Prop} (hp : PassesOwn (model X.prog X.w) X.A X.env X.xe) (hc : X.calm = true) (hi : XI X tg iter δ S) (Iv : List Dt → Nat → De → Prop) (h0 : ∀ ds, S ds → Iv ds 0 δ)
    (F : Dt → De → De) (hg : ∀ ds (i : Nat) d δ', S ds → ds[i]? = some d → Iv ds i δ' → TgD X tg js d δ' (F d δ'))
    (hb : ∀ ds (i : Nat) d δ', S ds → ds[i]? = some d → Iv ds i δ' → SsD X sts (F d δ') { nx := Iv ds (i + 1), rt := o.rt, ro := o.ro, bk := N, ct := Iv ds (i + 1) })
    (hd : ∀ ds δ', S ds → Iv ds ds.length δ' → N δ') (hs : ∀ x, foldedSetIterable iter X.env x = pure x := by intro _; rfl) : SD X (.For tg iter sts [] pos) δ { o with nx := N } := by
  have pg : PG X tg (fun v σ H Q => ∃ ds, ∃ (i : Nat), ∃ d δ', S ds ∧ ds[i]? = some d ∧ Iv ds i δ' ∧ rG X.K js d δ' (F d δ') v σ H Q) := ⟨fun pins s σ H v u Q I r ⟨ds, i, d, δ', a, b, c, q⟩ => (hg ds i d δ' a b c).run pins s σ H v u Q I r q⟩
  have pb : PSs X sts (fun D σ H => ∃ ds, ∃ (i : Nat), ∃ d δ', S ds ∧ ds[i]? = some d ∧ Iv ds i δ' ∧ rS X.K (F d δ') { nx := Iv ds (i + 1), rt := o.rt, ro := o.ro, bk := N, ct := Iv ds (i + 1) } D σ H) := ⟨fun pins s σ H D I ⟨ds, i, d, δ', a, b, c, q⟩ => (hb ds i d δ' a b c).run pins s σ H D I q⟩
  refine PS.imp (ps_for hp hc hi pg pb (hs := hs)) fun D σ H ⟨p, B, G, i3, en, q⟩ => ⟨p, B, G, i3, en, fun J ds G1 H1 s n yl => ?_⟩
  have st1 := n.stepB i3
  refine ⟨fun i m σ' H' => m = ds.length - i ∧ i ≤ ds.length ∧ ∃ G' δ', Step B G1 G' ∧ I3 p B G' H' ∧ EnvD X.K p B G' H' σ' δ' ∧ Iv ds i δ', ⟨_, rfl, Nat.zero_le _, G1, δ, .refl _ _, i3.nxt n, en.nxt n, h0 ds s⟩, ?_⟩
  rintro i m σ' H' ⟨em, hle, G', δ', st', i3', en', iv⟩
  by_cases hlt : i < ds.length
  · obtain ⟨go, yd⟩ := (yl p B G' H' st'.1 i3' i).1 hlt
    refine .inr ⟨go, fun σ2 H2 => ∃ G2 δ2, Step B G1 G2 ∧ I3 p B G2 H2 ∧ EnvD X.K p B G2 H2 σ2 δ2 ∧ Iv ds (i + 1) δ2, fun σ2 H2 ⟨G2, δ2, a1, a2, a3, a4⟩ => ⟨_, by omega, rfl, by omega, G2, δ2, a1, a2, a3, a4⟩, fun x H2 hy => ?_⟩
    obtain ⟨G2, d, e2, n2, hx⟩ := yd x H2 hy
    refine ⟨ds, i, d, δ', s, e2, iv, p, B, G2, i3'.nxt n2, en'.nxt n2, hx, fun σ2 en2 _ => ⟨ds, i, d, δ', s, e2, iv, p, B, G2, i3'.nxt n2, en2, ?_⟩⟩
    have st2 := st'.trans (n2.stepB i3')
    exact ⟨fun δ3 σ3 G3 H3 a b c e => ⟨G3, δ3, st2.trans b, c, e, a⟩, fun d3 v3 G3 H3 a b => q.rt d3 v3 G3 H3 a ((st1.trans st2).trans b), fun δ3 σ3 G3 H3 a b => q.nx δ3 σ3 G3 H3 a ((st1.trans st2).trans b), fun δ3 σ3 G3 H3 a b c e => ⟨G3, δ3, st2.trans b, c, e, a⟩, fun ds3 l3 xs3 G3 H3 a b => q.ro ds3 l3 xs3 G3 H3 a ((st1.trans st2).trans b)⟩
  · have e : i = ds.length := by omega
    subst e
    exact .inl ⟨(yl p B G' H' st'.1 i3' _).2 rfl, q.nx δ' σ' G' H' (hd ds δ' s iv) (st1.trans st') i3' en'⟩
/-- while -/
theorem sd_while {N : De → Prop} (hp : PassesOwn (model X.prog X.w) X.A X.env X.xe) (Iv : Nat → De → Prop) (m0 : Nat) (h0 : Iv m0 δ) (T : Nat → De → Bool → Prop) (hc : ∀ m δ', Iv m δ' → XT X c δ' (T m δ'))
    (hb : ∀ m δ', Iv m δ' → T m δ' true → SsD X sts δ' { nx := fun δ2 => ∃ m', m' < m ∧ Iv m' δ2, rt := o.rt, ro := o.ro, bk := N, ct := fun δ2 => ∃ m', m' < m ∧ Iv m' δ2 })
    (hd : ∀ m δ', Iv m δ' → T m δ' false → N δ') : SD X (.While c sts [] pos) δ { o with nx := N } := by
  have pc : PT X c (fun σ H Q => ∃ m δ', Iv m δ' ∧ rT X.K δ' (T m δ') σ H Q) := ⟨fun pins s σ H Q I ⟨m, δ', a, q⟩ => (hc m δ' a).run pins s σ H Q I q⟩
  have pb : PSs X sts (fun D σ H => ∃ m δ', Iv m δ' ∧ T m δ' true ∧ rS X.K δ' { nx := fun δ2 => ∃ m', m' < m ∧ Iv m' δ2, rt := o.rt, ro := o.ro, bk := N, ct := fun δ2 => ∃ m', m' < m ∧ Iv m' δ2 } D σ H) := ⟨fun pins s σ H D I ⟨m, δ', a, b, q⟩ => (hb m δ' a b).run pins s σ H D I q⟩
  refine PS.imp (ps_while hp pc pb) fun D σ H ⟨p, B, G, i3, en, q⟩ => ⟨fun m σ' H' => ∃ G' δ', Step B G G' ∧ I3 p B G' H' ∧ EnvD X.K p B G' H' σ' δ' ∧ Iv m δ', ⟨m0, G, δ, .refl _ _, i3, en, h0⟩, ?_⟩
  rintro m σ' H' ⟨G', δ', st', i3', en', iv⟩
  refine ⟨m, δ', iv, p, B, G', i3', en', fun k G2 H2 t n2 => ?_⟩
  have st2 := st'.trans (n2.stepB i3')
  cases k with
  | true => exact iteT ⟨fun σ3 H3 => ∃ m', m' < m ∧ ∃ G3 δ3, Step B G G3 ∧ I3 p B G3 H3 ∧ EnvD X.K p B G3 H3 σ3 δ3 ∧ Iv m' δ3, fun σ3 H3 h => h, m, δ', iv, t, p, B, G2, i3'.nxt n2, en'.nxt n2,
      fun δ3 σ3 G3 H3 ⟨m', a1, a2⟩ b c e => ⟨m', a1, G3, δ3, st2.trans b, c, e, a2⟩, fun d3 v3 G3 H3 a b => q.rt d3 v3 G3 H3 a (st2.trans b), fun δ3 σ3 G3 H3 a b => q.nx δ3 σ3 G3 H3 a (st2.trans b), fun δ3 σ3 G3 H3 ⟨m', a1, a2⟩ b c e => ⟨m', a1, G3, δ3, st2.trans b, c, e, a2⟩, fun ds3 l3 xs3 G3 H3 a b => q.ro ds3 l3 xs3 G3 H3 a (st2.trans b)⟩
  | false => exact iteF (q.nx δ' σ' G2 H2 (hd m δ' iv t) st2 (i3'.nxt n2) (en'.nxt n2))
/-- an if at the end -/
theorem s_when {k : Bool} (hc : PTD X c δ k) (h1 : k = true → SsD X sts δ o) (h2 : k = false → SsD X tss δ o) : SsD X [.If c sts tss pos] δ o :=
  ss_seq (N := o.nx) (sd_if hc (fun h => h1 h.symm) fun h => h2 h.symm) fun _ h => ss_nil h
end
end Dv

set_option linter.all false
set_option maxRecDepth 100000
set_option maxHeartbeats 2000000
namespace Dv
open PySem PySem.Spec PyProof.Rows L2
variable [Tbl]
/-! ### promises by data: R: the arguments' data, the answer's -/
def spD (K : Fg) (R : List Dt → Dt → Prop) : Sp := fun vs H Q _ => ∃ G ds d, (Ex G H ∧ TZ G H) ∧ DzAll K G vs ds ∧ R ds d ∧ ∀ v G' H', Step H G G' → Exd H H' → Ex G' H' → Dz K G' v d → Q v H'
/-- the answer is a new list, data of nobody's yet -/
def spO (K : Fg) (R : List Dt → List Dt → Prop) : Sp := fun vs H Q _ => ∃ G ds es, (Ex G H ∧ TZ G H) ∧ DzAll K G vs ds ∧ R ds es ∧ ∀ l xs G' H', Step H G G' → Exd H H' → Ex G' H' → H l = none → G' l = none → H' l = some (.lst xs) → DzAll K G' xs es → Q (.ref l) H'
/-- with a pot as the first argument; S: what the answer may be -/
def spP (K : Fg) (R : List Dt → (Dt → Prop) → Prop) : Sp := fun vs H Q _ => ∃ B G q ws ds S, I3 (some q) B G H ∧ vs = V.ref q :: ws ∧ DzAll K G ws ds ∧ R ds S ∧ ∀ v d G' H', S d → Step B G G' → I3 (some q) B G' H' → Dz K G' v d → Q v H'
def stD (N : List Str) (es : List En) : De := es ++ List.replicate (N.length - es.length) .no
theorem env_start {K : Fg} {p : Option Addr} {B G H : Hp} {N : List Str} {vs : List V} {es : List En} (hl : vs.length = es.length) (h : ∀ (i : Nat) e, es[i]? = some e → ∃ v, vs[i]? = some v ∧ Slot K p B G H e (some v)) (no : ∀ e ∈ es, ∀ o a, ¬ Foot e o a) : EnvD K p B G H (L2.start N vs) (stD N es) := by
  have el : (L2.start N vs).length = (stD N es).length := by
    unfold L2.start stD
    simp only [List.length_append, List.length_map, List.length_replicate, hl]
  have at1 : ∀ (i : Nat) e, (stD N es)[i]? = some e → i < es.length ∧ es[i]? = some e ∨ e = .no := fun i e q => by
    unfold stD at q
    by_cases hi : i < es.length
    · rw [List.getElem?_append_left hi] at q; exact .inl ⟨hi, q⟩
    · rw [List.getElem?_append_right (by omega), List.getElem?_replicate] at q
      split at q
      · cases q; exact .inr rfl
      · cases q
  refine ⟨el, fun i e q => ?_, fun i j e f oi oj a _ q1 _ _ _ m1 => ?_⟩
  · rcases at1 i e q with ⟨hi, q'⟩ | rfl
    · obtain ⟨v, hv, s⟩ := h i e q'
      refine ⟨some v, ?_, s⟩
      unfold L2.start
      rw [List.getElem?_append_left (by rw [List.length_map, hl]; exact hi), List.getElem?_map, hv]; rfl
    · have hi : i < (L2.start N vs).length := by rw [el]; exact (List.getElem?_eq_some_iff.mp q).1
      exact ⟨_, List.getElem?_eq_getElem hi, trivial⟩
  · rcases at1 i e q1 with ⟨hi, q'⟩ | rfl
    · exact absurd m1 (no e (List.mem_of_getElem? q') _ _)
    · exact (foot_no m1).elim
theorem env_data {K : Fg} {p : Option Addr} {B G H : Hp} {N : List Str} {vs : List V} {ds : List Dt} (h : DzAll K G vs ds) : EnvD K p B G H (L2.start N vs) (stD N (ds.map .d)) :=
  env_start (by rw [List.length_map]; exact dpAll_length h) (fun i e q => by
    rw [List.getElem?_map] at q
    cases z : ds[i]? with
    | none => rw [z] at q; cases q
    | some d =>
      rw [z] at q
      cases q
      obtain ⟨v, a, b⟩ := dpAll_get h z
      exact ⟨v, a, v, rfl, b⟩) fun e he => by
    obtain ⟨d, _, rfl⟩ := List.mem_map.mp he
    exact fun o a => foot_d
theorem env_pot {K : Fg} {q : Addr} {B G H : Hp} {N : List Str} {vs : List V} {ds : List Dt} (h : DzAll K G vs ds) : EnvD K (some q) B G H (L2.start N (V.ref q :: vs)) (stD N (.pot :: ds.map .d)) :=
  env_start (by rw [List.length_cons, List.length_cons, List.length_map, dpAll_length h]) (fun i e z => by
    cases i with
    | zero => simp at z; subst z; exact ⟨_, rfl, q, rfl, rfl⟩
    | succ i =>
      rw [List.getElem?_cons_succ, List.getElem?_map] at z
      cases y : ds[i]? with
      | none => rw [y] at z; cases z
      | some d =>
        rw [y] at z
        cases z
        obtain ⟨v, a, b⟩ := dpAll_get h y
        exact ⟨v, by rw [List.getElem?_cons_succ]; exact a, v, rfl, b⟩) fun e he => by
    rcases List.mem_cons.mp he with rfl | he
    · exact fun o a => foot_pot
    · obtain ⟨d, _, rfl⟩ := List.mem_map.mp he
      exact fun o a => foot_d
/-- a def of the text, by what it does with data; k: its level -/
structure Cal (P : Program) (w : World) (K : Fg) (mg : Str → Option Value) (base : Heap) (k : Nat) (x : Str) (ps : List Str) (st : Stmt) (sp : Sp) : Prop where
  ex : ∃ f fd, FnG P w K mg base k f fd ps sp ∧ mg x = some (.ref f) ∧ PySem.W.keepIn K (.ref f) = true ∧ Binds K fd ps [] ∧ Fun K x x st f fd
section
variable {P : Program} {w : World} {K : Fg} {mg : Str → Option Value} {base : Heap} {x : Str} {st : Stmt} {f : Addr} {fd : FuncData} {N ps : List Str} {k : Nat} {R : List Dt → Dt → Prop}
theorem fn_data (F : Fun K x x st f fd) (S : FnScope N ps (defScope st)) (len : ∀ ds d, R ds d → ds.length = ps.length)
    (body : ∀ (cdv : Value) (A : Around) (outer : List Env) (s : Shared) (H : Hp) (E : XK), Room k (xc P w K mg base N x st f cdv A outer s H E).A → (xc P w K mg base N x st f cdv A outer s H E).A.guards = some [] → (xc P w K mg base N x st f cdv A outer s H E).A.units + 64 < cLine →
      ∀ ds d, R ds d → SsD (xc P w K mg base N x st f cdv A outer s H E) (defBody st) (stD N (ds.map .d)) { nx := fun _ => d = .none, rt := fun y => y = d }) : FnG P w K mg base (k + 1) f fd ps (spD K R) := by
  refine fnG_of F S (fun vs H Q E ⟨G, ds, d, _, h, r, _⟩ => by rw [dpAll_length h]; exact len ds d r) fun cdv A outer s H vs Q E hr hg ⟨G, ds, d, eg, h, r, q⟩ => ?_
  refine ⟨_, body cdv A outer s H E hr hg hr.units ds d r, none, H, G, ⟨Exd.refl H, eg.1, (fun _ z => nomatch z), eg.2⟩, env_data h, ?_, ?_, ?_, ?_, ?_⟩
  · intro δ σ G' H' e s' i en
    subst e
    exact q .non G' H' s' i.bh i.gh .non
  · intro d' v G' H' e s' i hv
    subst e
    exact q v G' H' s' i.bh i.gh hv
  · intro _ _ _ _ z; exact z.elim
  · intro _ _ _ _ z; exact z.elim
  · intro _ _ _ _ _ z; exact z.elim
/-- an own list as the answer -/
theorem fn_own {R : List Dt → List Dt → Prop} (F : Fun K x x st f fd) (S : FnScope N ps (defScope st)) (len : ∀ ds d, R ds d → ds.length = ps.length)
    (body : ∀ (cdv : Value) (A : Around) (outer : List Env) (s : Shared) (H : Hp) (E : XK), Room k (xc P w K mg base N x st f cdv A outer s H E).A → (xc P w K mg base N x st f cdv A outer s H E).A.guards = some [] → (xc P w K mg base N x st f cdv A outer s H E).A.units + 64 < cLine →
      ∀ ds es, R ds es → SsD (xc P w K mg base N x st f cdv A outer s H E) (defBody st) (stD N (ds.map .d)) { ro := fun y => y = es }) : FnG P w K mg base (k + 1) f fd ps (spO K R) := by
  refine fnG_of F S (fun vs H Q E ⟨G, ds, d, _, h, r, _⟩ => by rw [dpAll_length h]; exact len ds d r) fun cdv A outer s H vs Q E hr hg ⟨G, ds, es, eg, h, r, q⟩ => ?_
  refine ⟨_, body cdv A outer s H E hr hg hr.units ds es r, none, H, G, ⟨Exd.refl H, eg.1, (fun _ z => nomatch z), eg.2⟩, env_data h, ?_, ?_, ?_, ?_, ?_⟩
  · intro _ _ _ _ z; exact z.elim
  · intro _ _ _ _ z; exact z.elim
  · intro _ _ _ _ z; exact z.elim
  · intro _ _ _ _ z; exact z.elim
  · intro ds' l xs G' H' e s' i h1 h2 _ h3 h4
    subst e
    exact q l xs G' H' s' i.bh i.gh h1 h2 h3 h4
theorem fn_pot {R : List Dt → (Dt → Prop) → Prop} (F : Fun K x x st f fd) (S : FnScope N ps (defScope st)) (len : ∀ ds T, R ds T → ds.length + 1 = ps.length)
    (body : ∀ (cdv : Value) (A : Around) (outer : List Env) (s : Shared) (H : Hp) (E : XK), Room k (xc P w K mg base N x st f cdv A outer s H E).A → (xc P w K mg base N x st f cdv A outer s H E).A.guards = some [] → (xc P w K mg base N x st f cdv A outer s H E).A.units + 64 < cLine →
      ∀ ds T, R ds T → SsD (xc P w K mg base N x st f cdv A outer s H E) (defBody st) (stD N (.pot :: ds.map .d)) { nx := fun _ => T .none, rt := T }) : FnG P w K mg base (k + 1) f fd ps (spP K R) := by
  refine fnG_of F S (fun vs H Q E ⟨B, G, q, ws, ds, T, _, e, h, r, _⟩ => by rw [e, List.length_cons, dpAll_length h]; exact len ds T r) fun cdv A outer s H vs Q E hr hg ⟨B, G, q, ws, ds, T, i, e, h, r, qq⟩ => ?_
  subst e
  refine ⟨_, body cdv A outer s H E hr hg hr.units ds T r, some q, B, G, i, env_pot h, ?_, ?_, ?_, ?_, ?_⟩
  · intro δ σ G' H' t s' i' en
    exact qq .non .none G' H' t s' i' .non
  · intro d' v G' H' t s' i' hv
    exact qq v d' G' H' t s' i' hv
  · intro _ _ _ _ z; exact z.elim
  · intro _ _ _ _ z; exact z.elim
  · intro _ _ _ _ _ z; exact z.elim
end
section
variable {X : Cx} {k : Nat} {x : Str} {ps ks : List Str} {st : Stmt} {R : List Dt → Dt → Prop} {δ : De} {e : Expr} {es : List Expr} {ds : List Dt} {d : Dt} {p pos : Pos} {kws : List Keyword} {S : List Dt → Prop} {U : Dt → Prop}
theorem sp_use {K : Fg} {p : Option Addr} {B G H : Hp} {vs : List V} {Q : VK} (i3 : I3 p B G H) (hv : DzAll K G vs ds) (hR : R ds d) (q : ∀ v G' H', Nxt p G H G' H' → Dz K G' v d → Q v H') : spD K R vs H Q E0 :=
  ⟨G, ds, d, ⟨i3.gh, i3.tz⟩, hv, hR, fun v G' H' s e g hd => q v G' H' (.ofExd i3 s e g) hd⟩
theorem xd_call (C : Cal X.prog X.w X.K X.mg X.base k x ps st (spD X.K R)) (ha : XA X (e :: es) δ S) (hR : ∀ ds, S ds → ∃ d, R ds d ∧ U d) (hr : Room k X.A := by first | assumption | (refine Room.mono (by assumption) ?_; decide)) (hgd : X.A.guards = some [] := by assumption) (hg : Gl X x := by rfl)
    (hpl : starEach es X.env = es.map fun e => (false, eval e X.env) := by rfl) (hdb : (x == ("__debug__" : Str)) = false := by decide) : XD X (.Call (.Name x p) (e :: es) [] pos) δ U := by
  obtain ⟨f, fd, G, hm, hk, hb, _⟩ := C.ex
  exact PE.imp (pe_g G hr hgd hg hm hk hb ha.pa hdb (by rw [hpl]; exact ha.pl) (back_plain hpl)) fun σ H Q ⟨p, B, G, i3, en, q⟩ => ⟨p, B, G, i3, en, fun vs ds G' H' s n hv => by
    obtain ⟨d, h1, h2⟩ := hR ds s
    exact sp_use (i3.nxt n) hv h1 fun v G2 H2 n2 hd => q v d G2 H2 h2 (n.trans n2) hd⟩
theorem pd_call (C : Cal X.prog X.w X.K X.mg X.base k x ps st (spD X.K R)) (ha : PAD X (e :: es) δ ds) (hR : R ds d) (hr : Room k X.A := by first | assumption | (refine Room.mono (by assumption) ?_; decide)) (hgd : X.A.guards = some [] := by assumption) (hg : Gl X x := by rfl)
    (hpl : starEach es X.env = es.map fun e => (false, eval e X.env) := by rfl) (hdb : (x == ("__debug__" : Str)) = false := by decide) : PD X (.Call (.Name x p) (e :: es) [] pos) δ d :=
  xd_call C ha (fun y h => ⟨d, by rw [h]; exact hR, rfl⟩) hr hgd hg hpl hdb
theorem pd_call0 (C : Cal X.prog X.w X.K X.mg X.base k x ps st (spD X.K R)) (hR : R [] d) (hr : Room k X.A := by first | assumption | (refine Room.mono (by assumption) ?_; decide)) (hgd : X.A.guards = some [] := by assumption) (hg : Gl X x := by rfl)
    (hdb : (x == ("__debug__" : Str)) = false := by decide) : PD X (.Call (.Name x p) [] [] pos) δ d := by
  obtain ⟨f, fd, G, hm, hk, hb, _⟩ := C.ex
  exact PE.imp (pe_g0 G hr hgd hg hm hk hb hdb) fun σ H Q ⟨p, B, G, i3, en, q⟩ => sp_use i3 .nil hR fun v G2 H2 n2 hd => q v d G2 H2 rfl n2 hd
/-- a new list taken as data -/
theorem spO_data {K : Fg} {R : List Dt → List Dt → Prop} : ∀ vs H Q E, spD K (fun ds d => ∃ es, R ds es ∧ d = .list es) vs H Q E → spO K R vs H Q E := fun vs H Q E ⟨G, ds, d, e, h, ⟨es, r, ed⟩, q⟩ =>
  ⟨G, ds, es, e, h, r, fun l xs G' H' s e2 g hl gl hl' ha => by
    subst ed
    refine q (.ref l) (upd G' l (.lst xs)) H' ⟨s.1.mut (e.1.free hl), fun a h1 h2 => ?_⟩ e2 (fun a o ho => ?_) (.lst (.inl (.inl upd_same)) (dpAll_ex (Ex.new gl) _ _ ha))
    · have : a ≠ l := fun w => h1 (w ▸ hl)
      rw [upd_ne this]; exact s.2 a h1 h2
    · by_cases w : a = l
      · subst w; rw [upd_same] at ho; cases ho; exact hl'
      · rw [upd_ne w] at ho; exact g a o ho⟩
theorem FnG.imp {P : Program} {w : World} {K : Fg} {mg : Str → Option Value} {base : Heap} {k : Nat} {f : Addr} {fd : FuncData} {ps : List Str} {sp sp' : Sp} (F : FnG P w K mg base k f fd ps sp) (h : ∀ vs H Q E, sp' vs H Q E → sp vs H Q E) : FnG P w K mg base k f fd ps sp' :=
  ⟨fun vs H Q E z => F.len vs H Q E (h _ _ _ _ z), fun A outer s H args us vs Q E a b c d e z => F.run A outer s H args us vs Q E a b c d e (h _ _ _ _ z)⟩
theorem Cal.data {P : Program} {w : World} {K : Fg} {mg : Str → Option Value} {base : Heap} {k : Nat} {x : Str} {ps : List Str} {st : Stmt} {R : List Dt → List Dt → Prop} (C : Cal P w K mg base k x ps st (spO K R)) : Cal P w K mg base k x ps st (spD K fun ds d => ∃ es, R ds es ∧ d = .list es) := by
  obtain ⟨f, fd, G, r⟩ := C.ex
  exact ⟨f, fd, G.imp spO_data, r⟩
/-- a call with a pot as the first argument -/
theorem xd_pot {R : List Dt → (Dt → Prop) → Prop} (C : Cal X.prog X.w X.K X.mg X.base k x ps st (spP X.K R)) (i : Nat) {y : Str} {yp : Pos} (ha : XA X es δ S) (hR : ∀ ds, S ds → R ds U) (hs : δ[i]? = some .pot := by rfl) (hN : X.N[i]? = some y := by rfl)
    (hv : Vis X.env.scope y := by first | exact Or.inl rfl | exact Or.inr (Or.inl rfl) | exact Or.inr (Or.inr rfl)) (hr : Room k X.A := by first | assumption | (refine Room.mono (by assumption) ?_; decide)) (hgd : X.A.guards = some [] := by assumption) (hg : Gl X x := by rfl)
    (hp1 : starEach (.Name y yp :: es) X.env = (false, eval (.Name y yp) X.env) :: starEach es X.env := by rfl) (hdb : (x == ("__debug__" : Str)) = false := by decide) (hd : (y == ("__debug__" : Str)) = false := by decide) (hcd : (y == ("__classdict__" : Str)) = false := by decide) : XD X (.Call (.Name x p) (.Name y yp :: es) [] pos) δ U := by
  obtain ⟨f, fd, G, hm, hk, hb, _⟩ := C.ex
  refine PE.imp (pe_g G hr hgd hg hm hk hb (pa_cons (pe_var hN hv hd hcd) ha.pa hp1) hdb hp1 (back_plain ha.pl)) fun σ H Q ⟨p, B, G, i3, en, q⟩ => ?_
  obtain ⟨o, h1, z, rfl, rfl⟩ := en.slot i _ hs
  refine ⟨_, h1, some z, B, G, i3, en, fun vs ds G' H' s n hv => ?_⟩
  have i3' := i3.nxt n
  refine ⟨del (some z) H', G', z, vs, ds, U, ⟨Exd.hide _ _, i3'.gh, fun y hy => ?_, i3'.tz⟩, rfl, hv, hR ds s, fun v d G2 H2 u st2 i2 hd => q v d G2 H2 u (n.trans (.ofPot i3' st2 i2)) hd⟩
  cases hy
  obtain ⟨_, h2, h3⟩ := i3'.pot z rfl
  refine ⟨?_, h2, h3⟩
  unfold del; rw [if_pos rfl]
end
end Dv
namespace Dv
open PySem PySem.Spec PyProof.Rows L2
variable [Tbl]
/-! ### calls by keywords alone: ix: where each parameter stands among them -/
def pick {α : Type} (ix : List Nat) (l : List α) : List α := ix.filterMap fun i => l[i]?
theorem pick_cons {α : Type} (i : Nat) (ix : List Nat) (l : List α) : pick (i :: ix) l = (match l[i]? with | some a => a :: pick ix l | none => pick ix l) := by
  unfold pick
  rw [List.filterMap_cons]
  cases l[i]? <;> rfl
theorem pick_vals {vs : List V} {us : List Value} (r : Vals vs us) : ∀ ix : List Nat, Vals (pick ix vs) (pick ix us)
  | [] => .nil
  | i :: ix => by
    rw [pick_cons, pick_cons]
    cases e : vs[i]? with
    | none => rw [r.none_of e]; exact pick_vals r ix
    | some v =>
      obtain ⟨u, e2, rv⟩ := r.get e
      rw [e2]
      exact .cons rv (pick_vals r ix)
theorem pick_dz {K : Fg} {G : Hp} {vs : List V} {ds : List Dt} (r : DzAll K G vs ds) : ∀ ix : List Nat, DzAll K G (pick ix vs) (pick ix ds)
  | [] => .nil
  | i :: ix => by
    rw [pick_cons, pick_cons]
    cases e : vs[i]? with
    | none =>
      have : ds[i]? = none := List.getElem?_eq_none (by rw [← dpAll_length r]; exact List.getElem?_eq_none_iff.mp e)
      rw [this]; exact pick_dz r ix
    | some v =>
      obtain ⟨d, e2, rv⟩ := dpAll_get' r e
      rw [e2]
      exact .cons rv (pick_dz r ix)
structure XK (X : Cx) (kws : List Keyword) (δ : De) (S : List Dt → Prop) : Prop where
  pk : PK X kws (rA X.K δ S)
theorem PK.imp {X : Cx} {e : List Keyword} {t t' : TA} (h : PK X e t) (k : ∀ σ H Q, t' σ H Q → t σ H Q) : PK X e t' := ⟨fun pos pins s σ H Q I q => h.run pos pins s σ H Q I (k σ H Q q)⟩
abbrev KD (X : Cx) (kws : List Keyword) (δ : De) (ds : List Dt) : Prop := XK X kws δ (fun x => x = ds)
section
variable {X : Cx} {k : Nat} {x : Str} {ps ks : List Str} {ix : List Nat} {st : Stmt} {R : List Dt → Dt → Prop} {δ : De} {e : Expr} {ds : List Dt} {d : Dt} {p pos kpos : Pos} {kws : List Keyword} {nm : Option Str}
theorem k_n : KD X [] δ [] := ⟨PK.imp pk_nil fun σ H Q ⟨p, B, G, i3, en, q⟩ => q [] [] G H rfl (.refl i3) .nil⟩
theorem k_c (ha : PD X e δ d) (hr : KD X kws δ ds) : KD X (⟨nm, e, kpos⟩ :: kws) δ (d :: ds) := ⟨PK.imp (pk_cons ha hr.pk) fun σ H Q ⟨p, B, G, i3, en, q⟩ => ⟨p, B, G, i3, en, fun v d1 G1 H1 r1 n1 h1 => ⟨p, B, G1, i3.nxt n1, en.nxt n1, fun vs ds2 G2 H2 r2 n2 h2 =>
  q (v :: vs) (d1 :: ds2) G2 H2 (by rw [r1, r2]) (n1.trans n2) (.cons (dp_ex n2.st.1 _ _ h1) h2)⟩⟩⟩
theorem pd_callK (ix : List Nat) (C : Cal X.prog X.w X.K X.mg X.base k x ps st (spD X.K R)) (ha : KD X kws δ ds) (hR : R (pick ix ds) d)
    (hb : ∀ (kV doc pm : Value) (an : Option Addr) (cdv ct : Value) (ws : List Value), ws.length = ks.length → bindArgs (PySem.W.fnOf x x (defArgs st) (defBody st) (defScope st) .none kV doc pm an cdv ct) ⟨[], ks.zip ws⟩ = pure (ps.zip (pick ix ws)))
    (hl : ds.length = ks.length := by rfl) (hall : (backToKw pos (keywordEach kws X.env)).all (·.1.isSome) = true := by rfl) (hks : (backToKw pos (keywordEach kws X.env)).filterMap (·.1) = ks := by rfl) (hpl : ((backTo pos (starEach [] X.env)).any (·.1) || (backToKw pos (keywordEach kws X.env)).any (·.1.isNone)) = false := by rfl)
    (hr : Room k X.A := by first | assumption | (refine Room.mono (by assumption) ?_; decide)) (hgd : X.A.guards = some [] := by assumption) (hg : Gl X x := by rfl) (hdb : (x == ("__debug__" : Str)) = false := by decide) : PD X (.Call (.Name x p) [] kws pos) δ d := by
  obtain ⟨f, fd, F, hm, hk, _, fn⟩ := C.ex
  obtain ⟨oc, od, kV, doc, pm, an, cdv, ct, osl, rfl, lk, hcd⟩ := fn.ex
  refine ⟨fun pins s σ H Q I ⟨p, B, G, i3, en, q⟩ => ?_⟩
  refine wpAny_Call_Name_kw (ld_glob I hg hm ?_ hdb)
  refine PySem.W.callWith_KW0 (h₀ := X.base) I.ok.mod.kin hk hall (thn (ha.pk.run pos pins s σ H (fun vs H1 => ∃ G1, Nxt p G H G1 H1 ∧ DzAll X.K G1 vs ds) I ⟨p, B, G, i3, en, fun vs ds' G1 H1 r n hv => ⟨G1, n, r ▸ hv⟩⟩) fun ws s1 ⟨zs, H1, I1, rz, G1, n, hv⟩ => ⟨I1.kIn, ?_⟩) hpl
  rw [hks]
  have hlw : ws.length = ks.length := by rw [← rz.length, dpAll_length hv]; exact hl
  have hsp : spD X.K R (pick ix zs) H1 Q E0 := sp_use (i3.nxt n) (pick_dz hv ix) hR fun v G2 H2 n2 hd => q v d G2 H2 rfl (n.trans n2) hd
  refine wpAny_call (codeAny_mono (F.run X.A X.stack s1 H1 ⟨[], ks.zip ws⟩ (pick ix ws) (pick ix zs) Q E0 hr hgd I1.env0 (.of_eq (hb kV doc pm an cdv ct ws hlw)) (pick_vals rz ix) hsp) fun r s' hq => ?_)
  have z := fnG_end I1 hq
  cases r with
  | error e => exact z
  | ok fl => cases fl <;> first | exact z | exact False.elim z
end
end Dv
namespace Dv
open PySem PySem.Spec PyProof.Rows L2
variable [Tbl]
section
variable {X : Cx} {a b c : Expr} {δ : De} {i j k : Int} {pos : Pos}
/-- a <= b <= c -/
theorem pd_chain (ha : PD X a δ (.int i)) (hb : PD X b δ (.int j)) (hc : PD X c δ (.int k)) (hlm : lastMarks [CmpOp.LtE, CmpOp.LtE] [b, c] = false := by rfl) : PD X (.Compare a [.LtE, .LtE] [b, c] pos) δ (.bool (decide (i ≤ j) && decide (j ≤ k))) :=
  PE.imp (pe_chain op_le op_le ha hb hc (hm := hlm)) fun σ H Q ⟨p, B, G, i3, en, q⟩ => ⟨p, B, G, i3, en, fun v d G1 H1 r1 n1 h1 => ⟨p, B, G1, i3.nxt n1, en.nxt n1, fun w d2 G2 H2 r2 n2 h2 => by
    subst r1; subst r2
    cases h1; cases h2
    refine ⟨i, j, rfl, rfl, _, rfl, ?_⟩
    have n12 := n1.trans n2
    by_cases h : i ≤ j
    · rw [decide_eq_true h]
      refine iteT ⟨p, B, G2, i3.nxt n12, en.nxt n12, fun w' d3 G3 H3 r3 n3 h3 => ?_⟩
      subst r3
      cases h3
      exact ⟨j, k, rfl, rfl, q _ _ G3 H3 (by rw [decide_eq_true h]; rfl) (n12.trans n3) (.bl _)⟩
    · rw [decide_eq_false h]
      exact iteF (q _ _ G2 H2 (by rw [decide_eq_false h]; rfl) n12 (.bl _))⟩⟩
/-- a constant tuple of texts of the module -/
theorem dz_ktup {K : Fg} {a : Addr} {o : Obj} {its : Array Value} {n : Nat} {ss : List Str} (h : K.lookup a = some o) (hc : o.cls = .type "tuple") (hd : o.data = .seq its n) (hz : its.size ≤ sizeLine) (hv : Vals (ss.map V.str) its.toList) (G : Hp) : Dz K G (.ref a) (.tuple (ss.map PyData.str)) := by
  refine .tup (.inr ⟨o, its, n, h, hc, hd, hz, hv⟩) ?_
  clear hv
  induction ss with
  | nil => exact .nil
  | cons s r ih => exact .cons (.str s) ih
end
end Dv

set_option linter.all false
set_option maxRecDepth 100000
set_option maxHeartbeats 2000000
namespace Dv
open PySem PySem.Spec PyProof.Rows L2
variable [Tbl]
/-! ### lists of the def's own -/
section
variable {X : Cx} {sts : List Stmt} {a b c e : Expr} {δ δ' : De} {o : Out} {d : Dt} {ds : List Dt} {pos p : Pos} {R : Dt → Prop}
theorem s_new (i : Nat) {x : Str} {pos' p2 : Pos} (hN : X.N.Nodup) (k : SsD X sts (δ.set i (.own [])) o) (hi : X.N[i]? = some x := by rfl) (hx : Loc X.env.scope x := by first | exact Or.inl rfl | exact Or.inr rfl)
    (hs : swapsWith (.List [] p2) (some (.Name x pos')) pos.line X.env = pure false := by rfl) (hf : X.fn x = true ∨ X.env.scope.names.lookup x = some .local := by first | exact .inl rfl | exact .inr rfl | assumption) : SsD X (.Assign [.Name x pos'] (.List [] p2) pos :: sts) δ o :=
  ss_to (PS.imp (ps_set hN hi hx (pe_lst pa_nil) hs hf) fun D σ H ⟨p, B, G, i3, en, q⟩ => ⟨Nat.zero_le _, fun l hl => by
    have n := Nxt.newH i3 (.lst []) hl
    have bl : B l = none := i3.bh.free hl
    have pl : p ≠ some l := fun z => by
      obtain ⟨_, _, _, _, h3, _⟩ := i3.pot l z
      rw [hl] at h3; cases h3
    exact q.nx _ _ G _ rfl (.refl _ _) (i3.nxt n) (en.putOwn i3 n hl (i3.gh.free hl) pl upd_same .nil i)⟩) k
theorem s_app (i : Nat) {x : Str} {apos cpos np : Pos} (hs : δ[i]? = some (.own ds)) (he : PD X e δ d) (k : SsD X sts (δ.set i (.own (ds ++ [d]))) o) (hz : ds.length < 100000) (hN : X.N[i]? = some x := by rfl)
    (hv : Vis X.env.scope x := by first | exact Or.inl rfl | exact Or.inr (Or.inl rfl) | exact Or.inr (Or.inr rfl)) (hd : (x == ("__debug__" : Str)) = false := by decide) (hcd : (x == ("__classdict__" : Str)) = false := by decide)
    (hbase : attributeBase (.Name x np) "append" X.env (eval (.Name x np) X.env) = eval (.Name x np) X.env := by rfl)
    (hfew : ((backTo cpos (starEach [e] X.env)).all (fun x => !x.1) && (backToKw cpos (keywordEach [] X.env)).all (fun x => x.1.isSome) && decide (([e] : List Expr).length + ([] : List Keyword).length + (if ([] : List Keyword).isEmpty then 0 else 1) < 30)) = true := by rfl)
    (hline : (apos.endLine == cpos.line) = true := by rfl) (hst : starEach [e] X.env = [(false, eval e X.env)] := by rfl) (hsw : swapsWith (.Call (.Attribute (.Name x np) "append" apos) [e] [] cpos) none pos.line X.env = pure false := by rfl) :
    SsD X (.Expr (.Call (.Attribute (.Name x np) "append" apos) [e] [] cpos) pos :: sts) δ o :=
  ss_to (PS.imp (ps_expr (pe_bm PySem.F.plainAttrs_list PySem.F.slot_list_append PySem.F.type_list_append mt_append (pe_var hN hv hd hcd) (pa_cons he pa_nil (by rw [hst]; rfl)) hbase hfew hline hst rfl) hsw) fun D σ H ⟨p, B, G, i3, en, q⟩ => by
    obtain ⟨o', h1, l, xs, rfl, h2, h3, h4, h5, h6⟩ := en.slot i _ hs
    refine ⟨_, h1, .inl ⟨rfl, xs, .inl (.inl h5)⟩, p, B, G, i3, en, fun v d' G' H' r n hv' => ?_⟩
    subst r
    have en' := en.nxt n
    have i3' := i3.nxt n
    have g' : G' l = none := n.st.2 l (nn h5) h3
    have h5' : H' l = some (.lst xs) := n.ex _ _ (by rw [del_ne h4]; exact h5) (fun _ z => by cases z)
    refine ⟨l, xs, v, rfl, rfl, h5', by rw [dpAll_length h6]; exact Nat.lt_of_lt_of_le hz (by decide), q.nx _ σ G' _ rfl (n.stepB i3) ⟨i3'.bh.mut h2 h5', i3'.gh.mut g', (fun z hz' => ?_), i3'.tz.mut h5'⟩ (en'.app hs h1 (dpAll_append (dpAll_ex n.st.1 _ _ h6) (.cons hv' .nil)))⟩
    obtain ⟨a1, a2, a3, a4, a5, a6⟩ := i3'.pot z hz'
    have : z ≠ l := fun w => h4 (by rw [hz', w])
    exact ⟨a1, a2, a3, a4, by rw [upd_ne this]; exact a5, a6⟩) k
theorem s_retNew (i : Nat) {x : Str} {np : Pos} (hs : δ[i]? = some (.own ds)) (hR : o.ro ds) (hN : X.N[i]? = some x := by rfl) (hv : Vis X.env.scope x := by first | exact Or.inl rfl | exact Or.inr (Or.inl rfl) | exact Or.inr (Or.inr rfl)) (hd : (x == ("__debug__" : Str)) = false := by decide)
    (hcd : (x == ("__classdict__" : Str)) = false := by decide) : SsD X (.Return (some (.Name x np)) pos :: sts) δ o :=
  ss_end (PS.imp (ps_ret (pe_var hN hv hd hcd)) fun D σ H ⟨p, B, G, i3, en, q⟩ => by
    obtain ⟨o', h1, l, xs, rfl, h2, h3, h4, h5, h6⟩ := en.slot i _ hs
    exact ⟨_, h1, q.ro _ l xs G H hR (.refl _ _) i3 h2 h3 h4 h5 h6⟩)
/-- x = f(..), f's answer a new list: the def's own from here on -/
theorem s_own {k : Nat} {y : Str} {ps : List Str} {st : Stmt} {R : List Dt → List Dt → Prop} {es : List Expr} {ds' : List Dt} {p2 p3 : Pos} (i : Nat) {x : Str} {pos' : Pos} (hN : X.N.Nodup) (C : Cal X.prog X.w X.K X.mg X.base k y ps st (spO X.K R)) (ha : PAD X (e :: es) δ ds') (hR : R ds' ds) (go : SsD X sts (δ.set i (.own ds)) o)
    (hr : Room k X.A := by first | assumption | (refine Room.mono (by assumption) ?_; decide)) (hgd : X.A.guards = some [] := by assumption) (hg : Gl X y := by rfl) (hpl : starEach es X.env = es.map fun e => (false, eval e X.env) := by rfl) (hdb : (y == ("__debug__" : Str)) = false := by decide)
    (hi : X.N[i]? = some x := by rfl) (hx : Loc X.env.scope x := by first | exact Or.inl rfl | exact Or.inr rfl) (hs : swapsWith (.Call (.Name y p2) (e :: es) [] p3) (some (.Name x pos')) pos.line X.env = pure false := by rfl)
    (hf : X.fn x = true ∨ X.env.scope.names.lookup x = some .local := by first | exact .inl rfl | exact .inr rfl | assumption) : SsD X (.Assign [.Name x pos'] (.Call (.Name y p2) (e :: es) [] p3) pos :: sts) δ o := by
  obtain ⟨f, fd, F, hm, hk, hb, _⟩ := C.ex
  refine ss_to (PS.imp (ps_set hN hi hx (pe_g F hr hgd hg hm hk hb ha.pa hdb (by rw [hpl]; exact ha.pl) (back_plain hpl)) hs hf) fun D σ H ⟨p, B, G, i3, en, q⟩ => ⟨p, B, G, i3, en, fun vs dd G1 H1 r n hv => ?_⟩) go
  subst r
  have i31 := i3.nxt n
  refine ⟨G1, _, ds, ⟨i31.gh, i31.tz⟩, hv, hR, fun l xs G2 H2 st2 e2 g2 hl gl hl2 ha2 => ?_⟩
  have n2 : Nxt p G1 H1 G2 H2 := .ofExd i31 st2 e2 g2
  have pl : p ≠ some l := fun z => by
    obtain ⟨_, _, _, _, h3, _⟩ := i31.pot l z
    rw [hl] at h3; cases h3
  exact q.nx _ _ G2 H2 rfl ((n.trans n2).stepB i3) (i3.nxt (n.trans n2)) ((en.nxt n).putOwn i31 n2 hl gl pl hl2 ha2 i)
theorem s_retOwn (i : Nat) {x : Str} {np : Pos} (hs : δ[i]? = some (.own ds)) (hR : o.rt (.list ds)) (hN : X.N[i]? = some x := by rfl) (hv : Vis X.env.scope x := by first | exact Or.inl rfl | exact Or.inr (Or.inl rfl) | exact Or.inr (Or.inr rfl)) (hd : (x == ("__debug__" : Str)) = false := by decide)
    (hcd : (x == ("__classdict__" : Str)) = false := by decide) : SsD X (.Return (some (.Name x np)) pos :: sts) δ o :=
  ss_end (PS.imp (ps_ret (pe_var hN hv hd hcd)) fun D σ H ⟨p, B, G, i3, en, q⟩ => by
    obtain ⟨o', h1, l, xs, rfl, h2, h3, h4, h5, h6⟩ := en.slot i _ hs
    refine ⟨_, h1, q.rt _ _ (upd G l (.lst xs)) H hR ⟨Ex.new h3, fun y h7 h8 => ?_⟩ ⟨i3.bh, (fun y u hu => ?_), (fun z hz => ?_), i3.tz.dat h5⟩ (.lst (.inl (.inl upd_same)) (dpAll_ex (Ex.new h3) _ _ h6))⟩
    · have : y ≠ l := fun w => h7 (w ▸ h2)
      rw [upd_ne this]; exact h8
    · by_cases w : y = l
      · subst w; rw [upd_same] at hu; cases hu; exact h5
      · rw [upd_ne w] at hu; exact i3.gh y u hu
    · obtain ⟨a1, a2, a3⟩ := i3.pot z hz
      have : z ≠ l := fun w => h4 (by rw [hz, w])
      exact ⟨a1, by rw [upd_ne this]; exact a2, a3⟩)
end
/-! ### a comprehension of plain elements -/
section
variable {X : Cx} {elt tg iter test : Expr} {scope : Scope} {own : List (Str × Nat)} {pos : Pos} {δ : De} {α : Type}
theorem take_succ' {β : Type} {xs : List β} {i : Nat} {x : β} (h : xs[i]? = some x) : xs.take (i + 1) = xs.take i ++ [x] := by
  rw [List.take_add_one, h]; rfl
theorem lc_map {xs : List α} {enc F : α → Dt} (hi : ID X tg iter δ (xs.map enc)) (ok : BlkOk X.N X.env.scope scope own) (hl : xs.length ≤ 100000) (δt : Dt → De)
    (hg : ∀ s H C cl fp (i : Nat) x, xs[i]? = some x → TgD (bX X scope s H C cl fp) tg (own.map (·.2)) (enc x) (wipeD δ (own.map (·.2))) (δt (enc x)))
    (he : ∀ s H C cl fp (i : Nat) x, xs[i]? = some x → PD (bX X scope s H C cl fp) elt (δt (enc x)) (F x)) : Lc X elt tg iter [] scope δ (fun d => d = .list (xs.map F)) := by
  have get : ∀ (i : Nat) d, (xs.map enc)[i]? = some d → ∃ x, xs[i]? = some x ∧ d = enc x := fun i d h => by
    rw [List.getElem?_map] at h
    cases e : xs[i]? with
    | none => rw [e] at h; cases h
    | some x => rw [e] at h; cases h; exact ⟨x, rfl, rfl⟩
  refine lc_of hi ok (fun ds e => by rw [e, List.length_map]; exact hl) (fun _ i out => out = (xs.take i).map F) (fun _ _ => rfl) (fun ds out e h => ?_) δt (fun _ _ _ b => b = true) (fun s H C cl fp ds i d e h => ?_) (fun s H C cl fp ds i d e h => PTs.imp pts_nil fun σ H Q ⟨p, B, G, i3, en, q⟩ => q true G H rfl (.refl i3)) (fun _ _ _ _ _ _ h => by cases h) (fun s H C cl fp ds i d e h _ => ?_)
  · rw [h, e, List.length_map, List.take_length]
  · subst e
    obtain ⟨x, hx, rfl⟩ := get i d h
    exact hg s H C cl fp i x hx
  · subst e
    obtain ⟨x, hx, rfl⟩ := get i d h
    refine XD.mono (he s H C cl fp i x hx) fun y ey out eo => ?_
    rw [ey, eo, take_succ' hx, List.map_append]; rfl
theorem pd_map {xs : List α} {enc F : α → Dt} (hc : X.calm = true) (hN : X.N.Nodup) (hi : ID X tg iter δ (xs.map enc)) (ok : BlkOk X.N X.env.scope scope own) (hl : xs.length ≤ 100000) (δt : Dt → De)
    (hg : ∀ s H C cl fp (i : Nat) x, xs[i]? = some x → TgD (bX X scope s H C cl fp) tg (own.map (·.2)) (enc x) (wipeD δ (own.map (·.2))) (δt (enc x)))
    (he : ∀ s H C cl fp (i : Nat) x, xs[i]? = some x → PD (bX X scope s H C cl fp) elt (δt (enc x)) (F x)) (hs : ∀ x, foldedSetIterable iter X.env x = pure x := by intro _; rfl) : PD X (.ListComp elt [⟨tg, iter, [], 0⟩] scope pos) δ (.list (xs.map F)) :=
  (lc_map hi ok hl δt hg he).xd hN hc hs
/-- with a test -/
theorem lc_mapIf {xs : List α} {enc F : α → Dt} {c : α → Bool} (hi : ID X tg iter δ (xs.map enc)) (ok : BlkOk X.N X.env.scope scope own) (hl : xs.length ≤ 100000) (δt : Dt → De)
    (hg : ∀ s H C cl fp (i : Nat) x, xs[i]? = some x → TgD (bX X scope s H C cl fp) tg (own.map (·.2)) (enc x) (wipeD δ (own.map (·.2))) (δt (enc x)))
    (ht : ∀ s H C cl fp (i : Nat) x, xs[i]? = some x → PTD (bX X scope s H C cl fp) test (δt (enc x)) (c x))
    (he : ∀ s H C cl fp (i : Nat) x, xs[i]? = some x → c x = true → PD (bX X scope s H C cl fp) elt (δt (enc x)) (F x)) : Lc X elt tg iter [test] scope δ (fun d => d = .list ((xs.filter c).map F)) := by
  have get : ∀ (i : Nat) d, (xs.map enc)[i]? = some d → ∃ x, xs[i]? = some x ∧ d = enc x := fun i d h => by
    rw [List.getElem?_map] at h
    cases e : xs[i]? with
    | none => rw [e] at h; cases h
    | some x => rw [e] at h; cases h; exact ⟨x, rfl, rfl⟩
  refine lc_of hi ok (fun ds e => by rw [e, List.length_map]; exact hl) (fun _ i out => out = ((xs.take i).filter c).map F) (fun _ _ => rfl) (fun ds out e h => ?_) δt (fun _ i d b => ∃ x, xs[i]? = some x ∧ d = enc x ∧ b = c x) (fun s H C cl fp ds i d e h => ?_) (fun s H C cl fp ds i d e h => ?_) (fun ds i d out e h ⟨x, hx, ed, eb⟩ eo => ?_) (fun s H C cl fp ds i d e h ⟨x, hx, ed, eb⟩ => ?_)
  · rw [h, e, List.length_map, List.take_length]
  · subst e
    obtain ⟨x, hx, rfl⟩ := get i d h
    exact hg s H C cl fp i x hx
  · subst e
    obtain ⟨x, hx, rfl⟩ := get i d h
    exact PTs.imp (pts_one (ht s H C cl fp i x hx)) fun σ H Q ⟨p, B, G, i3, en, q⟩ => ⟨p, B, G, i3, en, fun b G' H' e n => q b G' H' ⟨x, hx, rfl, e⟩ n⟩
  · rw [eo, take_succ' hx, List.filter_append, List.map_append, List.filter_cons, if_neg (by rw [← eb]; decide)]
    show _ = _ ++ ([] : List Dt)
    rw [List.append_nil]
  · subst ed
    refine XD.mono (he s H C cl fp i x hx eb.symm) fun y ey out eo => ?_
    rw [ey, eo, take_succ' hx, List.filter_append, List.map_append, List.filter_cons, if_pos eb.symm]; rfl
end
section
variable {X : Cx} {elt tg iter : Expr} {ifs : List Expr} {scope : Scope} {pos spos : Pos} {δ : De} {R : Dt → Prop} {o : Out} {N : De → Prop} {sts : List Stmt} {d : Dt}
/-- y = [..] on one line -/
theorem sd_lc (i : Nat) {y : Str} {py : Pos} (hN : X.N.Nodup) (h : Lc X elt tg iter ifs scope δ R) (hR : ∀ d, R d → N (δ.set i (.d d))) (hy : X.N[i]? = some y := by rfl) (hyl : X.env.scope.names.lookup y = some .local := by rfl)
    (hsw : swapsWith (.ListComp elt [⟨tg, iter, ifs, 0⟩] scope pos) (some (.Name y py)) spos.line X.env = pure true := by exact sw_true rfl rfl rfl (by decide +kernel)) (hc : X.calm = true := by rfl) (hs : ∀ x, foldedSetIterable iter X.env x = pure x := by intro _; rfl) :
    SD X (.Assign [.Name y py] (.ListComp elt [⟨tg, iter, ifs, 0⟩] scope pos) spos) δ { o with nx := N } := by
  obtain ⟨own, wi, g, tt, te, a1, a2, a3, a4, a5, a6⟩ := h.ex
  exact PS.imp (ps_setLc hc hN hy hyl hsw a1 a2 a3 a4 a5 hs) fun D σ H ⟨p, B, G, i3, en, q⟩ => a6 σ H _ ⟨p, B, G, i3, en, fun v d G' H' r n hv => q.nx _ _ G' H' (hR d r) (n.stepB i3) (i3.nxt n) ((en.nxt n).set hv)⟩
theorem s_lc (i : Nat) {y : Str} {py : Pos} (hN : X.N.Nodup) (h : Lc X elt tg iter ifs scope δ (fun x => x = d)) (k : SsD X sts (δ.set i (.d d)) o) (hy : X.N[i]? = some y := by rfl) (hyl : X.env.scope.names.lookup y = some .local := by rfl)
    (hsw : swapsWith (.ListComp elt [⟨tg, iter, ifs, 0⟩] scope pos) (some (.Name y py)) spos.line X.env = pure true := by exact sw_true rfl rfl rfl (by decide +kernel)) (hc : X.calm = true := by rfl) (hs : ∀ x, foldedSetIterable iter X.env x = pure x := by intro _; rfl) :
    SsD X (.Assign [.Name y py] (.ListComp elt [⟨tg, iter, ifs, 0⟩] scope pos) spos :: sts) δ o := ss_to (sd_lc i hN h (fun x e => by rw [e]) hy hyl hsw hc hs) k
end
end Dv

set_option linter.all false
set_option maxRecDepth 100000
set_option maxHeartbeats 4000000
namespace Dv
open PySem PySem.Spec PyProof.Rows L2
variable [Tbl]
/-! ### enumerate of a tuple -/
theorem newEnumT (l : Addr) (items : Array Value) (n : Nat) (dct : Option Addr) (sl : Array (Option Value)) :
    Meets (Builtin.«enumerate.__new__» ⟨[.type "enumerate", .ref l], []⟩) (fun _ R s => s.heap.get? l = some { cls := .type "tuple", dict := dct, data := .seq items n, slots := sl } ∧
      R (.ok (.ret (.ref (s.heap.push { cls := .type "tuple_iterator", data := .fields #[.ref l, .int 0 0] }).objs.size)))
        { s with heap := (s.heap.push { cls := .type "tuple_iterator", data := .fields #[.ref l, .int 0 0] }).push { cls := .type "enumerate", data := .fields #[.none, .bool false, .ref s.heap.objs.size, rawInt 0, .none, .none] } }) :=
  .of_wp fun prog w A R s h => by
    obtain ⟨hp, g, d, tk, os⟩ := s
    obtain ⟨hl, h⟩ := h
    have hsub := sub_enumerate
    have hT : Heap.IsTuple (Shared.heap ⟨hp, g, d, tk, os⟩) l items := ⟨_, hl, rfl, n, rfl⟩
    wp_walk using AutoSeq1.wpAny_loadPart' hl
    refine wpAny_stack_any fun st => wpAny_pure ?_
    split
    · rename_i c _ _ _ _ _
      cases (c == Value.type "enumerate")
      · wp_walk using AutoSeq1.wpAny_loadPart' hl, wpAny_pyIter_tuple hT
        exact ⟨_, rfl, h⟩
      · wp_walk using AutoSeq1.wpAny_loadPart' hl, wpAny_pyIter_tuple hT
        exact ⟨_, rfl, h⟩
    · wp_walk using AutoSeq1.wpAny_loadPart' hl, wpAny_pyIter_tuple hT
      exact ⟨_, rfl, h⟩
theorem callEnumT {prog : Program} {w : World} {A : Around} {E : Value → Shared → Prop} {s : Shared} {l : Addr} {items : Array Value} {Q : Value → Shared → Prop} (hL : s.heap.IsTuple l items)
    (h : ∀ h', IsEnum h' (s.heap.objs.size + 1) s.heap.objs.size 0 .none → h'.IsTupleIter s.heap.objs.size l 0 → (∀ b o, s.heap.get? b = some o → h'.get? b = some o) → Q (.ref (s.heap.objs.size + 1)) { s with heap := h' }) :
    wpAny (model prog w) A (call (.type "enumerate") [.ref l]) Q E s := by
  obtain ⟨⟨c, dct, dt, sl⟩, hl, hc, n, hd⟩ := hL
  obtain rfl : c = .type "tuple" := hc
  obtain rfl : dt = .seq items n := hd
  refine callType_new F.called_enumerate (by decide) (F.typeCall_enumerate_1 _) (F.newCall_enumerate_1 _) (fun obj => F.args_object_init_2 obj _) F.entry_enumerate_new (newEnumT l items n dct sl) ⟨hl, ?_⟩
  have hz : (s.heap.push { cls := .type "tuple_iterator", data := .fields #[.ref l, .int 0 0] }).objs.size = s.heap.objs.size + 1 := Heap.size_push ..
  show _ ∧ _
  rw [hz]
  have he : IsEnum ((s.heap.push { cls := .type "tuple_iterator", data := .fields #[.ref l, .int 0 0] }).push { cls := .type "enumerate", data := .fields #[.none, .bool false, .ref s.heap.objs.size, rawInt 0, .none, .none] }) (s.heap.objs.size + 1) s.heap.objs.size 0 .none := by
    have q := Heap.get?_push_size (s.heap.push { cls := .type "tuple_iterator", data := .fields #[.ref l, .int 0 0] }) (o := { cls := .type "enumerate", data := .fields #[.none, .bool false, .ref s.heap.objs.size, rawInt 0, .none, .none] }) rfl
    rw [hz] at q
    exact q
  exact ⟨⟨_, he, rfl⟩, h _ he ⟨_, Heap.get?_push_of_some _ (Heap.get?_push_size _ rfl), rfl, rfl⟩ fun b o x => Heap.get?_push_of_some _ (Heap.get?_push_of_some _ x)⟩
def IteT (K : Fg) (a : Addr) : It :=
  ⟨fun i H => ∃ (xs : List V) (x : V), SqT K H a xs ∧ xs[i]? = some x, fun i H v H' => ∃ T x, v = .ref T ∧ H T = none ∧ H' = upd H T (.tup [.int (i : Nat), x]) ∧ ∀ xs, SqT K H a xs → xs[i]? = some x, fun i H => ∃ xs : List V, SqT K H a xs ∧ xs.length ≤ i⟩
theorem turnEnumT {P : Program} {w : World} {K : Fg} {elts : List Expr} {kk : Nat} {tpos : Pos} (a e it : Addr) :
    Turn P w K (.Tuple elts kk tpos) (IteT K a) [e, it] e (fun i h => (∃ old, IsEnum h e it ((i : Nat) : Int) old) ∧ h.IsTupleIter it a i ∧ e ≠ it ∧ a ≠ it ∧ e ≠ a) where
  mem := List.mem_cons_self
  obj := fun i h st b hb => by
    obtain ⟨⟨old, he⟩, ⟨o, ho, hc, hd⟩, _⟩ := st
    rcases List.mem_cons.mp hb with z | z
    · rw [z]; exact ⟨_, he, fun v q => nomatch q⟩
    · rw [List.mem_singleton.mp z]; exact ⟨o, ho, fun v q => by rw [hd] at q; cases q⟩
  keep := fun i h h' st k => by
    obtain ⟨⟨old, he⟩, hi, hne⟩ := st
    exact ⟨⟨old, k e List.mem_cons_self _ he⟩, hi.at fun o q => k it (List.mem_cons_of_mem _ (List.mem_singleton.mpr rfl)) o q, hne⟩
  item := by
    intro X hP hw hK hc i pins s σ H E I hf st hg
    subst hP hw hK
    obtain ⟨⟨old, he⟩, hit, hne, hna, hea⟩ := st
    obtain ⟨xs, x, hq, hx⟩ := hg
    obtain ⟨its, rv, p, hz⟩ := I.tuple hq
    obtain ⟨u, hu, ru⟩ := rv.get hx
    have hel : e < s.heap.objs.size := Heap.lt_size he
    have hil : it < s.heap.objs.size := by obtain ⟨_, q, _⟩ := hit; exact Heap.lt_size q
    have hT : s.heap.IsTuple a its.toArray := p
    have hlt : i < its.toArray.size := by
      rw [List.size_toArray]; exact (List.getElem?_eq_some_iff.mp hu).1
    refine wpAny_pyNext_enum_itemD (Draws.tuple (A := X.A.in1) (I.ok.hd hc) it a hna its.toArray) he ⟨hit, hT⟩ hlt hne (by
      intro z
      rcases List.mem_cons.mp z with z | z
      · exact hne z
      · exact hea (List.mem_singleton.mp z)) fun y h' tk hy ho hst hTup hsz hk => ?_
    have ey : y = u := by
      have q : its.toArray[i]? = some y := hy
      rw [show its.toArray[i]? = its[i]? by simp, hu] at q
      exact (Option.some.inj q).symm
    subst ey
    refine ⟨_, rfl, wpAny_letOwnedTupleGo_enum (s := { s with heap := h', toks := tk + 1 }) ho fun h'' he' sb => ?_⟩
    have hT2 : h''.get? s.heap.objs.size = some { cls := .type "tuple", data := .seq #[.int i tk, y] } := (sb.2 _ (Nat.ne_of_gt hel)).trans hTup
    have new : ObjOk X.prog X.w (upd H s.heap.objs.size (.tup [.int (i : Nat), x])) h'' s.heap.objs.size (.tup [.int (i : Nat), x]) :=
      ⟨by show 2 ≤ sizeLine; decide, [.int i tk, y], .cons ⟨_, rfl⟩ (.cons ru .nil), ⟨_, hT2, rfl, _, rfl⟩⟩
    have I1 : Inv X pins σ (upd H s.heap.objs.size (.tup [.int (i : Nat), x])) { s with heap := h'', toks := tk + 1 } :=
      I.turnedNew (ch := [e, it]) (fun b ob hb q => (sb.2 b (fun z => hb (by simp [z]))).trans (hk b ob (fun z => hb (by simp [z])) (fun z => hb (by simp [z])) q)) hf (Nat.le_refl _) new
    refine ⟨.ref s.heap.objs.size, _, I1, rfl, ⟨_, x, rfl, I.hok.fresh (Nat.le_refl _), rfl, fun ys hy => by rw [I.tuple_inj hy hq]; exact hx⟩, ⟨⟨y, ?_⟩, hst.1.at fun o q => (sb.2 it (Ne.symm hne)).trans q, hne, hna, hea⟩, fun b hb => ?_⟩
    · have e1 : ((i + 1 : Nat) : Int) = (i : Int) + 1 := by omega
      rw [e1]; exact he'
    · have hb' : b < s.heap.objs.size := by
        rcases List.mem_cons.mp hb with z | z
        · rw [z]; exact hel
        · rw [List.mem_singleton.mp z]; exact hil
      rw [upd_ne (Nat.ne_of_lt hb')]
      exact (hf b hb).1
  done := by
    intro X hP hw hK hc i pins s σ H E I hf st hg
    subst hP hw hK
    obtain ⟨⟨old, he⟩, hit, hne, hna, hea⟩ := st
    obtain ⟨xs, hq, hx⟩ := hg
    obtain ⟨its, rv, p, hz⟩ := I.tuple hq
    have hT : s.heap.IsTuple a its.toArray := p
    obtain ⟨f0, f1, f2, f3, f4, f5⟩ := hf it (List.mem_cons_of_mem _ (List.mem_singleton.mpr rfl))
    have hl := rv.length
    have D : Draws X.prog X.w X.A.in1 it [it, a] i (fun _ _ => True) (fun j h => j = i ∧ h.IsTupleIter it a j ∧ h.IsTuple a its.toArray) :=
      { live := fun _ _ st => let ⟨o, ho, _⟩ := st.2.1; ⟨o, ho⟩
        frame := fun _ _ _ st k => ⟨st.1, st.2.1.at fun o e => k it (by simp) o e, st.2.2.at fun o e => k a (by simp) o e⟩
        item := fun j s Q E hj st _ => absurd st.1 (Nat.ne_of_lt hj)
        done := fun s Q E st hE => wpAny_nextOf_tuple_end (I.ok.hd hc) st.2.1 st.2.2 (by simp; omega) hE }
    exact wpAny_pyNext_enum_endD D he ⟨rfl, hit, hT⟩ fun h' eb => ⟨rfl, I.turned (t' := s.toks) (fun b o hb q => eb b o hb q) f0 f1 f3 f4 f5⟩
  self := fun A i s Q E st h => by
    obtain ⟨⟨_, he⟩, _⟩ := st
    exact wpAny_pyIter_enum he h
theorem pi_enumT {X : Cx} {e : Expr} {ta : TA} {p pos tpos : Pos} {elts : List Expr} {kk : Nat} (hg : Gl X "enumerate") (hm : X.mg "enumerate" = none) (ha : PA X [e] ta) (hs : starEach [e] X.env = [(false, eval e X.env)] := by rfl) :
    PI X (.Tuple elts kk tpos) (.Call (.Name "enumerate" p) [e] [] pos) (fun σ H R => ta σ H fun vs H1 => ∃ a xs, vs = [.ref a] ∧ SqT X.K H1 a xs ∧ R (IteT X.K a) H1) := by
  refine ⟨fun pins s σ H R I h => ?_⟩
  refine Call_ (ld_blt I hg hm boot_enumerate (PyProof.Rows.callWith_type1 (thn (ha.run pos pins s σ H _ I h) fun us s1 ⟨vs, H1, I1, r1, q1⟩ => ?_) hs rfl))
  obtain ⟨a, xs, ex, hq, q⟩ := q1
  subst ex
  obtain ⟨u, rfl, ru⟩ := r1.one
  cases ru
  obtain ⟨its, rv, p', hz⟩ := I1.tuple hq
  have hTa : s1.heap.IsTuple a its.toArray := p'
  have hal : a < s1.heap.objs.size := by obtain ⟨_, z, _⟩ := hTa; exact Heap.lt_size z
  refine callEnumT hTa fun h' he hit hk => wpAny_pyIter_enum he ?_
  have I2 : Inv X pins σ H1 { s1 with heap := h' } := I1.kept (t' := s1.toks) hk
  refine ⟨s1.heap.objs.size + 1, [s1.heap.objs.size + 1, s1.heap.objs.size], _, _, H1, rfl, I2, turnEnumT a (s1.heap.objs.size + 1) s1.heap.objs.size, ⟨⟨.none, he⟩, hit, Nat.succ_ne_self _, Nat.ne_of_lt hal, Nat.ne_of_gt (Nat.lt_succ_of_lt hal)⟩, fun b hb => ?_, q⟩
  have hle : s1.heap.objs.size ≤ b := by
    rcases List.mem_cons.mp hb with z | z
    · rw [z]; exact Nat.le_succ _
    · rw [List.mem_singleton.mp z]; exact Nat.le_refl _
  exact I1.fpOk hle (I1.hok.fresh hle)
theorem yld_enumT {K : Fg} {G : Hp} {a : Addr} {xs : List V} {ds : List Dt} (hs : SqT K G a xs) (ha : DzAll K G xs ds) : Yld K (IteT K a) G (enD ds) := by
  intro p B G1 H1 e i3 i
  rw [enD_length]
  have h1 : SqT K H1 a xs := ex_t (e.trans i3.gh) hs
  refine ⟨fun hi => ?_, fun hi => ⟨xs, h1, by rw [dpAll_length ha]; omega⟩⟩
  obtain ⟨v, hv, hd⟩ := dpAll_get (i := i) (d := ds[i]) ha (List.getElem?_eq_getElem hi)
  refine ⟨⟨xs, v, h1, hv⟩, fun x H2 ⟨T, z, e1, hT, e2, hx⟩ => ?_⟩
  subst e1; subst e2
  have := hx xs h1
  rw [hv] at this
  cases this
  exact ⟨_, _, enD_get (List.getElem?_eq_getElem hi), .new i3 _ hT, .tup (.inl (.inl upd_same)) (.cons (.int _) (.cons (dp_ex (e.trans (Ex.new (i3.gh.free hT))) _ _ hd) .nil))⟩
theorem i_enumT {X : Cx} {e : Expr} {δ : De} {ds : List Dt} {p pos tpos : Pos} {elts : List Expr} {kk : Nat} (h : PAD X [e] δ [.tuple ds]) (hm : X.mg "enumerate" = none) (hg : Gl X "enumerate" := by rfl) : ID X (.Tuple elts kk tpos) (.Call (.Name "enumerate" p) [e] [] pos) δ (enD ds) :=
  PI.imp (pi_enumT hg hm h.pa h.pl) fun σ H Q ⟨p, B, G, i3, en, q⟩ => ⟨p, B, G, i3, en, fun v d G' H' r n hv => by
    subst r
    obtain ⟨v, rfl, h1⟩ := one_of hv
    cases h1 with
    | tup hs ha => exact ⟨_, _, rfl, ex_t n.gh hs, q _ _ G' H' rfl n (yld_enumT hs ha)⟩⟩
end Dv

set_option linter.all false
set_option maxRecDepth 100000
set_option maxHeartbeats 2000000
namespace Dv
open PySem PySem.Spec PyProof.Rows L2
variable [Tbl]
section
variable {X : Cx} {sts : List Stmt} {a b c e : Expr} {δ δ' : De} {o : Out} {d d1 d2 d3 : Dt} {ds : List Dt} {pos p : Pos} {S : List Dt → Prop} {N : De → Prop}
/-- a, b = x, y and a, b, c = x, y, z with plain local names -/
theorem sd_par (i j : Nat) {x y : Str} {px py pt : Pos} {kt k2 pt2} (hN : X.N.Nodup) (hij : i ≠ j) (ha : XA X [a, b] δ S) (hS : ∀ ds, S ds → ∃ d1 d2, ds = [d1, d2] ∧ N ((δ.set i (.d d1)).set j (.d d2))) (hc : X.calm = true := by rfl) (hi : X.N[i]? = some x := by rfl) (hj : X.N[j]? = some y := by rfl) (hx : X.env.scope.names.lookup x = some .local := by rfl) (hy : X.env.scope.names.lookup y = some .local := by rfl)
    (hw : swappedStores [.Tuple [.Name x px, .Name y py] kt pt] (.Tuple [a, b] k2 pt2) X.env = pure (some [x, y]) := by rfl) (hs : swapsWithSole [.Tuple [.Name x px, .Name y py] kt pt] (.Tuple [a, b] k2 pt2) pos.line X.env = pure false := by rfl) :
    SD X (.Assign [.Tuple [.Name x px, .Name y py] kt pt] (.Tuple [a, b] k2 pt2) pos) δ { o with nx := N } :=
  PS.imp (ps_par hc hN hi hj hij hx hy ha.pa hw hs) fun D σ H ⟨p, B, G, i3, en, q⟩ => ⟨p, B, G, i3, en, fun vs ds G' H' r n hv => by
    obtain ⟨d1, d2, e, hn⟩ := hS ds r
    subst e
    obtain ⟨v, w, rfl, h1, h2⟩ := two_of hv
    exact ⟨v, w, rfl, q.nx _ _ G' H' hn (n.stepB i3) (i3.nxt n) (((en.nxt n).set h1).set h2)⟩⟩
theorem s_par (i j : Nat) {x y : Str} {px py pt : Pos} {kt k2 pt2} (hN : X.N.Nodup) (hij : i ≠ j) (ha : PAD X [a, b] δ [d1, d2]) (k : SsD X sts ((δ.set i (.d d1)).set j (.d d2)) o) (hc : X.calm = true := by rfl) (hi : X.N[i]? = some x := by rfl) (hj : X.N[j]? = some y := by rfl) (hx : X.env.scope.names.lookup x = some .local := by rfl) (hy : X.env.scope.names.lookup y = some .local := by rfl)
    (hw : swappedStores [.Tuple [.Name x px, .Name y py] kt pt] (.Tuple [a, b] k2 pt2) X.env = pure (some [x, y]) := by rfl) (hs : swapsWithSole [.Tuple [.Name x px, .Name y py] kt pt] (.Tuple [a, b] k2 pt2) pos.line X.env = pure false := by rfl) :
    SsD X (.Assign [.Tuple [.Name x px, .Name y py] kt pt] (.Tuple [a, b] k2 pt2) pos :: sts) δ o :=
  ss_to (sd_par i j hN hij ha (fun ds e => ⟨d1, d2, e, rfl⟩) hc hi hj hx hy hw hs) k
theorem three_of {K : Fg} {G : Hp} {vs : List V} (h : DzAll K G vs [d1, d2, d3]) : ∃ v w u, vs = [v, w, u] ∧ Dz K G v d1 ∧ Dz K G w d2 ∧ Dz K G u d3 := by
  cases h with
  | cons a b => obtain ⟨w, u, e, f, g⟩ := two_of b; exact ⟨_, w, u, by rw [e], a, f, g⟩
theorem sd_par3 (i j l : Nat) {x y z : Str} {px py pz pt : Pos} {kt k2 pt2} (hN : X.N.Nodup) (hij : i ≠ j) (hil : i ≠ l) (hjl : j ≠ l) (ha : XA X [a, b, c] δ S) (hS : ∀ ds, S ds → ∃ d1 d2 d3, ds = [d1, d2, d3] ∧ N (((δ.set i (.d d1)).set j (.d d2)).set l (.d d3))) (hc : X.calm = true := by rfl) (hi : X.N[i]? = some x := by rfl) (hj : X.N[j]? = some y := by rfl) (hl : X.N[l]? = some z := by rfl)
    (hx : X.env.scope.names.lookup x = some .local := by rfl) (hy : X.env.scope.names.lookup y = some .local := by rfl) (hz : X.env.scope.names.lookup z = some .local := by rfl)
    (hw : swappedStores [.Tuple [.Name x px, .Name y py, .Name z pz] kt pt] (.Tuple [a, b, c] k2 pt2) X.env = pure (some [x, y, z]) := by rfl) (hs : swapsWithSole [.Tuple [.Name x px, .Name y py, .Name z pz] kt pt] (.Tuple [a, b, c] k2 pt2) pos.line X.env = pure false := by rfl) :
    SD X (.Assign [.Tuple [.Name x px, .Name y py, .Name z pz] kt pt] (.Tuple [a, b, c] k2 pt2) pos) δ { o with nx := N } :=
  PS.imp (ps_par3 hc hN hi hj hl hij hil hjl hx hy hz ha.pa hw hs) fun D σ H ⟨p, B, G, i3, en, q⟩ => ⟨p, B, G, i3, en, fun vs ds G' H' r n hv => by
    obtain ⟨d1, d2, d3, e, hn⟩ := hS ds r
    subst e
    obtain ⟨v, w, u, rfl, h1, h2, h3⟩ := three_of hv
    exact ⟨v, w, u, rfl, q.nx _ _ G' H' hn (n.stepB i3) (i3.nxt n) ((((en.nxt n).set h1).set h2).set h3)⟩⟩
/-- two equal texts -/
theorem pt_neR {s : Str} (ha : PD X a δ (.str s)) (hb : PD X b δ (.str s)) : PTD X (.Compare a [.NotEq] [b] pos) δ false := by
  have h := pt_neS (pos := pos) ha hb
  rw [decide_eq_true rfl] at h
  exact h
theorem pd_eqR {s : Str} (ha : PD X a δ (.str s)) (hb : PD X b δ (.str s)) : PD X (.Compare a [.Eq] [b] pos) δ (.bool true) := by
  have h := pd_eqS (pos := pos) ha hb
  rw [decide_eq_true rfl] at h
  exact h
theorem pt_neIs {i : Int} (ha : PD X a δ (.int i)) (hb : PD X b δ (.int i)) : PTD X (.Compare a [.NotEq] [b] pos) δ false := by
  have h := pt_neI (pos := pos) ha hb
  rw [decide_eq_true rfl] at h
  exact h
theorem pt_neBs {i : Bool} (ha : PD X a δ (.bool i)) (hb : PD X b δ (.bool i)) : PTD X (.Compare a [.NotEq] [b] pos) δ false := by
  have h := pt_neB (pos := pos) ha hb
  rw [decide_eq_true rfl] at h
  exact h
theorem pt_neSame (hu : X.A.units + 64 < cLine) (ha : PD X a δ d) (hb : PD X b δ d) (hx : SeqAt.shaped d = true) : PTD X (.Compare a [.NotEq] [b] pos) δ false := by
  have h := pt_neD (pos := pos) hu ha hb hx hx
  unfold SeqAt.shaped at hx
  rw [Bool.and_eq_true] at hx
  rw [SeqAt.eqv_refl d hx.1] at h
  exact h
end
theorem shaped_ints (ns : List Int) : SeqAt.shaped (.list (ns.map PyData.int)) = true := by
  have h : PyData.canLayAll0 (ns.map PyData.int) = true ∧ PyData.depthAll (ns.map PyData.int) = 0 := by
    induction ns with
    | nil => exact ⟨by simp [PyData.canLayAll0], by simp [PyData.depthAll]⟩
    | cons n r ih => exact ⟨by simp [PyData.canLayAll0, PyData.canLay0, ih.1], by simp [PyData.depthAll, PyData.depth, ih.2]⟩
  unfold SeqAt.shaped
  simp only [PyData.canLay0, PyData.depth, h.1, h.2]
  decide
theorem at_map {α : Type} {xs : List α} {F : α → Dt} {i : Nat} {x : α} (h : xs[i]? = some x) : atI (xs.map F) ((i : Nat) : Int) = some (F x) := atI_nat (by rw [List.getElem?_map, h]; rfl)
theorem cut_lo {α : Type} {xs : List α} {F : α → Dt} {k : Nat} : cutD (xs.map F) (some ((k : Nat) : Int)) none = (xs.drop k).map F := by
  unfold cutD
  rw [HT.sIx_nat, HT.sIx_none, ← List.map_drop, ← List.map_take, List.length_map]
  by_cases h : k ≤ xs.length
  · rw [Nat.min_eq_left h, List.take_of_length_le (by rw [List.length_drop]; exact Nat.le_refl _)]
  · rw [Nat.min_eq_right (by omega), List.drop_of_length_le (Nat.le_refl _), List.drop_of_length_le (by omega), List.take_nil]
theorem cut_hi {α : Type} {xs : List α} {F : α → Dt} {k : Nat} : cutD (xs.map F) none (some ((k : Nat) : Int)) = (xs.take k).map F := by
  unfold cutD
  rw [HT.sIx_nat, HT.sIx_none, List.drop_zero, ← List.map_take, List.length_map, Nat.sub_zero]
  by_cases h : k ≤ xs.length
  · rw [Nat.min_eq_left h]
  · rw [Nat.min_eq_right (by omega), List.take_of_length_le (Nat.le_refl _), List.take_of_length_le (by omega)]
end Dv

set_option linter.all false
set_option maxRecDepth 100000
set_option maxHeartbeats 2000000
namespace Dv
open PySem PySem.Spec PyProof.Rows L2
variable [Tbl]
/-! ### the pot -/
theorem Nxt.mut {q : Addr} {B G H : Hp} (i : I3 (some q) B G H) {a b : Int} (h : potOk a b) : Nxt (some q) G H G (upd H q (.lst [.int a, .int b])) := by
  obtain ⟨h1, h2, x, y, h3, _⟩ := i.pot q rfl
  refine ⟨Step.refl _ _, fun c u hu _ => ?_, fun c u hu => ?_, fun z hz => ?_, upd_dom, fun t => tabs_lst h3 t⟩
  · obtain ⟨e1, e2⟩ := del_le hu
    have : c ≠ q := fun w => e2 (by rw [w])
    rw [upd_ne this]; exact e1
  · have : c ≠ q := fun w => by subst w; rw [h2] at hu; cases hu
    rw [upd_ne this]; exact i.gh c u hu
  · cases hz
    exact ⟨a, b, upd_same, h⟩
section
variable {X : Cx} {sts : List Stmt} {a b c e : Expr} {δ δ' : De} {o : Out} {d : Dt} {ds : List Dt} {pos p kp sp zp pt yp : Pos} {R : Dt → Prop} {N : De → Prop}
theorem xd_potAt (i : Nat) {y : Str} {k : Int} {j} (hk : k = 0 ∨ k = 1) (hs : δ[i]? = some .pot := by rfl) (hN : X.N[i]? = some y := by rfl) (hv : Vis X.env.scope y := by first | exact Or.inl rfl | exact Or.inr (Or.inl rfl) | exact Or.inr (Or.inr rfl)) (hd : (y == ("__debug__" : Str)) = false := by decide) (hcd : (y == ("__classdict__" : Str)) = false := by decide) :
    XD X (.Subscript (.Name y yp) (.Constant (.int k) j kp) pos) δ (fun d => ∃ n : Int, d = .int n ∧ 0 ≤ n ∧ (k = 1 → n ≤ 2147483588)) :=
  PE.imp (pe_ix ix_list (pe_var hN hv hd hcd) pe_int (fun _ _ => rfl)) fun σ H Q ⟨p, B, G, i3, en, q⟩ => by
    obtain ⟨o', h1, z, rfl, rfl⟩ := en.slot i _ hs
    obtain ⟨h2, h3, x, w, h4, h5, h6, h7⟩ := i3.pot z rfl
    refine ⟨_, h1, z, [.int x, .int w], k, .int (if k = 0 then x else w), rfl, rfl, .inl (.inl h4), ?_, q _ (.int (if k = 0 then x else w)) G H ⟨_, rfl, ?_, ?_⟩ (.refl i3) (.int _)⟩
    · rcases hk with rfl | rfl <;> rfl
    · split <;> omega
    · intro e; subst e; simpa using h7
theorem sd_potSet (i : Nat) {y : Str} {j} (he : XD X e δ fun d => ∃ n : Int, d = .int n ∧ 0 ≤ n ∧ n ≤ 2147483588) (hs : δ[i]? = some .pot := by rfl) (hN : X.N[i]? = some y := by rfl) (hv : Vis X.env.scope y := by first | exact Or.inl rfl | exact Or.inr (Or.inl rfl) | exact Or.inr (Or.inr rfl)) (hd : (y == ("__debug__" : Str)) = false := by decide) (hcd : (y == ("__classdict__" : Str)) = false := by decide)
    (h2 : swapsWithSole [.Subscript (.Name y yp) (.Constant (.int 1) j kp) sp] e pos.line X.env = pure false := by rfl) (hw : swappedStores [.Subscript (.Name y yp) (.Constant (.int 1) j kp) sp] e X.env = pure none := by rfl)
    (h1 : (assignEach [.Subscript (.Name y yp) (.Constant (.int 1) j kp) sp] X.env).map (·.2) = [assign (.Subscript (.Name y yp) (.Constant (.int 1) j kp) sp) X.env] := by rfl) : SD X (.Assign [.Subscript (.Name y yp) (.Constant (.int 1) j kp) sp] e pos) δ { o with nx := fun x => x = δ } :=
  PS.imp (ps_asg he (pg_sub (pe_var hN hv hd hcd) pe_int set_list) h2 hw h1) fun D σ H ⟨p, B, G, i3, en, q⟩ => ⟨p, B, G, i3, en, fun v d G' H' ⟨n, r, n0, n1⟩ nx hv' => by
    subst r
    cases hv'
    obtain ⟨o', h1, z, rfl, rfl⟩ := (en.nxt nx).slot i _ hs
    have i3' := i3.nxt nx
    obtain ⟨h2, h3, x, w, h4, h5, h6, h7⟩ := i3'.pot z rfl
    have m := Nxt.mut (a := x) (b := n) i3' ⟨h5, n0, n1⟩
    have mm := nx.trans m
    exact ⟨_, h1, z, _, 1, 1, rfl, rfl, h4, rfl, q.nx _ σ G' _ rfl (mm.stepB i3) (i3.nxt mm) (en.nxt mm)⟩⟩
theorem sd_potDiv (i l : Nat) {y x : Str} {j kt} {S : Int → Prop} (hX : X.N.Nodup) (he : XD X e δ fun d => ∃ u w : Int, d = .tuple [.int u, .int w] ∧ 0 ≤ u ∧ S w) (hR : ∀ w, S w → N (δ.set l (.d (.int w)))) (hc : X.calm = true := by rfl) (hs : δ[i]? = some .pot := by rfl) (hN : X.N[i]? = some y := by rfl) (hl : X.N[l]? = some x := by rfl) (hv : Vis X.env.scope y := by first | exact Or.inl rfl | exact Or.inr (Or.inl rfl) | exact Or.inr (Or.inr rfl)) (hd : (y == ("__debug__" : Str)) = false := by decide) (hcd : (y == ("__classdict__" : Str)) = false := by decide)
    (hx : Loc X.env.scope x := by first | exact Or.inl rfl | exact Or.inr rfl) (hf : X.fn x = true ∨ X.env.scope.names.lookup x = some .local := by first | exact .inl rfl | exact .inr rfl | assumption)
    (h2 : swapsWithSole [.Tuple [.Subscript (.Name y yp) (.Constant (.int 0) j kp) sp, .Name x zp] kt pt] e pos.line X.env = pure false := by rfl) (hw : swappedStores [.Tuple [.Subscript (.Name y yp) (.Constant (.int 0) j kp) sp, .Name x zp] kt pt] e X.env = pure none := by rfl)
    (h1 : (assignEach [.Tuple [.Subscript (.Name y yp) (.Constant (.int 0) j kp) sp, .Name x zp] kt pt] X.env).map (·.2) = [assign (.Tuple [.Subscript (.Name y yp) (.Constant (.int 0) j kp) sp, .Name x zp] kt pt) X.env] := by rfl)
    (h3 : (assignEach [.Subscript (.Name y yp) (.Constant (.int 0) j kp) sp, .Name x zp] X.env).map (·.2) = assign (.Subscript (.Name y yp) (.Constant (.int 0) j kp) sp) X.env :: (assignEach [.Name x zp] X.env).map (·.2) := by rfl)
    (h4 : (assignEach [.Name x zp] X.env).map (·.2) = assign (.Name x zp) X.env :: (assignEach [] X.env).map (·.2) := by rfl)
    (h5 : (assignEach [.Subscript (.Name y yp) (.Constant (.int 0) j kp) sp, .Name x zp] X.env).length = 2 := by rfl) (h6 : (assignEach [.Subscript (.Name y yp) (.Constant (.int 0) j kp) sp, .Name x zp] X.env).findIdx? (·.1) = none := by rfl) :
    SD X (.Assign [.Tuple [.Subscript (.Name y yp) (.Constant (.int 0) j kp) sp, .Name x zp] kt pt] e pos) δ { o with nx := N } :=
  PS.imp (ps_asg he (pg_tup hc (pgs_cons (pg_sub (pe_var hN hv hd hcd) pe_int set_list) (pgs_cons (pg_name hX hl hx hf) pgs_nil h4) h3) h5 h6) h2 hw h1) fun D σ H ⟨p, B, G, i3, en, q⟩ => ⟨p, B, G, i3, en, fun v d G' H' ⟨u, w, r, u0, sw⟩ nx hv' => by
    subst r
    obtain ⟨o', h1, z, rfl, rfl⟩ := (en.nxt nx).slot i _ hs
    have i3' := i3.nxt nx
    obtain ⟨h2, h3, x', w', h4, h5, h6, h7⟩ := i3'.pot z rfl
    have m := Nxt.mut (a := u) (b := w') i3' ⟨u0, h6, h7⟩
    have mm := nx.trans m
    cases hv' with
    | tup hq ha =>
      obtain ⟨v1, v2, rfl, e1, e2⟩ := two_of ha
      cases e1; cases e2
      refine ⟨_, [.int u, .int w], rfl, ex_t i3'.gh hq, rfl, .int u, [.int w], rfl, _, h1, z, _, 0, 0, rfl, rfl, h4, rfl, .int w, [], rfl, rfl, ?_⟩
      exact q.nx _ _ G' _ (hR w sw) (mm.stepB i3) (i3.nxt mm) ((en.nxt mm).set (.int w))⟩
theorem xd_divmod {S : Int → Int → Prop} (hm : X.mg "divmod" = none) (ha : XA X [a, b] δ fun ds => ∃ i j : Int, ds = [.int i, .int j] ∧ CDiv i j ∧ S i j) (hg : Gl X "divmod" := by rfl) (hpl : starEach [b] X.env = [(false, eval b X.env)] := by rfl) :
    XD X (.Call (.Name "divmod" p) [a, b] [] pos) δ fun d => ∃ i j : Int, d = .tuple [.int (i / j), .int (i % j)] ∧ S i j :=
  xd_cb call_divmod hg hm (by decide +kernel) ha (fun ds' ⟨i, j, e, hc, s⟩ p B G H vs i3 hv Q q => by
    subst e
    obtain ⟨v, w, rfl, h1, h2⟩ := two_of hv
    cases h1; cases h2
    exact ⟨i, j, rfl, hc, fun z hz => q (.ref z) _ _ _ ⟨i, j, rfl, s⟩ (.new i3 _ hz) (.tup (.inl (.inl upd_same)) (.cons (.int _) (.cons (.int _) .nil)))⟩) (hpl := hpl)
/-- ints in bounds -/
def IntP (S : Int → Prop) (d : Dt) : Prop := ∃ i, d = .int i ∧ S i
theorem xi_of {S : Int → Prop} {i : Int} (h : PD X a δ (.int i)) (hs : S i) : XD X a δ (IntP S) := h.mono fun d e => ⟨i, e, hs⟩
theorem xi_imp {S T : Int → Prop} (h : XD X a δ (IntP S)) (k : ∀ i, S i → T i) : XD X a δ (IntP T) := h.mono fun d ⟨i, e, s⟩ => ⟨i, e, k i s⟩
theorem xi_add {S T U : Int → Prop} (ha : XD X a δ (IntP S)) (hb : XD X b δ (IntP T)) (h : ∀ i j, S i → T j → U (i + j)) : XD X (.BinOp a .Add b pos) δ (IntP U) := xd_op op_add ha hb fun x y ⟨i, e1, s⟩ ⟨j, e2, t⟩ => by subst e1; subst e2; (refine rd_i ?_; exact ⟨_, rfl, h i j s t⟩)
theorem xi_sub {S T U : Int → Prop} (ha : XD X a δ (IntP S)) (hb : XD X b δ (IntP T)) (h : ∀ i j, S i → T j → U (i - j)) : XD X (.BinOp a .Sub b pos) δ (IntP U) := xd_op op_sub ha hb fun x y ⟨i, e1, s⟩ ⟨j, e2, t⟩ => by subst e1; subst e2; (refine rd_i ?_; exact ⟨_, rfl, h i j s t⟩)
theorem xi_mul {S T U : Int → Prop} (ha : XD X a δ (IntP S)) (hb : XD X b δ (IntP T)) (h : ∀ i j, S i → T j → CMul i j ∧ U (i * j)) : XD X (.BinOp a .Mult b pos) δ (IntP U) := xd_op op_mul ha hb fun x y ⟨i, e1, s⟩ ⟨j, e2, t⟩ => by subst e1; subst e2; (refine rd_c ?_ ?_; exact (h i j s t).1; exact ⟨_, rfl, (h i j s t).2⟩)
theorem xi_mod {S T U : Int → Prop} (ha : XD X a δ (IntP S)) (hb : XD X b δ (IntP T)) (h : ∀ i j, S i → T j → 0 < j ∧ U (i % j)) : XD X (.BinOp a .Mod b pos) δ (IntP U) := xd_op op_mod ha hb fun x y ⟨i, e1, s⟩ ⟨j, e2, t⟩ => by subst e1; subst e2; (refine rd_c ?_ ?_; exact (h i j s t).1; exact ⟨_, rfl, (h i j s t).2⟩)
theorem xi_fdiv {S T U : Int → Prop} (ha : XD X a δ (IntP S)) (hb : XD X b δ (IntP T)) (h : ∀ i j, S i → T j → CDiv i j ∧ U (i / j)) : XD X (.BinOp a .FloorDiv b pos) δ (IntP U) := xd_op op_fdiv ha hb fun x y ⟨i, e1, s⟩ ⟨j, e2, t⟩ => by subst e1; subst e2; (refine rd_c ?_ ?_; exact (h i j s t).1; exact ⟨_, rfl, (h i j s t).2⟩)
theorem xi_int {S : Int → Prop} (hm : X.mg "int" = none) (ha : XD X e δ (IntP S)) (hg : Gl X "int" := by rfl) (hs : starEach [e] X.env = (false, eval e X.env) :: starEach [] X.env := by rfl) : XD X (.Call (.Name "int" p) [e] [] pos) δ (IntP S) :=
  xd_int hm (xa_cons ha xa_nil (fun d ds ⟨i, e, s⟩ h => ⟨i, by rw [e, h], s⟩) hs) hg
theorem xt_gt {S T : Int → Prop} (ha : XD X a δ (IntP S)) (hb : XD X b δ (IntP T)) : XT X (.Compare a [.Gt] [b] pos) δ (fun _ => True) := xt_cmp op_gt ha hb (nomark _) fun x y ⟨i, e1, s⟩ ⟨j, e2, t⟩ => by subst e1; subst e2; (refine rd_b ?_; exact ⟨_, rfl, trivial⟩)
/-- some[i] -/
theorem xd_ixLP {S : Int → Prop} {T : Dt → Prop} (ha : PD X a δ (.list ds)) (hb : XD X b δ (IntP S)) (h : ∀ i, S i → ∃ d, atI ds i = some d ∧ T d) (hs : PlainIx b := by exact fun _ _ => rfl) : XD X (.Subscript a b pos) δ T := xd_ix ix_list ha hb hs fun x y e1 ⟨i, e2, s⟩ => by subst e1; subst e2; exact rd_ixL (h i s)
/-- an argument list: a known element, then the rest -/
theorem xa_pc {es : List Expr} {S : List Dt → Prop} (ha : PD X e δ d) (hr : XA X es δ S) (hs : starEach (e :: es) X.env = (false, eval e X.env) :: starEach es X.env := by rfl) : XA X (e :: es) δ (fun x => ∃ y, x = d :: y ∧ S y) := xa_cons ha hr (fun d' ds e1 h => ⟨ds, by rw [e1], h⟩) hs
theorem xa_xc {es : List Expr} {S : List Dt → Prop} {R : Dt → Prop} (ha : XD X e δ R) (hr : XA X es δ S) (hs : starEach (e :: es) X.env = (false, eval e X.env) :: starEach es X.env := by rfl) : XA X (e :: es) δ (fun x => ∃ d y, x = d :: y ∧ R d ∧ S y) := xa_cons ha hr (fun d' ds e1 h => ⟨d', ds, rfl, e1, h⟩) hs
theorem xi_max2 {S T U : Int → Prop} (hm : X.mg "max" = none) (ha : XD X a δ (IntP S)) (hb : XD X b δ (IntP T)) (h : ∀ i j, S i → T j → U (max i j)) (hc : X.calm = true := by rfl) (hg : Gl X "max" := by rfl) (hpl : starEach [b] X.env = [(false, eval b X.env)] := by rfl) (hs : starEach [a, b] X.env = (false, eval a X.env) :: starEach [b] X.env := by rfl) (hs2 : starEach [b] X.env = (false, eval b X.env) :: starEach [] X.env := by rfl) : XD X (.Call (.Name "max" p) [a, b] [] pos) δ (IntP U) :=
  xd_cb (call_max2 hc) hg hm (by decide +kernel) (xa_xc ha (xa_xc hb xa_nil hs2) hs) (fun ds' ⟨d1, y, e1, ⟨i, ei, si⟩, d2, y2, e2, ⟨j, ej, sj⟩, e3⟩ p B G H vs i3 hv Q q => by
    subst e3; subst e2; subst e1; subst ei; subst ej
    obtain ⟨v, w, rfl, h1, h2⟩ := two_of hv
    cases h1; cases h2
    refine ⟨i, j, rfl, q _ _ G H ⟨_, rfl, h i j si sj⟩ (.refl i3) ?_⟩
    have : (if j > i then j else i) = max i j := by omega
    rw [this]; exact .int _) (hpl := hpl)
end
end Dv

set_option linter.all false
set_option maxRecDepth 100000
set_option maxHeartbeats 2000000
namespace Dv
open PySem PySem.Spec PyProof.Rows L2
variable [Tbl]
section
variable {X : Cx} {sts : List Stmt} {a b c e : Expr} {es fs : List Expr} {δ δ' : De} {o : Out} {d : Dt} {ds : List Dt} {pos p lp : Pos} {R : Dt → Prop} {N : De → Prop}
/-- return [..], a list of nobody's yet -/
theorem s_retLst (h : PAD X es δ ds) (hR : o.ro ds) (hl : ds.length ≤ 100000 := by first | decide | simp) : SsD X (.Return (some (.List es lp)) pos :: sts) δ o :=
  ss_end (PS.imp (ps_ret (pe_lst h.pa)) fun D σ H ⟨p, B, G, i3, en, q⟩ => ⟨p, B, G, i3, en, fun vs ds' G' H' r n h' => by
    subst r
    refine ⟨by rw [dpAll_length h']; exact Nat.le_trans hl (by decide), fun l hl => ?_⟩
    have i3' := i3.nxt n
    have n2 := n.trans (Nxt.newH i3' (.lst vs) hl)
    have pl : p ≠ some l := fun z => by
      obtain ⟨_, _, _, _, h3, _⟩ := i3'.pot l z
      rw [hl] at h3; cases h3
    exact q.ro _ l vs G' _ hR (n2.stepB i3) (i3.nxt n2) (i3'.bh.free hl) (i3'.gh.free hl) pl upd_same h'⟩)
/-- f(g(..)): g's answer, a new list of two numbers, is f's pot -/
theorem xd_potNew {k k2 : Nat} {x y : Str} {ps ps2 : List Str} {st st2 : Stmt} {R : List Dt → (Dt → Prop) → Prop} {R2 : List Dt → List Dt → Prop} {U : Dt → Prop} {u w : Int} {p2 p3 : Pos} (C : Cal X.prog X.w X.K X.mg X.base k x ps st (spP X.K R)) (D : Cal X.prog X.w X.K X.mg X.base k2 y ps2 st2 (spO X.K R2))
    (ha : PAD X (e :: es) δ ds) (hR : R [] U) (hR2 : R2 ds [.int u, .int w]) (hp : potOk u w) (hr : Room k X.A := by first | assumption | (refine Room.mono (by assumption) ?_; decide)) (hr2 : Room k2 X.A := by first | assumption | (refine Room.mono (by assumption) ?_; decide)) (hgd : X.A.guards = some [] := by assumption) (hg : Gl X x := by rfl) (hg2 : Gl X y := by rfl)
    (hpl : starEach es X.env = es.map fun e => (false, eval e X.env) := by rfl) (hs1 : starEach [.Call (.Name y p2) (e :: es) [] p3] X.env = (false, eval (.Call (.Name y p2) (e :: es) [] p3) X.env) :: starEach [] X.env := by rfl)
    (hdb : (x == ("__debug__" : Str)) = false := by decide) (hdb2 : (y == ("__debug__" : Str)) = false := by decide) : XD X (.Call (.Name x p) [.Call (.Name y p2) (e :: es) [] p3] [] pos) δ U := by
  obtain ⟨f, fd, F, hm, hk, hb, _⟩ := C.ex
  obtain ⟨f2, fd2, F2, hm2, hk2, hb2, _⟩ := D.ex
  refine PE.imp (pe_g F hr hgd hg hm hk hb (pa_cons (pe_g F2 hr2 hgd hg2 hm2 hk2 hb2 ha.pa hdb2 (by rw [hpl]; exact ha.pl) (back_plain hpl)) pa_nil hs1) hdb hs1 (back_plain (es := []) rfl)) fun σ H Q ⟨p, B, G, i3, en, q⟩ => ⟨p, B, G, i3, en, fun vs dd G1 H1 r n hv => ?_⟩
  subst r
  have i31 := i3.nxt n
  refine ⟨G1, _, _, ⟨i31.gh, i31.tz⟩, hv, hR2, fun l xs G2 H2 s2 e2 g2 hl gl hl2 ha2 => ?_⟩
  have ex : xs = [V.int u, V.int w] := dpAll_ints (ns := [u, w]) ha2
  subst ex
  have nl : ∀ {a : Addr}, H1 a ≠ none → a ≠ l := fun h z => h (z ▸ hl)
  refine ⟨del (some l) H2, G2, l, [], [], U, ⟨Exd.hide _ _, g2, (fun z hz => ?_), i31.tz.go s2 e2.tb⟩, rfl, .nil, hR, fun v d G3 H3 hu s3 i33 hd => q v d G3 H3 hu ⟨⟨(n.st.1.trans s2.1).trans s3.1, fun a h1 h2 => ?_⟩, fun a o h k => ?_, i33.gh, fun z hz => ?_, fun a h => ?_, fun t => i33.bh.tb fun q hq => tabS_hide hl2 (e2.tb (n.tb t) q hq)⟩ hd⟩
  · cases hz
    refine ⟨?_, gl, u, w, hl2, hp⟩
    unfold del; rw [if_pos rfl]
  · have h3 := n.dom a h1
    have h4 := nl h3
    refine s3.2 a ?_ (s2.2 a h3 (n.st.2 a h1 h2))
    rw [del_ne (fun z => h4 (Option.some.inj z).symm)]
    exact e2.dom a h3
  · have h3 := n.ex a o h k
    have h4 := nl (nn h3)
    exact i33.bh.ex a o (by rw [del_ne (fun z => h4 (Option.some.inj z).symm)]; exact e2.ex a o h3 k) k
  · obtain ⟨a, b, h3, h4⟩ := n.pot z hz
    have h5 := nl (nn h3)
    exact ⟨a, b, i33.bh.ex z _ (by rw [del_ne (fun z => h5 (Option.some.inj z).symm)]; exact e2.ex z _ h3 (fun _ z => by cases z)) (fun _ z => by cases z), h4⟩
  · have h3 := n.dom a h
    have h4 := nl h3
    exact i33.bh.dom a (by rw [del_ne (fun z => h4 (Option.some.inj z).symm)]; exact e2.dom a h3)
end
/-! ### the law's call -/
theorem law_callG {P : Program} {w : World} {K : Fg} {mg mb : Str → Option Value} {k : Nat} {fa a : Addr} {fd : FuncData} {x : Str} {sp : Sp} {s₁ : Shared} {vs : List Value} {ns : List Int}
    (KX : K.In s₁.heap) (hns : s₁.heap.Ns mainGlobals mg) (hb : s₁.heap.Ns builtinsNs mb) (hbb : ∀ x : Str, x ≠ "__name__" → mb x = bootBuiltins x) (hlim : s₁.heap.NoLimit) (hg : s₁.gens = #[])
    (ha : s₁.heap.get? a = some { cls := .type "list", data := .seq vs.toArray }) (hi : IntsAre vs ns) (hl : ns.length ≤ sizeLine) (hr : Room k callerA)
    (F : ∀ base : Heap, K.In base → base.Ns mainGlobals mg → FnG P w K mg base k fa fd [x] sp) (hbind : ∀ (s : Shared) (u : Value), BindsTo s fd ⟨[u], []⟩ [(x, u)])
    (hsp : ∀ H : Hp, Only H → SqX K H a (ns.map V.int) → sp [.ref a] H (fun v _ => v = .bl true) E0) :
    codeAny (model P w) callerA (.call (.ref fa) ⟨[.ref a], []⟩) (fun r s' => r = .ok (.ret (.bool true)) ∧ OldK s₁.heap s'.heap ∧ s'.os = s₁.os ∧ AllBare s'.gens) s₁ := by
  have rv := vals_ints hi
  have lenV := hi.length
  have main : ∀ H : Hp, Only H → SqX K H a (ns.map V.int) → HOk P w H s₁.heap → (∀ b, H b ≠ none → b = a ∧ K.lookup a = none) →
      codeAny (model P w) callerA (.call (.ref fa) ⟨[.ref a], []⟩) (fun r s' => r = .ok (.ret (.bool true)) ∧ OldK s₁.heap s'.heap ∧ s'.os = s₁.os ∧ AllBare s'.gens) s₁ := by
    intro H hO hS hok hA
    have seen : ∀ {b : Addr} {o : Obj}, s₁.heap.get? b = some o → H b = none → (hidT s₁.heap H).get? b = some o := fun e n => hidT_get e n
    have free : ∀ {b : Addr} {o : Obj} {es : Array DictEntry} {ep : Nat}, s₁.heap.get? b = some o → o.data = .dict es ep → H b = none := fun {b o es ep} e d => by
      cases q : H b with
      | none => rfl
      | some u =>
        obtain ⟨z, _⟩ := hA b (nn q)
        subst z
        rw [ha] at e; cases e
        exact nomatch (show Data.seq vs.toArray _ = Data.dict es ep from d)
    have nsT : ∀ {b : Addr} {m : Str → Option Value}, s₁.heap.Ns b m → (hidT s₁.heap H).Ns b m := fun {b m} ⟨o, es, ep, e, d, r⟩ => ⟨o, es, ep, seen e (free e d), d, r⟩
    have hKb : K.In (hidT s₁.heap H) := fun b o e => seen (KX b o e) (by
      cases q : H b with
      | none => rfl
      | some u =>
        obtain ⟨z, z2⟩ := hA b (nn q)
        subst z
        rw [z2] at e; cases e)
    have hM : Mod K mg (hidT s₁.heap H) := ⟨hKb, nsT hns, ⟨mb, nsT hb, hbb⟩, let ⟨mc, h1, h2⟩ := hlim; ⟨mc, nsT h1, h2⟩⟩
    have e0 : Env0 P w K mg (hidT s₁.heap H) callerA [] s₁ H := ⟨rfl, hM, fun b o e => of_hidT e, Nat.le_of_eq (hidT_size _ _), trivial, fun b hb => absurd (show b ∈ ([] : List Addr) from hb) (by simp), hok, .of_eq hg⟩
    refine codeAny_mono ((F _ hKb (nsT hns)).run callerA [] s₁ H ⟨[.ref a], []⟩ [.ref a] [.ref a] _ _ hr rfl e0 (hbind s₁ (.ref a)) (.cons rfl .nil) (hsp H hO hS)) fun r s' h => ?_
    cases r with
    | error e => exact False.elim h
    | ok fl =>
      cases fl with
      | next => exact False.elim h
      | brk => exact False.elim h
      | cont => exact False.elim h
      | ret u =>
        obtain ⟨v, H', os, bare, un, hok', r', q⟩ := h
        have q' : v = .bl true := q
        subst q'
        obtain rfl : u = Value.bool true := r'
        refine ⟨rfl, OldK.of_keep fun b o e => ?_, os, bare⟩
        cases q : H b with
        | none => exact un.keep b o e q (by intro z; exact absurd (show b ∈ ([] : List Addr) from z) (by simp)) (by simp)
        | some u =>
          rcases hO b with z | ⟨ob, xs, z⟩
          · rw [q] at z; cases z
          · have z2 := un.frzs b ob _ z
            obtain ⟨e1, _⟩ := hok b _ z
            obtain ⟨e2, _⟩ := hok' b _ z2
            rw [e] at e1; cases e1
            exact e2
  cases hk : K.lookup a with
  | some o =>
    have e := KX a o hk
    rw [ha] at e
    cases e
    exact main (fun _ => none) (fun _ => .inl rfl) (.inr ⟨vs, _, hk, by rw [lenV]; exact hl, rv⟩) (fun b u z => nomatch (show (none : Option HO) = some u from z)) (fun b z => absurd rfl z)
  | none =>
    refine main (fun b => if b = a then some (.frz { cls := .type "list", data := .seq vs.toArray } (.lst (ns.map V.int))) else none) (fun b => ?_) (.inl (.inr ⟨{ cls := .type "list", data := .seq vs.toArray }, if_pos rfl⟩)) (fun b u z => ?_) (fun b z => ⟨?_, hk⟩)
    · by_cases hb : b = a
      · exact .inr ⟨_, _, if_pos hb⟩
      · exact .inl (if_neg hb)
    · by_cases hb : b = a
      · have z' := (if_pos hb).symm.trans z
        cases z'
        subst hb
        exact ⟨ha, by rw [List.length_map]; exact hl, vs, _, rv, ha⟩
      · have z' := (if_neg hb).symm.trans z
        cases z'
    · by_cases hb : b = a
      · exact hb
      · exact absurd (if_neg hb) z
/-- the promise of a law: every list of at most so many numbers is answered by True -/
def rLaw (n : Nat) (ds : List Dt) (d : Dt) : Prop := ∃ ns : List Int, ns.length ≤ n ∧ ds = [.list (ns.map PyData.int)] ∧ d = .bool true
theorem walkG {l : PySem.W.OpenLaw} {n k : Nat} {q : Program} {loose : List Str} {XP : (Str → Option Value) → Heap → Prop} {YP : World → Heap → Prop} {d : DefRec} {K : Params → PySem.W.Frag} {x : Str}
    (hn : l.most = some n) (hn2 : n ≤ sizeLine) (hdf : d.params.defaults = []) (hr : Room k callerA)
    (hY : ∀ (w : World) (h : Heap), YP w h → (K w.params).In h) (h0 : Tbl.ts = [])
    (F : ∀ (w : World) (mg : Str → Option Value) (fa : Addr) (h : Heap), (K w.params).In h → h.Ns mainGlobals mg → mg d.name = some (.ref fa) →
      ∃ fd : FuncData, (∀ (s : Shared) (u : Value), BindsTo s fd ⟨[u], []⟩ [(x, u)]) ∧
        ∀ base : Heap, (K w.params).In base → base.Ns mainGlobals mg → FnG l.prog w (K w.params) mg base k fa fd [x] (spD (K w.params) (rLaw n))) :
    PySem.W.WalkO q loose XP YP l.row.toRowW d [] (fun f vs => PySem.call f vs) := by
  refine Att.attach_call hn hdf fun w s₀ s₁ mg mb fa o pm cd doc a vs ns G Y ho hd hcd hmg hobj hints hlen hg => ?_
  have KX := hY w _ Y
  obtain ⟨fd, hb, hF⟩ := F w mg fa _ KX G.T.g hmg
  refine law_callG KX G.T.g G.T.b G.T.builtins G.T.nolimit hg hobj hints (Nat.le_trans hlen hn2) hr hF hb fun H hO hS => ?_
  exact ⟨H, [.list (ns.map PyData.int)], .bool true, ⟨Ex.refl H, by rw [h0]; exact fun p hp => (by cases hp), by rw [h0]; exact fun p hp => (by cases hp)⟩, .cons (.lst hS (dpAll_of_ints ns)) .nil, ⟨ns, hlen, rfl, rfl⟩, fun v G' H' _ _ _ hv => by cases hv; rfl⟩
end Dv
namespace Dv
open PySem PySem.Spec PyProof.Rows L2
variable [Tbl]
/-! ### what the top has written -/
structure Df (K : Fg) (x : Str) (st : Stmt) : Prop where
  ex : ∃ f fd, PySem.W.nsIn K mainGlobals x = some (some (.ref f)) ∧ PySem.W.keepIn K (.ref f) = true ∧ Fun K x x st f fd
theorem df_mk {K : Fg} {x : Str} {st : Stmt} {f : Addr} {od an : Option Addr} {sl : Array (Option Value)} {oc kV dc pm cd ct : Value} (a : PySem.W.nsIn K mainGlobals x = some (some (.ref f)))
    (l : K.lookup f = some ⟨oc, od, .func (PySem.W.fnOf x x (defArgs st) (defBody st) (defScope st) .none kV dc pm an cd ct), sl⟩) (c : PySem.W.codeIn K cd x = true) (k : PySem.W.keepIn K (.ref f) = true) : Df K x st := ⟨f, _, a, k, fun_mk (st := st) l c k⟩
theorem Df.cal {P : Program} {w : World} {K : Fg} {mg : Str → Option Value} {base h : Heap} {k : Nat} {x : Str} {ps : List Str} {st : Stmt} {sp : Sp} (D : Df K x st) (X : K.In h) (G : h.Ns mainGlobals mg)
    (hb : ∀ (kV doc pm : Value) (an : Option Addr) (cdv ct : Value) (us : List Value), us.length = ps.length → bindArgs (PySem.W.fnOf x x (defArgs st) (defBody st) (defScope st) .none kV doc pm an cdv ct) ⟨us, []⟩ = pure (ps.zip us))
    (F : ∀ f fd, Fun K x x st f fd → FnG P w K mg base k f fd ps sp) : Cal P w K mg base k x ps st sp := by
  obtain ⟨f, fd, a, hk, fn⟩ := D.ex
  exact ⟨f, fd, F f fd fn, PySem.W.mg_of X G a, hk, fn.binds hb, fn⟩
theorem Df.law {P : Program} {w : World} {K : Fg} {mg : Str → Option Value} {h : Heap} {k : Nat} {x y : Str} {st : Stmt} {sp : Sp} {fa : Addr} (D : Df K x st) (X : K.In h) (G : h.Ns mainGlobals mg) (hfa : mg x = some (.ref fa))
    (hb : ∀ (kV doc pm : Value) (an : Option Addr) (cdv ct : Value) (us : List Value), us.length = [y].length → bindArgs (PySem.W.fnOf x x (defArgs st) (defBody st) (defScope st) .none kV doc pm an cdv ct) ⟨us, []⟩ = pure ([y].zip us))
    (F : ∀ base f fd, K.In base → base.Ns mainGlobals mg → Fun K x x st f fd → FnG P w K mg base k f fd [y] sp) :
    ∃ fd : FuncData, (∀ (s : Shared) (u : Value), BindsTo s fd ⟨[u], []⟩ [(y, u)]) ∧ ∀ base : Heap, K.In base → base.Ns mainGlobals mg → FnG P w K mg base k fa fd [y] sp := by
  obtain ⟨f, fd, a, hk, fn⟩ := D.ex
  have e := hfa.symm.trans (PySem.W.mg_of X G a)
  cases e
  obtain ⟨oc, od, kV, doc, pm, an, cdv, ct, osl, e2, e3⟩ := id fn.ex
  exact ⟨fd, fun s u => by subst e2; exact .of_eq (hb kV doc pm an cdv ct [u] rfl), fun base hx hn => F base fa fd hx hn fn⟩
end Dv

set_option linter.all false
set_option maxRecDepth 100000
set_option maxHeartbeats 2000000
namespace Dv
open PySem PySem.Spec PyProof.Rows L2
variable [Tbl]
section
variable {X : Cx} {sts : List Stmt} {a b c e : Expr} {es fs : List Expr} {δ δ' : De} {o : Out} {d : Dt} {ds : List Dt} {pos p p2 lp q : Pos} {R : Dt → Prop} {N : De → Prop}
theorem pd_minL {ns : List Int} {m : Int} (hc : X.calm = true) (hm : X.mg "min" = none) (ha : PAD X [e] δ [.list (ns.map PyData.int)]) (h1 : m ∈ ns) (h2 : ∀ y ∈ ns, m ≤ y) (hg : Gl X "min" := by rfl) : PD X (.Call (.Name "min" p) [e] [] pos) δ (.int m) :=
  xd_cb (cr_min hc) hg hm (by decide +kernel) ha fun ds' e p B G H vs i3 hv Q q => by
    subst e
    obtain ⟨v, rfl, h⟩ := one_of hv
    cases h with
    | lst hs ha =>
      have e := dpAll_ints ha
      subst e
      refine ⟨_, ns, rfl, exl i3.gh hs, List.length_pos_of_mem h1, fun k k1 k2 => q _ _ G H rfl (.refl i3) ?_⟩
      have : k = m := Int.le_antisymm (k2 m h1) (h2 k k1)
      rw [this]; exact .int _
theorem pd_listRg {i j : Int} {p3 p4 : Pos} (hl : X.mg "list" = none) (hm : X.mg "range" = none) (ha : PD X a δ (.int i)) (hb : PD X b δ (.int j)) (ok : RgOk i j) (hc : X.calm = true := by rfl) (hg : Gl X "list" := by rfl) (hg2 : Gl X "range" := by rfl)
    (hs : starEach [a, b] X.env = (false, eval a X.env) :: starEach [b] X.env := by rfl) (hs2 : starEach [b] X.env = (false, eval b X.env) :: starEach [] X.env := by rfl) (hs3 : starEach [.Call (.Name "range" p3) [a, b] [] p4] X.env = (false, eval (.Call (.Name "range" p3) [a, b] [] p4) X.env) :: starEach [] X.env := by rfl) :
    PD X (.Call (.Name "list" p) [.Call (.Name "range" p3) [a, b] [] p4] [] pos) δ (.list (rngD i (j - i).toNat)) :=
  PE.imp (pe_listRg hc hg hl (prg_2 hg2 hm ha hb hs hs2 (by rw [hs2]; rfl)) hs3) fun σ H Q ⟨p, B, G, i3, en, q⟩ => two (U1 := fun x => x = .int i) (U2 := fun x => x = .int j) i3 en fun v w d1 d2 G' H' r1 r2 n i' h1 h2 => by
    subst r1; subst r2
    cases h1; cases h2
    refine ⟨i, j, rfl, rfl, ok, fun l hl => q _ _ _ _ rfl (n.trans (.new i' _ hl)) (.lst (.inl (.inl upd_same)) ?_)⟩
    have e1 : rgV i j = ((List.range (j - i).toNat).map fun k : Nat => i + (k : Int)).map V.int := by unfold rgV; rw [List.map_map]; rfl
    have e2 : rngD i (j - i).toNat = ((List.range (j - i).toNat).map fun k : Nat => i + (k : Int)).map PyData.int := by unfold rngD; rw [List.map_map]; rfl
    rw [e1, e2]
    exact dpAll_of_ints _
def tLenSetT (K : Fg) (ta : TE) : TE := fun σ H Q => ta σ H fun x H1 => ∃ (l : Addr) (ns : List Int), x = .ref l ∧ SqT K H1 l (ns.map V.int) ∧ ns.Nodup ∧ ns.length ≤ 1000 ∧ Q (.int (ns.length : Nat)) H1
theorem pe_lenSetT {ta : TE} (hg : Gl X "len") (hm : X.mg "len" = none) (hg2 : Gl X "set") (hm2 : X.mg "set" = none) (ha : PE X a ta) (hc : X.calm = true := by rfl)
    (na : starEach [a] X.env = (false, eval a X.env) :: starEach [] X.env := by rfl) : PE X (.Call (.Name "len" p) [.Call (.Name "set" p2) [a] [] q] [] pos) (tLenSetT X.K ta) := by
  refine ⟨fun pins s σ H Q I h => Call_ (ld_blt I hg hm PySem.boot_len (callWith_builtin1 (args_cons (Call_ (ld_blt I hg2 hm2 boot_set (callWith_type1 (args_cons (thn (ha.run pins s σ H _ I h) fun v s1 ⟨x, H1, I1, r1, q1⟩ => args_nil ?_) na) na rfl))) rfl) rfl rfl))⟩
  obtain ⟨l, ns, rfl, hq, hnd, hl, q1⟩ := q1
  cases r1
  obtain ⟨its, r, pl, hz⟩ := I1.tuple hq
  have hi : IntsAre its.toArray.toList ns := by
    have z : ∀ {ns : List Int} {us : List Value}, Vals (ns.map V.int) us → IntsAre us ns := fun {ns} => by
      induction ns with
      | nil => intro us h; cases h; exact .nil
      | cons n t ih =>
        intro us h
        cases h with
        | cons h1 h2 => obtain ⟨k, rfl⟩ := h1; exact .cons n k (ih h2)
    simpa using z r
  refine call_set_tupI ns (I1.ok.hd hc) (show s1.heap.IsTuple l its.toArray from pl) hi (by unfold scanBound; omega) fun h' tk c R1 hcn k => args_nil ?_
  obtain ⟨o, es, ep, t, ho, hex, hdt, g, nd, hm3, hb, hf, hn, _, _⟩ := R1
  have I2 : Inv X pins σ H1 { s1 with heap := h', toks := tk } := I1.kept k
  have pm : (es.toList.map keyOf).Perm ns := (List.perm_ext_iff_of_nodup nd hnd).mpr fun j => by rw [← hm3 j, decide_eq_true_eq]
  have sz : es.size = ns.length := by
    have := pm.length_eq
    rw [List.length_map, Array.length_toList] at this
    exact this
  exact call_len_set ho hex hdt hf (by rw [sz]; omega) ⟨.int ns.length, H1, I2.tok _, ⟨_, by rw [sz]⟩, q1⟩
theorem pd_lenSetT {ns : List Int} (hm : X.mg "len" = none) (hm2 : X.mg "set" = none) (ha : PD X a δ (.tuple (ns.map PyData.int))) (nd : ns.Nodup) (hl : ns.length ≤ 1000) (hc : X.calm = true := by rfl) (hg : Gl X "len" := by rfl) (hg2 : Gl X "set" := by rfl) (na : starEach [a] X.env = (false, eval a X.env) :: starEach [] X.env := by rfl) :
    PD X (.Call (.Name "len" p) [.Call (.Name "set" p2) [a] [] q] [] pos) δ (.int ((ns.length : Nat) : Int)) :=
  PE.imp (pe_lenSetT hg hm hg2 hm2 ha hc na) fun σ H Q ⟨p, B, G, i3, en, q⟩ => ⟨p, B, G, i3, en, fun v d G' H' r n hv => by
    subst r
    cases hv with
    | tup hs ha =>
      have e := dpAll_ints ha
      subst e
      exact ⟨_, ns, rfl, ex_t n.gh hs, nd, hl, q _ _ G' H' rfl n (.int _)⟩⟩
/-! ### new lists of the def's own -/
def rOw (K : Fg) (δ : De) (R : List Dt → Prop) : TE := fun σ H Q => ∃ p B G, I3 p B G H ∧ EnvD K p B G H σ δ ∧ ∀ l xs ds G' H', R ds → Nxt p G H G' H' → H l = none → G' l = none → p ≠ some l → H' l = some (.lst xs) → DzAll K G' xs ds → Q (.ref l) H'
def XO (X : Cx) (e : Expr) (δ : De) (R : List Dt → Prop) : Prop := PE X e (rOw X.K δ R)
theorem pot_ne {p : Option Addr} {B G H : Hp} {l : Addr} (i3 : I3 p B G H) (hl : H l = none) : p ≠ some l := fun z => by
  obtain ⟨_, _, _, _, h3, _⟩ := i3.pot l z
  rw [hl] at h3; cases h3
theorem xo_lst {S : List Dt → Prop} (h : XA X es δ S) (hS : ∀ ds, S ds → ds.length ≤ 100000) : XO X (.List es lp) δ S := PE.imp (pe_lst h.pa) fun σ H Q ⟨p, B, G, i3, en, q⟩ => ⟨p, B, G, i3, en, fun vs ds G' H' r n h' =>
  ⟨by rw [dpAll_length h']; exact Nat.le_trans (hS ds r) (by decide), fun l hl => by
    have i3' := i3.nxt n
    have h0 : H l = none := by
      cases z : H l with
      | none => rfl
      | some w => exact absurd hl (n.dom l (nn z))
    exact q l vs ds G' _ r (n.trans (.newH i3' (.lst vs) hl)) h0 (i3'.gh.free hl) (pot_ne i3' hl) upd_same h'⟩⟩
theorem xo_call {k : Nat} {y : Str} {ps : List Str} {st : Stmt} {R : List Dt → List Dt → Prop} {ds' : List Dt} {p3 : Pos} (C : Cal X.prog X.w X.K X.mg X.base k y ps st (spO X.K R)) (ha : PAD X (e :: es) δ ds') (hR : R ds' ds)
    (hr : Room k X.A := by first | assumption | (refine Room.mono (by assumption) ?_; decide)) (hgd : X.A.guards = some [] := by assumption) (hg : Gl X y := by rfl) (hpl : starEach es X.env = es.map fun e => (false, eval e X.env) := by rfl) (hdb : (y == ("__debug__" : Str)) = false := by decide) :
    XO X (.Call (.Name y p2) (e :: es) [] p3) δ (fun x => x = ds) := by
  obtain ⟨f, fd, F, hm, hk, hb, _⟩ := C.ex
  refine PE.imp (pe_g F hr hgd hg hm hk hb ha.pa hdb (by rw [hpl]; exact ha.pl) (back_plain hpl)) fun σ H Q ⟨p, B, G, i3, en, q⟩ => ⟨p, B, G, i3, en, fun vs dd G1 H1 r n hv => ?_⟩
  subst r
  have i31 := i3.nxt n
  refine ⟨G1, _, ds, ⟨i31.gh, i31.tz⟩, hv, hR, fun l xs G2 H2 st2 e2 g2 hl gl hl2 ha2 => ?_⟩
  have n2 : Nxt p G1 H1 G2 H2 := .ofExd i31 st2 e2 g2
  have h0 : H l = none := by
    cases z : H l with
    | none => rfl
    | some w => exact absurd hl (n.dom l (nn z))
  exact q l xs ds G2 H2 rfl (n.trans n2) h0 gl (pot_ne i31 hl) hl2 ha2
theorem sd_own (i : Nat) {x : Str} {S : List Dt → Prop} {pos' : Pos} (hN : X.N.Nodup) (he : XO X e δ S) (hR : ∀ ds, S ds → N (δ.set i (.own ds))) (hi : X.N[i]? = some x := by rfl) (hx : Loc X.env.scope x := by first | exact Or.inl rfl | exact Or.inr rfl)
    (hs : swapsWith e (some (.Name x pos')) pos.line X.env = pure false := by rfl) (hf : X.fn x = true ∨ X.env.scope.names.lookup x = some .local := by first | exact .inl rfl | exact .inr rfl | assumption) : SD X (.Assign [.Name x pos'] e pos) δ { o with nx := N } :=
  PS.imp (ps_set hN hi hx he hs hf) fun D σ H ⟨p, B, G, i3, en, q⟩ => ⟨p, B, G, i3, en, fun l xs ds G' H' r n h0 g pl hl ha => q.nx _ _ G' H' (hR ds r) (n.stepB i3) (i3.nxt n) (en.putOwn i3 n h0 g pl hl ha i)⟩
/-- x, y = a, b where b is a new list of the def's own -/
theorem sd_parO (i j : Nat) {x y : Str} {S : List Dt → Prop} {px py pt : Pos} {kt k2 pt2} (hN : X.N.Nodup) (hij : i ≠ j) (ha : XD X a δ R) (hb : XO X b δ S) (hS : ∀ d ds, R d → S ds → N ((δ.set i (.d d)).set j (.own ds))) (hc : X.calm = true := by rfl) (hi : X.N[i]? = some x := by rfl) (hj : X.N[j]? = some y := by rfl) (hx : X.env.scope.names.lookup x = some .local := by rfl) (hy : X.env.scope.names.lookup y = some .local := by rfl)
    (hw : swappedStores [.Tuple [.Name x px, .Name y py] kt pt] (.Tuple [a, b] k2 pt2) X.env = pure (some [x, y]) := by rfl) (hs : swapsWithSole [.Tuple [.Name x px, .Name y py] kt pt] (.Tuple [a, b] k2 pt2) pos.line X.env = pure false := by rfl)
    (h1 : starEach [a, b] X.env = (false, eval a X.env) :: starEach [b] X.env := by rfl) (h2 : starEach [b] X.env = (false, eval b X.env) :: starEach [] X.env := by rfl) :
    SD X (.Assign [.Tuple [.Name x px, .Name y py] kt pt] (.Tuple [a, b] k2 pt2) pos) δ { o with nx := N } :=
  PS.imp (ps_par hc hN hi hj hij hx hy (pa_cons ha (pa_cons hb pa_nil h2) h1) hw hs) fun D σ H ⟨p, B, G, i3, en, q⟩ => ⟨p, B, G, i3, en, fun v d G1 H1 r1 n1 hv => ⟨p, B, G1, i3.nxt n1, en.nxt n1, fun l xs ds G' H' r n h0 g pl hl ha => by
    refine ⟨v, .ref l, rfl, q.nx _ _ G' H' (hS d ds r1 r) ((n1.trans n).stepB i3) (i3.nxt (n1.trans n)) ?_⟩
    have e1 := (en.nxt n1).set (i := i) hv
    exact e1.putOwn (i3.nxt n1) n h0 g pl hl ha j⟩⟩
/-- an element of an own list -/
theorem pd_ownAt (i : Nat) {x : Str} {k : Int} {np : Pos} (hs : δ[i]? = some (.own ds) := by rfl) (hk : PD X b δ (.int k)) (h : atI ds k = some d) (hN : X.N[i]? = some x := by rfl) (hv : Vis X.env.scope x := by first | exact Or.inl rfl | exact Or.inr (Or.inl rfl) | exact Or.inr (Or.inr rfl)) (hd : (x == ("__debug__" : Str)) = false := by decide)
    (hcd : (x == ("__classdict__" : Str)) = false := by decide) (hp : PlainIx b := by exact fun _ _ => rfl) : PD X (.Subscript (.Name x np) b pos) δ d :=
  PE.imp (pe_ix ix_list (pe_var hN hv hd hcd) hk hp) fun σ H Q ⟨p, B, G, i3, en, q⟩ => by
    obtain ⟨o', h1, l, xs, rfl, h2, h3, h4, h5, h6⟩ := en.slot i _ hs
    refine ⟨_, h1, p, B, G, i3, en, fun v dd G' H' r n hv' => ?_⟩
    subst r
    cases hv'
    have h5' : H' l = some (.lst xs) := n.ex _ _ (by rw [del_ne h4]; exact h5) (fun _ z => by cases z)
    obtain ⟨w, e1, e2⟩ := atI_all h6 h
    exact ⟨l, xs, k, w, rfl, rfl, .inl (.inl h5'), e1, q w d G' H' rfl n (dp_ex n.st.1 _ _ e2)⟩
/-- an own list becomes data for good -/
theorem frz_ok {K : Fg} {p : Option Addr} {B G H : Hp} {σ : L2.St} {i : Nat} (i3 : I3 p B G H) (en : EnvD K p B G H σ δ) (hs : δ[i]? = some (.own ds)) : ∃ G', Step B G G' ∧ I3 p B G' H ∧ EnvD K p B G' H σ (δ.set i (.d (.list ds))) := by
  obtain ⟨o', h1, l, xs, rfl, h2, h3, h4, h5, h6⟩ := en.slot i _ hs
  have gx : Ex G (upd G l (.lst xs)) := Ex.new h3
  refine ⟨upd G l (.lst xs), ⟨gx, fun y h7 h8 => ?_⟩, ⟨i3.bh, (fun y u hu => ?_), (fun z hz => ?_), i3.tz.dat h5⟩, ?_⟩
  · have : y ≠ l := fun w => h7 (w ▸ h2)
    rw [upd_ne this]; exact h8
  · by_cases w : y = l
    · subst w; rw [upd_same] at hu; cases hu; exact h5
    · rw [upd_ne w] at hu; exact i3.gh y u hu
  · obtain ⟨a1, a2, a3⟩ := i3.pot z hz
    have : z ≠ l := fun w => h4 (by rw [hz, w])
    exact ⟨a1, by rw [upd_ne this]; exact a2, a3⟩
  · have hil : i < δ.length := (List.getElem?_eq_some_iff.mp hs).1
    refine ⟨by rw [List.length_set]; exact en.len, fun j f q => ?_, fun j k f g oj ok a hjk q1 q2 r1 r2 f1 f2 => ?_⟩
    · by_cases hj : i = j
      · subst hj
        rw [List.getElem?_set_self hil] at q
        cases q
        exact ⟨_, h1, .ref l, rfl, .lst (.inl (.inl upd_same)) (dpAll_ex gx _ _ h6)⟩
      · rw [List.getElem?_set_ne hj] at q
        obtain ⟨o2, b1, b2⟩ := en.slot j f q
        refine ⟨o2, b1, ?_⟩
        have away : ∀ a, Foot f o2 a → a ≠ l := fun a fa w => by
          subst w
          exact en.apart i j (.own ds) f _ o2 a hj hs q h1 b1 (.inl ⟨trivial, rfl⟩) fa
        cases f with
        | no => trivial
        | d y => obtain ⟨v, e1, e2⟩ := b2; exact ⟨v, e1, dp_ex gx _ _ e2⟩
        | pot => exact b2
        | fix v => exact b2
        | rng lo hi => exact b2
        | own es =>
          obtain ⟨l2, ys, c1, c2, c3, c4, c5, c6⟩ := b2
          exact ⟨l2, ys, c1, c2, by rw [upd_ne (away l2 (.inl ⟨trivial, c1⟩))]; exact c3, c4, c5, dpAll_ex gx _ _ c6⟩
        | own2 as dss =>
          obtain ⟨l2, c1, ⟨c2, c3, c4⟩, c5, c6, c7, c8⟩ := b2
          refine ⟨l2, c1, ⟨c2, by rw [upd_ne (away l2 (.inl ⟨trivial, c1⟩))]; exact c3, c4⟩, c5, c6, c7, fun n a es k1 k2 => ?_⟩
          obtain ⟨⟨m1, m2, m3⟩, xs, m4, m5⟩ := c8 n a es k1 k2
          exact ⟨⟨m1, by rw [upd_ne (away a (.inr (List.mem_of_getElem? k1)))]; exact m2, m3⟩, xs, m4, dpAll_ex gx _ _ m5⟩
    · have nj : i ≠ j := fun w => by subst w; rw [List.getElem?_set_self hil] at q1; cases q1; exact foot_d f1
      have nk : i ≠ k := fun w => by subst w; rw [List.getElem?_set_self hil] at q2; cases q2; exact foot_d f2
      rw [List.getElem?_set_ne nj] at q1
      rw [List.getElem?_set_ne nk] at q2
      exact en.apart j k f g oj ok a hjk q1 q2 r1 r2 f1 f2
theorem ss_frz (i : Nat) (hs : δ[i]? = some (.own ds)) (k : SsD X sts (δ.set i (.d (.list ds))) o) : SsD X sts δ o := PSs.imp k fun D σ H ⟨p, B, G, i3, en, q⟩ => by
  obtain ⟨G', s, i', e'⟩ := frz_ok i3 en hs
  exact ⟨p, B, G', i', e', q.step s⟩
/-- a test that reads an own list as data -/
theorem xt_frz (i : Nat) {R : Bool → Prop} (hs : δ[i]? = some (.own ds)) (k : XT X c (δ.set i (.d (.list ds))) R) : XT X c δ R := PT.imp k fun σ H Q ⟨p, B, G, i3, en, q⟩ => by
  obtain ⟨G', s, i', e'⟩ := frz_ok i3 en hs
  exact ⟨p, B, G', i', e', fun u G2 H2 r n => q u G H2 r ⟨.refl _ _, n.ex, fun a w h => n.gh a w (n.st.1 a w (s.1 a w h)), n.pot, n.dom, n.tb⟩⟩
/-- x.append(e), e drawn -/
theorem sd_app (i : Nat) {x : Str} {apos cpos np : Pos} (hs : δ[i]? = some (.own ds)) (he : XD X e δ R) (hR : ∀ d, R d → N (δ.set i (.own (ds ++ [d])))) (hz : ds.length < 100000) (hN : X.N[i]? = some x := by rfl)
    (hv : Vis X.env.scope x := by first | exact Or.inl rfl | exact Or.inr (Or.inl rfl) | exact Or.inr (Or.inr rfl)) (hd : (x == ("__debug__" : Str)) = false := by decide) (hcd : (x == ("__classdict__" : Str)) = false := by decide)
    (hbase : attributeBase (.Name x np) "append" X.env (eval (.Name x np) X.env) = eval (.Name x np) X.env := by rfl)
    (hfew : ((backTo cpos (starEach [e] X.env)).all (fun x => !x.1) && (backToKw cpos (keywordEach [] X.env)).all (fun x => x.1.isSome) && decide (([e] : List Expr).length + ([] : List Keyword).length + (if ([] : List Keyword).isEmpty then 0 else 1) < 30)) = true := by rfl)
    (hline : (apos.endLine == cpos.line) = true := by rfl) (hst : starEach [e] X.env = [(false, eval e X.env)] := by rfl) (hsw : swapsWith (.Call (.Attribute (.Name x np) "append" apos) [e] [] cpos) none pos.line X.env = pure false := by rfl) :
    SD X (.Expr (.Call (.Attribute (.Name x np) "append" apos) [e] [] cpos) pos) δ { o with nx := N } := by
  refine PS.imp (ps_expr (pe_bm PySem.F.plainAttrs_list PySem.F.slot_list_append PySem.F.type_list_append mt_append (pe_var hN hv hd hcd) (pa_cons he pa_nil (by rw [hst]; rfl)) hbase hfew hline hst rfl) hsw) fun D σ H ⟨p, B, G, i3, en, q⟩ => ?_
  obtain ⟨o', h1, l, xs, rfl, h2, h3, h4, h5, h6⟩ := en.slot i _ hs
  refine ⟨_, h1, .inl ⟨rfl, xs, .inl (.inl h5)⟩, p, B, G, i3, en, fun v d' G' H' r n hv' => ?_⟩
  have en' := en.nxt n
  have i3' := i3.nxt n
  have g' : G' l = none := n.st.2 l (nn h5) h3
  have h5' : H' l = some (.lst xs) := n.ex _ _ (by rw [del_ne h4]; exact h5) (fun _ z => by cases z)
  refine ⟨l, xs, v, rfl, rfl, h5', by rw [dpAll_length h6]; exact Nat.lt_of_lt_of_le hz (by decide), q.nx _ σ G' _ (hR d' r) (n.stepB i3) ⟨i3'.bh.mut h2 h5', i3'.gh.mut g', (fun z hz' => ?_), i3'.tz.mut h5'⟩ (en'.app hs h1 (dpAll_append (dpAll_ex n.st.1 _ _ h6) (.cons hv' .nil)))⟩
  obtain ⟨a1, a2, a3, a4, a5, a6⟩ := i3'.pot z hz'
  have : z ≠ l := fun w => h4 (by rw [hz', w])
  exact ⟨a1, a2, a3, a4, by rw [upd_ne this]; exact a5, a6⟩
theorem pd_neg {i : Int} (ha : PD X a δ (.int i)) : PD X (.UnaryOp .USub a pos) δ (.int (-i)) := PE.imp (pe_un un_neg ha) fun σ H Q ⟨p, B, G, i3, en, q⟩ => ⟨p, B, G, i3, en, fun v d G' H' r n hv => by
  subst r
  cases hv
  exact ⟨i, rfl, q _ _ G' H' rfl n (.int _)⟩⟩
end
end Dv

set_option linter.all false
set_option maxRecDepth 100000
set_option maxHeartbeats 4000000
namespace Dv
open PySem PySem.Spec PyProof.Rows L2
variable [Tbl]
/-! ### lists of the def's own in a list of the def's own -/
theorem dzAll_of_get {K : Fg} {G : Hp} : ∀ {xs : List V} {ds : List Dt}, xs.length = ds.length → (∀ (i : Nat) x d, xs[i]? = some x → ds[i]? = some d → Dz K G x d) → DzAll K G xs ds
  | [], [], _, _ => .nil
  | x :: xs, d :: ds, hl, h => .cons (h 0 x d rfl rfl) (dzAll_of_get (by simpa using hl) fun i y e h1 h2 => h (i + 1) y e (by simpa using h1) (by simpa using h2))
  | [], _ :: _, hl, _ => by simp at hl
  | _ :: _, [], hl, _ => by simp at hl
section
variable {X : Cx} {sts : List Stmt} {a b c e : Expr} {es fs : List Expr} {δ δ' : De} {o : Out} {d : Dt} {ds : List Dt} {dss : List (List Dt)} {as : List Addr} {pos p p2 lp lp2 q : Pos} {R : Dt → Prop} {N : De → Prop} {k : Int}
theorem back_none {p : Option Addr} {G H G' H' : Hp} {l : Addr} (n : Nxt p G H G' H') (h : H' l = none) : H l = none := by
  cases z : H l with
  | none => rfl
  | some w => exact absurd h (n.dom l (nn z))
/-- x = [[e, ..]] -/
theorem sd_new2 (i : Nat) {x : Str} {pos' : Pos} (hX : X.N.Nodup) (he : PAD X es δ ds) (hR : ∀ a, N (δ.set i (.own2 [a] [ds]))) (hz : ds.length ≤ 100000 := by first | decide | simp) (hi : X.N[i]? = some x := by rfl) (hx : Loc X.env.scope x := by first | exact Or.inl rfl | exact Or.inr rfl)
    (hs : swapsWith (.List [.List es lp2] lp) (some (.Name x pos')) pos.line X.env = pure false := by rfl) (hf : X.fn x = true ∨ X.env.scope.names.lookup x = some .local := by first | exact .inl rfl | exact .inr rfl | assumption)
    (h1 : starEach [.List es lp2] X.env = (false, eval (.List es lp2) X.env) :: starEach [] X.env := by rfl) : SD X (.Assign [.Name x pos'] (.List [.List es lp2] lp) pos) δ { o with nx := N } :=
  PS.imp (ps_set hX hi hx (pe_lst (pa_cons (pe_lst he.pa) pa_nil h1)) hs hf) fun D σ H ⟨p, B, G, i3, en, q⟩ => ⟨p, B, G, i3, en, fun vs dd G1 H1 r n hv => ⟨by rw [dpAll_length hv, r]; exact Nat.le_trans hz (by decide), fun a ha => ⟨by show 1 ≤ sizeLine; decide, fun l hl => by
    subst r
    have i31 := i3.nxt n
    have n2 := Nxt.newH i31 (.lst vs) ha
    have i32 := i31.nxt n2
    have n3 := Nxt.newH i32 (.lst [V.ref a]) hl
    have n12 := n.trans n2
    have n13 := n12.trans n3
    have a0 : H a = none := back_none n ha
    have l1 : H1 l = none := back_none n2 hl
    have l0 : H l = none := back_none n12 hl
    have al : a ≠ l := fun z => by subst z; rw [upd_same] at hl; cases hl
    refine q.nx _ _ G1 _ (hR a) (n13.stepB i3) (i3.nxt n13) (en.putNew n13 (en := .own2 [a] [dd]) ⟨l, rfl, ⟨i3.bh.free l0, i31.gh.free l1, pot_ne i3 l0⟩, upd_same, ?_, rfl, fun i x ds' k1 k2 => ?_⟩ fun x fx => ?_)
    · exact List.nodup_cons.mpr ⟨by simpa using fun z => al z.symm, List.nodup_cons.mpr ⟨by simp, List.nodup_nil⟩⟩
    · cases i with
      | zero =>
        simp at k1 k2
        subst k1; subst k2
        exact ⟨⟨i3.bh.free a0, i31.gh.free ha, pot_ne i3 a0⟩, vs, by rw [upd_ne al]; exact upd_same, hv⟩
      | succ i => simp at k1
    · rcases fx with ⟨_, z⟩ | z
      · cases z; exact l0
      · rcases List.mem_singleton.mp z with rfl; exact a0⟩⟩⟩
/-- x.append([]) -/
theorem sd_appNew (i : Nat) {x : Str} {apos cpos np : Pos} (hs : δ[i]? = some (.own2 as dss)) (hR : ∀ a, N (δ.set i (.own2 (as ++ [a]) (dss ++ [[]])))) (hz : as.length < 100000) (hN : X.N[i]? = some x := by rfl)
    (hv : Vis X.env.scope x := by first | exact Or.inl rfl | exact Or.inr (Or.inl rfl) | exact Or.inr (Or.inr rfl)) (hd : (x == ("__debug__" : Str)) = false := by decide) (hcd : (x == ("__classdict__" : Str)) = false := by decide)
    (hbase : attributeBase (.Name x np) "append" X.env (eval (.Name x np) X.env) = eval (.Name x np) X.env := by rfl)
    (hfew : ((backTo cpos (starEach [.List [] lp] X.env)).all (fun x => !x.1) && (backToKw cpos (keywordEach [] X.env)).all (fun x => x.1.isSome) && decide (([.List [] lp] : List Expr).length + ([] : List Keyword).length + (if ([] : List Keyword).isEmpty then 0 else 1) < 30)) = true := by rfl)
    (hline : (apos.endLine == cpos.line) = true := by rfl) (hst : starEach [.List [] lp] X.env = [(false, eval (.List [] lp) X.env)] := by rfl) (hsw : swapsWith (.Call (.Attribute (.Name x np) "append" apos) [.List [] lp] [] cpos) none pos.line X.env = pure false := by rfl) :
    SD X (.Expr (.Call (.Attribute (.Name x np) "append" apos) [.List [] lp] [] cpos) pos) δ { o with nx := N } := by
  refine PS.imp (ps_expr (pe_bm PySem.F.plainAttrs_list PySem.F.slot_list_append PySem.F.type_list_append mt_append (pe_var hN hv hd hcd) (pa_cons (pe_lst pa_nil) pa_nil (by rw [hst]; rfl)) hbase hfew hline hst rfl) hsw) fun D σ H ⟨p, B, G, i3, en, q⟩ => ?_
  obtain ⟨o', h1, l, rfl, ⟨f1, f2, f3⟩, h5, nd, ln, rows⟩ := en.slot i _ hs
  refine ⟨_, h1, .inl ⟨rfl, _, .inl (.inl h5)⟩, Nat.zero_le _, fun a ha => ?_⟩
  have n := Nxt.newH i3 (.lst []) ha
  have i3' := i3.nxt n
  have en' := en.nxt n
  have la : l ≠ a := fun z => by subst z; rw [ha] at h5; cases h5
  have h5' : upd H a (.lst []) l = some (.lst (as.map V.ref)) := by rw [upd_ne la]; exact h5
  have anew : a ∉ l :: as := fun z => by
    rcases List.mem_cons.mp z with z | z
    · exact la z.symm
    · obtain ⟨_, xs, hx⟩ := foot_of (K := X.K) (H := H) (e := .own2 as dss) (o := some (.ref l)) (a := a) ⟨l, rfl, ⟨f1, f2, f3⟩, h5, nd, ln, rows⟩ (.inr z)
      rw [ha] at hx; cases hx
  refine ⟨l, _, _, rfl, rfl, h5', by rw [List.length_map]; exact Nat.lt_of_lt_of_le hz (by decide), q.nx _ σ G _ (hR a) (n.stepB i3) ⟨i3'.bh.mut f1 h5', i3'.gh.mut f2, (fun z hz' => ?_), i3'.tz.mut h5'⟩ (en'.write2 (e' := .own2 (as ++ [a]) (dss ++ [[]])) hs h1 (fun y ny _ => upd_ne fun z => ny (.inl ⟨trivial, by rw [z]⟩)) ⟨l, rfl, ⟨f1, f2, f3⟩, ?_, ?_, ?_, fun j y ds k1 k2 => ?_⟩ fun y fy => ?_)⟩
  · obtain ⟨a1, a2, a3, a4, a5, a6⟩ := i3'.pot z hz'
    have : z ≠ l := fun w => f3 (by rw [hz', w])
    exact ⟨a1, a2, a3, a4, by rw [upd_ne this]; exact a5, a6⟩
  · rw [upd_same, List.map_append]; rfl
  · rw [← List.cons_append]
    exact List.nodup_append.mpr ⟨nd, List.nodup_cons.mpr ⟨by simp, List.nodup_nil⟩, fun x hx y hy z => by
      rcases List.mem_singleton.mp hy with rfl
      exact anew (z ▸ hx)⟩
  · rw [List.length_append, List.length_append, ln]; rfl
  · by_cases hj : j < as.length
    · rw [List.getElem?_append_left hj] at k1
      rw [List.getElem?_append_left (by rw [← ln]; exact hj)] at k2
      obtain ⟨m1, xs, m2, m3⟩ := rows j y ds k1 k2
      have ya : y ≠ a := fun z => anew (List.mem_cons_of_mem _ (z ▸ List.mem_of_getElem? k1))
      have yl : y ≠ l := fun z => (List.nodup_cons.mp nd).1 (z ▸ List.mem_of_getElem? k1)
      exact ⟨m1, xs, by rw [upd_ne yl, upd_ne ya]; exact m2, m3⟩
    · have hj2 : j = as.length := by
        have := (List.getElem?_eq_some_iff.mp k1).1
        rw [List.length_append] at this
        simp at this
        omega
      subst hj2
      rw [List.getElem?_concat_length] at k1
      rw [ln, List.getElem?_concat_length] at k2
      cases k1; cases k2
      exact ⟨⟨i3.bh.free ha, i3.gh.free ha, pot_ne i3 ha⟩, [], by rw [upd_ne (Ne.symm la)]; exact upd_same, .nil⟩
  · rcases fy with ⟨_, z⟩ | z
    · exact .inl (.inl ⟨trivial, z⟩)
    · rcases List.mem_append.mp z with z | z
      · exact .inl (.inr z)
      · rcases List.mem_singleton.mp z with rfl
        refine .inr fun j f oj hj q1 r1 fb => ?_
        obtain ⟨o2, e1, e2⟩ := en.slot j f q1
        rw [r1] at e1
        cases e1
        obtain ⟨_, xs, hx⟩ := foot_of e2 fb
        rw [ha] at hx; cases hx
/-- one row of the own lists is written -/
theorem EnvD.row {K : Fg} {p : Option Addr} {B G H : Hp} {σ : L2.St} (h : EnvD K p B G H σ δ) {i j : Nat} {l y : Addr} {ys : List V} {es : List Dt} (hs : δ[i]? = some (.own2 as dss)) (h1 : σ[i]? = some (some (.ref l))) (hy : as[j]? = some y) (ha : DzAll K G ys es) : EnvD K p B G (upd H y (.lst ys)) σ (δ.set i (.own2 as (dss.set j es))) := by
  obtain ⟨o, q1, l2, q2, fr, h5, nd, ln, rows⟩ := h.slot i _ hs
  rw [h1] at q1
  cases q1
  cases q2
  have yl : l ≠ y := fun z => (List.nodup_cons.mp nd).1 (z ▸ List.mem_of_getElem? hy)
  have hj : j < dss.length := by rw [← ln]; exact (List.getElem?_eq_some_iff.mp hy).1
  refine h.write hs h1 (fun a na => upd_ne fun z => na (.inr (z ▸ List.mem_of_getElem? hy))) (e' := .own2 as (dss.set j es)) ⟨l, rfl, fr, by rw [upd_ne yl]; exact h5, nd, by rw [List.length_set]; exact ln, fun n a ds k1 k2 => ?_⟩ fun a fa => fa
  by_cases hn : n = j
  · subst hn
    rw [hy] at k1
    cases k1
    rw [List.getElem?_set_self hj] at k2
    cases k2
    obtain ⟨m1, _⟩ := rows n y dss[n] hy (List.getElem?_eq_getElem hj)
    exact ⟨m1, ys, upd_same, ha⟩
  · rw [List.getElem?_set_ne (Ne.symm hn)] at k2
    obtain ⟨m1, xs, m2, m3⟩ := rows n a ds k1 k2
    have : a ≠ y := fun z => by
      subst z
      have nda := (List.nodup_cons.mp nd).2
      exact hn ((List.getElem?_inj (by exact (List.getElem?_eq_some_iff.mp k1).1) nda).mp (k1.trans hy.symm))
    exact ⟨m1, xs, by rw [upd_ne this]; exact m2, m3⟩
/-- x[k].append(e) -/
theorem sd_appRow (i j : Nat) {x : Str} {apos cpos np sp : Pos} (hs : δ[i]? = some (.own2 as dss)) (hk : PD X b δ (.int k)) (hj : ∀ α (ys : List α), ys.length = dss.length → ∃ y, atI ys k = some y ∧ ys[j]? = some y) (hds : dss[j]? = some ds) (he : PD X e δ d) (hR : N (δ.set i (.own2 as (dss.set j (ds ++ [d]))))) (hz : ds.length < 100000) (hN : X.N[i]? = some x := by rfl)
    (hv : Vis X.env.scope x := by first | exact Or.inl rfl | exact Or.inr (Or.inl rfl) | exact Or.inr (Or.inr rfl)) (hd : (x == ("__debug__" : Str)) = false := by decide) (hcd : (x == ("__classdict__" : Str)) = false := by decide) (hp : PlainIx b := by exact fun _ _ => rfl)
    (hbase : attributeBase (.Subscript (.Name x np) b sp) "append" X.env (eval (.Subscript (.Name x np) b sp) X.env) = eval (.Subscript (.Name x np) b sp) X.env := by rfl)
    (hfew : ((backTo cpos (starEach [e] X.env)).all (fun x => !x.1) && (backToKw cpos (keywordEach [] X.env)).all (fun x => x.1.isSome) && decide (([e] : List Expr).length + ([] : List Keyword).length + (if ([] : List Keyword).isEmpty then 0 else 1) < 30)) = true := by rfl)
    (hline : (apos.endLine == cpos.line) = true := by rfl) (hst : starEach [e] X.env = [(false, eval e X.env)] := by rfl) (hsw : swapsWith (.Call (.Attribute (.Subscript (.Name x np) b sp) "append" apos) [e] [] cpos) none pos.line X.env = pure false := by rfl) :
    SD X (.Expr (.Call (.Attribute (.Subscript (.Name x np) b sp) "append" apos) [e] [] cpos) pos) δ { o with nx := N } := by
  refine PS.imp (ps_expr (pe_bm PySem.F.plainAttrs_list PySem.F.slot_list_append PySem.F.type_list_append mt_append (pe_ix ix_list (pe_var hN hv hd hcd) hk hp) (pa_cons he pa_nil (by rw [hst]; rfl)) hbase hfew hline hst rfl) hsw) fun D σ H ⟨p, B, G, i3, en, q⟩ => ?_
  obtain ⟨o', h1, l, rfl, ⟨f1, f2, f3⟩, h5, nd, ln, rows⟩ := en.slot i _ hs
  refine ⟨_, h1, p, B, G, i3, en, fun w dk G1 H1 r1 n1 hw => ?_⟩
  subst r1
  cases hw
  have h51 : H1 l = some (.lst (as.map V.ref)) := n1.ex _ _ (by rw [del_ne f3]; exact h5) (fun _ z => by cases z)
  obtain ⟨yv, y1, y2⟩ := hj V (as.map V.ref) (by rw [List.length_map]; exact ln)
  rw [List.getElem?_map] at y2
  cases hy : as[j]? with
  | none => rw [hy] at y2; cases y2
  | some y =>
    rw [hy] at y2
    cases y2
    obtain ⟨⟨m1, m2, m3⟩, xs, m4, m5⟩ := rows j y ds hy hds
    have m41 : H1 y = some (.lst xs) := n1.ex _ _ (by rw [del_ne m3]; exact m4) (fun _ z => by cases z)
    have i31 := i3.nxt n1
    refine ⟨l, _, k, .ref y, rfl, rfl, .inl (.inl h51), y1, .inl ⟨rfl, xs, .inl (.inl m41)⟩, p, B, G1, i31, en.nxt n1, fun v d' G' H' r n2 hv' => ?_⟩
    subst r
    have n := n1.trans n2
    have i3' := i3.nxt n
    have en' := en.nxt n
    have g' : G' y = none := n.st.2 y (nn m4) m2
    have h5' : H' y = some (.lst xs) := n.ex _ _ (by rw [del_ne m3]; exact m4) (fun _ z => by cases z)
    refine ⟨y, xs, v, rfl, rfl, h5', by rw [dpAll_length m5]; exact Nat.lt_of_lt_of_le hz (by decide), q.nx _ σ G' _ hR (n.stepB i3) ⟨i3'.bh.mut m1 h5', i3'.gh.mut g', (fun z hz' => ?_), i3'.tz.mut h5'⟩ (en'.row hs h1 hy (dpAll_append (dpAll_ex n.st.1 _ _ m5) (.cons hv' .nil)))⟩
    obtain ⟨a1, a2, a3, a4, a5, a6⟩ := i3'.pot z hz'
    have : z ≠ y := fun w => m3 (by rw [hz', w])
    exact ⟨a1, a2, a3, a4, by rw [upd_ne this]; exact a5, a6⟩
/-- all of it becomes data for good -/
theorem frz2_ok {K : Fg} {p : Option Addr} {B G H : Hp} {σ : L2.St} {i : Nat} (i3 : I3 p B G H) (en : EnvD K p B G H σ δ) (hs : δ[i]? = some (.own2 as dss)) : ∃ G', Step B G G' ∧ I3 p B G' H ∧ EnvD K p B G' H σ (δ.set i (.d (.list (dss.map PyData.list)))) := by
  obtain ⟨o', h1, l, rfl, ⟨f1, f2, f3⟩, h5, nd, ln, rows⟩ := en.slot i _ hs
  have mine : ∀ a, a ∈ l :: as → Fr p B G a ∧ ∃ xs, H a = some (.lst xs) := fun a ha => foot_of (K := K) (H := H) (e := .own2 as dss) (o := some (.ref l)) ⟨l, rfl, ⟨f1, f2, f3⟩, h5, nd, ln, rows⟩ (by
    rcases List.mem_cons.mp ha with z | z
    · exact .inl ⟨trivial, by rw [z]⟩
    · exact .inr z)
  let G' : Hp := fun a => if a ∈ l :: as then H a else G a
  have gin : ∀ a, a ∈ l :: as → G' a = H a := fun a ha => if_pos ha
  have gout : ∀ a, a ∉ l :: as → G' a = G a := fun a ha => if_neg ha
  have gx : Ex G G' := fun a u ha => by
    by_cases z : a ∈ l :: as
    · rw [(mine a z).1.2.1] at ha; cases ha
    · rw [gout a z]; exact ha
  refine ⟨G', ⟨gx, fun y h7 h8 => ?_⟩, ⟨i3.bh, (fun y u hu => ?_), (fun z hz => ?_), ⟨i3.tz.h, fun q hq => by
    have : q.1 ∉ l :: as := fun w => by
      obtain ⟨_, xs, e⟩ := mine q.1 w
      obtain ⟨ps, e2, _⟩ := i3.tz.h q hq
      rw [e] at e2; cases e2
    rw [gout _ this]; exact i3.tz.g q hq⟩⟩, ?_⟩
  · by_cases z : y ∈ l :: as
    · exact absurd (mine y z).1.1 h7
    · rw [gout y z]; exact h8
  · by_cases z : y ∈ l :: as
    · rw [gin y z] at hu; exact hu
    · rw [gout y z] at hu; exact i3.gh y u hu
  · obtain ⟨a1, a2, a3⟩ := i3.pot z hz
    have : z ∉ l :: as := fun w => (mine z w).1.2.2 hz
    exact ⟨a1, by rw [gout z this]; exact a2, a3⟩
  · have hil : i < δ.length := (List.getElem?_eq_some_iff.mp hs).1
    have whole : Dz K G' (.ref l) (.list (dss.map PyData.list)) := .lst (xs := as.map V.ref) (.inl (.inl (by rw [gin l List.mem_cons_self]; exact h5))) (dzAll_of_get (by rw [List.length_map, List.length_map]; exact ln) fun n x dd k1 k2 => by
      rw [List.getElem?_map] at k1 k2
      cases z1 : as[n]? with
      | none => rw [z1] at k1; cases k1
      | some y =>
        cases z2 : dss[n]? with
        | none => rw [z2] at k2; cases k2
        | some es =>
          rw [z1] at k1; rw [z2] at k2
          cases k1; cases k2
          obtain ⟨_, xs, m4, m5⟩ := rows n y es z1 z2
          exact .lst (.inl (.inl (by rw [gin y (List.mem_cons_of_mem _ (List.mem_of_getElem? z1))]; exact m4))) (dpAll_ex gx _ _ m5))
    refine ⟨by rw [List.length_set]; exact en.len, fun j f q => ?_, fun j k f g oj ok a hjk q1 q2 r1 r2 f1 f2 => ?_⟩
    · by_cases hj : i = j
      · subst hj
        rw [List.getElem?_set_self hil] at q
        cases q
        exact ⟨_, h1, .ref l, rfl, whole⟩
      · rw [List.getElem?_set_ne hj] at q
        obtain ⟨o2, b1, b2⟩ := en.slot j f q
        refine ⟨o2, b1, ?_⟩
        have away : ∀ a, Foot f o2 a → a ∉ l :: as := fun a fa w => en.apart i j (.own2 as dss) f _ o2 a hj hs q h1 b1 (by
          rcases List.mem_cons.mp w with z | z
          · exact .inl ⟨trivial, by rw [z]⟩
          · exact .inr z) fa
        cases f with
        | no => trivial
        | d y => obtain ⟨v, e1, e2⟩ := b2; exact ⟨v, e1, dp_ex gx _ _ e2⟩
        | pot => exact b2
        | fix v => exact b2
        | rng lo hi => exact b2
        | own es =>
          obtain ⟨l2, ys, c1, c2, c3, c4, c5, c6⟩ := b2
          exact ⟨l2, ys, c1, c2, by rw [gout l2 (away l2 (.inl ⟨trivial, c1⟩))]; exact c3, c4, c5, dpAll_ex gx _ _ c6⟩
        | own2 as2 dss2 =>
          obtain ⟨l2, c1, ⟨c2, c3, c4⟩, c5, c6, c7, c8⟩ := b2
          refine ⟨l2, c1, ⟨c2, by rw [gout l2 (away l2 (.inl ⟨trivial, c1⟩))]; exact c3, c4⟩, c5, c6, c7, fun n a es k1 k2 => ?_⟩
          obtain ⟨⟨m1, m2, m3⟩, xs, m4, m5⟩ := c8 n a es k1 k2
          exact ⟨⟨m1, by rw [gout a (away a (.inr (List.mem_of_getElem? k1)))]; exact m2, m3⟩, xs, m4, dpAll_ex gx _ _ m5⟩
    · have nj : i ≠ j := fun w => by subst w; rw [List.getElem?_set_self hil] at q1; cases q1; exact foot_d f1
      have nk : i ≠ k := fun w => by subst w; rw [List.getElem?_set_self hil] at q2; cases q2; exact foot_d f2
      rw [List.getElem?_set_ne nj] at q1
      rw [List.getElem?_set_ne nk] at q2
      exact en.apart j k f g oj ok a hjk q1 q2 r1 r2 f1 f2
theorem ss_frz2 (i : Nat) (hs : δ[i]? = some (.own2 as dss)) (k : SsD X sts (δ.set i (.d (.list (dss.map PyData.list)))) o) : SsD X sts δ o := PSs.imp k fun D σ H ⟨p, B, G, i3, en, q⟩ => by
  obtain ⟨G', s, i', e'⟩ := frz2_ok i3 en hs
  exact ⟨p, B, G', i', e', q.step s⟩
end
end Dv

set_option linter.all false
set_option maxRecDepth 100000
set_option maxHeartbeats 4000000
namespace Dv
open PySem PySem.Spec PyProof.Rows L2
variable [Tbl]
/-! ### a comprehension of new lists -/
def rOw2 (K : Fg) (δ : De) (R : List (List Dt) → Prop) : TE := fun σ H Q => ∃ p B G, I3 p B G H ∧ EnvD K p B G H σ δ ∧ ∀ l as dss G' H', R dss → Nxt p G H G' H' → (∀ a ∈ l :: as, H a = none) → Slot K p B G' H' (.own2 as dss) (some (.ref l)) → Q (.ref l) H'
def XO2 (X : Cx) (e : Expr) (δ : De) (R : List (List Dt) → Prop) : Prop := PE X e (rOw2 X.K δ R)
structure Lc2 (X : Cx) (elt tg iter : Expr) (scope : Scope) (δ : De) (R : List (List Dt) → Prop) : Prop where
  ex : ∃ (own : List (Str × Nat)) (wi : TI) (g : TG) (tt : TT) (te : TE), PI X tg iter wi ∧ BlkOk X.N X.env.scope scope own ∧ (∀ s H C cl fp, PG (bX X scope s H C cl fp) tg g) ∧ (∀ s H C cl fp, PTs (bX X scope s H C cl fp) [] tt) ∧ (∀ s H C cl fp, PE (bX X scope s H C cl fp) elt te) ∧
    ∀ σ H Q, rOw2 X.K δ R σ H Q → tLc wi g tt te (own.map (·.2)) σ H Q
section
variable {X : Cx} {elt tg iter : Expr} {scope : Scope} {own : List (Str × Nat)} {pos : Pos} {δ : De} {es : List Dt}
/-- behind i turns -/
structure Mk2 (K : Fg) (p : Option Addr) (B G1 H1 : Hp) (Dl : Addr) (F : Nat → List Dt) (i : Nat) (G' H' : Hp) (as : List Addr) : Prop where
  nx : Nxt p G1 H1 G' H'
  gd : G' Dl = none
  hd : H' Dl = some (.lst (as.map V.ref))
  ln : as.length = i
  new : ∀ a ∈ as, H1 a = none
  nd : (Dl :: as).Nodup
  rows : ∀ (j : Nat) a, as[j]? = some a → Fr p B G' a ∧ ∃ xs, H' a = some (.lst xs) ∧ DzAll K G' xs (F j)
theorem lc2_of (hi : ID X tg iter δ es) (ok : BlkOk X.N X.env.scope scope own) (hl : es.length ≤ 100000) (F : Nat → List Dt) (δt : Dt → De)
    (hg : ∀ s H C cl fp (i : Nat) d, es[i]? = some d → TgD (bX X scope s H C cl fp) tg (own.map (·.2)) d (wipeD δ (own.map (·.2))) (δt d))
    (he : ∀ s H C cl fp (i : Nat) d, es[i]? = some d → XO (bX X scope s H C cl fp) elt (δt d) fun y => y = F i) : Lc2 X elt tg iter scope δ (fun dss => dss = (List.range es.length).map F) := by
  have pg : ∀ s H C cl fp, PG (bX X scope s H C cl fp) tg (fun v σ H Q => ∃ (i : Nat), ∃ d, es[i]? = some d ∧ rG X.K (own.map (·.2)) d (wipeD δ (own.map (·.2))) (δt d) v σ H Q) := fun s H C cl fp =>
    ⟨fun pins s1 σ H1 v u Q I r ⟨i, d, b, q⟩ => (hg s H C cl fp i d b).run pins s1 σ H1 v u Q I r q⟩
  have pe : ∀ s H C cl fp, PE (bX X scope s H C cl fp) elt (fun σ H Q => ∃ (i : Nat), ∃ d, es[i]? = some d ∧ rOw X.K (δt d) (fun y => y = F i) σ H Q) := fun s H C cl fp =>
    ⟨fun pins s1 σ H1 Q I ⟨i, d, b, q⟩ => (he s H C cl fp i d b).run pins s1 σ H1 Q I q⟩
  refine ⟨own, _, _, _, _, hi, ok, pg, fun _ _ _ _ _ => pts_nil, pe, fun σ H Q ⟨p, B, G, i3, en, q⟩ => ⟨p, B, G, i3, en, fun J ds G1 H1 s n yl Dl hD => ?_⟩⟩
  rw [show ds = es from s] at yl
  have i31 := i3.nxt n
  have en1 := en.nxt n
  have gD : G1 Dl = none := i31.gh.free hD
  have pD : p ≠ some Dl := pot_ne i31 hD
  refine ⟨fun i m H' => m = es.length - i ∧ i ≤ es.length ∧ ∃ G' as, Mk2 X.K p B G1 H1 Dl F i G' H' as, ⟨_, rfl, Nat.zero_le _, G1, [], .newH i31 _ hD, gD, upd_same, rfl, by simp, List.nodup_cons.mpr ⟨by simp, List.nodup_nil⟩, fun j a k => by simp at k⟩, ?_⟩
  rintro i m H' ⟨em, hle, G', as, M⟩
  have i3' := i31.nxt M.nx
  by_cases hlt : i < es.length
  · obtain ⟨go, yd⟩ := (yl p B G' H' M.nx.st.1 i3' i).1 hlt
    refine .inr ⟨go, fun H'' => ∃ G'' as, Mk2 X.K p B G1 H1 Dl F (i + 1) G'' H'' as, fun H'' k => ⟨_, by omega, rfl, by omega, k⟩, fun x H2 hy => ?_⟩
    obtain ⟨G2, d, e2, n2, hx⟩ := yd x H2 hy
    have n12 := M.nx.trans n2
    have hd2 : H2 Dl = some (.lst (as.map V.ref)) := n2.ex Dl _ (by rw [del_ne pD]; exact M.hd) (fun _ z => by cases z)
    refine ⟨i, d, e2, p, B, G2, i31.nxt n12, (en1.nxt n12).wipes _, hx, fun σ2 en2 ⟨ks', ks⟩ => ⟨?_, iteT (B := ∃ G'' as, Mk2 X.K p B G1 H1 Dl F (i + 1) G'' H2 as) ⟨i, d, e2, p, B, G2, i31.nxt n12, en2, fun l xs dl G4 H4 ry n4 h0 g4 p4 hl4 ha4 => ?_⟩⟩⟩
    · refine wipe_same ?_ ks
      rw [ks', wipe_length]
    · subst ry
      have n14 := n12.trans n4
      have i34 := i31.nxt n14
      have gd4 : G4 Dl = none := n4.st.2 Dl (nn hd2) (n2.st.2 Dl (nn M.hd) M.gd)
      have hd4 : H4 Dl = some (.lst (as.map V.ref)) := n4.ex Dl _ (by rw [del_ne pD]; exact hd2) (fun _ z => by cases z)
      have lD : l ≠ Dl := fun z => by subst z; rw [h0] at hd2; cases hd2
      have l1 : H1 l = none := back_none n12 h0
      have rows4 : ∀ (j : Nat) a, as[j]? = some a → a ≠ l ∧ a ≠ Dl ∧ Fr p B G4 a ∧ ∃ xs, H4 a = some (.lst xs) ∧ DzAll X.K G4 xs (F j) := fun j a k => by
        obtain ⟨⟨m1, m2, m3⟩, xs, m4, m5⟩ := M.rows j a k
        have h2 : H2 a = some (.lst xs) := n2.ex a _ (by rw [del_ne m3]; exact m4) (fun _ z => by cases z)
        have h4 : H4 a = some (.lst xs) := n4.ex a _ (by rw [del_ne m3]; exact h2) (fun _ z => by cases z)
        exact ⟨(fun z => by subst z; rw [h0] at h2; cases h2), fun z => (List.nodup_cons.mp M.nd).1 (z ▸ List.mem_of_getElem? k), ⟨m1, n4.st.2 a (nn h2) (n2.st.2 a (nn m4) m2), m3⟩, xs, h4, dpAll_ex (n2.st.1.trans n4.st.1) _ _ m5⟩
      refine ⟨as.map V.ref, hd4, ?_, G4, as ++ [l], n14.put hD gd4 hd4 pD, gd4, by rw [upd_same, List.map_append]; rfl, by rw [List.length_append, M.ln]; rfl, fun a ha => ?_, ?_, fun j a k => ?_⟩
      · rw [List.length_map, M.ln]
        exact Nat.lt_of_le_of_lt (Nat.le_trans hle hl) (by decide)
      · rcases List.mem_append.mp ha with z | z
        · exact M.new a z
        · rw [List.mem_singleton.mp z]; exact l1
      · rw [← List.cons_append]
        refine List.nodup_append.mpr ⟨M.nd, List.nodup_cons.mpr ⟨by simp, List.nodup_nil⟩, fun x hx y hy z => ?_⟩
        rw [List.mem_singleton.mp hy] at z
        rcases List.mem_cons.mp hx with w | w
        · exact lD (by rw [← z, w])
        · obtain ⟨j, hj, ej⟩ := List.getElem_of_mem w
          exact (rows4 j x (by rw [← ej]; exact List.getElem?_eq_getElem hj)).1 z
      · by_cases hj : j < as.length
        · rw [List.getElem?_append_left hj] at k
          obtain ⟨_, k2, k3, xs', k4, k5⟩ := rows4 j a k
          exact ⟨k3, xs', by rw [upd_ne k2]; exact k4, k5⟩
        · have hj2 : j = as.length := by
            have := (List.getElem?_eq_some_iff.mp k).1
            rw [List.length_append] at this
            simp at this
            omega
          subst hj2
          rw [List.getElem?_concat_length] at k
          cases k
          rw [M.ln]
          exact ⟨⟨i31.bh.free l1, g4, p4⟩, xs, by rw [upd_ne lD]; exact hl4, ha4⟩
  · have e : i = es.length := by omega
    subst e
    have n' := n.trans M.nx
    refine .inl ⟨(yl p B G' H' M.nx.st.1 i3' _).2 rfl, q Dl as _ G' H' rfl n' (fun a ha => ?_) ⟨Dl, rfl, ⟨i31.bh.free hD, M.gd, pD⟩, M.hd, M.nd, by rw [List.length_map, List.length_range]; exact M.ln, fun j a ds k1 k2 => ?_⟩⟩
    · refine back_none n ?_
      rcases List.mem_cons.mp ha with z | z
      · rw [z]; exact hD
      · exact M.new a z
    · rw [List.getElem?_map] at k2
      have hj : j < es.length := by rw [← M.ln]; exact (List.getElem?_eq_some_iff.mp k1).1
      rw [List.getElem?_range hj] at k2
      cases k2
      exact M.rows j a k1
theorem Lc2.xo {R : List (List Dt) → Prop} (h : Lc2 X elt tg iter scope δ R) (hN : X.N.Nodup) (hc : X.calm = true := by rfl) (hs : ∀ x, foldedSetIterable iter X.env x = pure x := by intro _; rfl) : XO2 X (.ListComp elt [⟨tg, iter, [], 0⟩] scope pos) δ R := by
  obtain ⟨own, wi, g, tt, te, a1, a2, a3, a4, a5, a6⟩ := h.ex
  exact PE.imp (pe_lc hc hN a1 a2 a3 a4 a5 hs) a6
theorem put2 {K : Fg} {p : Option Addr} {B G H G' H' : Hp} {σ : L2.St} {l : Addr} {as : List Addr} {dss : List (List Dt)} (en : EnvD K p B G H σ δ) (n : Nxt p G H G' H') (h0 : ∀ a ∈ l :: as, H a = none) (s : Slot K p B G' H' (.own2 as dss) (some (.ref l))) (i : Nat) : EnvD K p B G' H' (σ.set i (some (.ref l))) (δ.set i (.own2 as dss)) :=
  en.putNew n s fun a fa => by
    rcases fa with ⟨_, z⟩ | z
    · cases z; exact h0 _ List.mem_cons_self
    · exact h0 a (List.mem_cons_of_mem _ z)
/-- y = [[..] for ..] on one line -/
theorem sd_lc2 (i : Nat) {y : Str} {py spos : Pos} {R : List (List Dt) → Prop} {o : Out} {N : De → Prop} (hN : X.N.Nodup) (h : Lc2 X elt tg iter scope δ R) (hR : ∀ as dss, R dss → N (δ.set i (.own2 as dss))) (hy : X.N[i]? = some y := by rfl) (hyl : X.env.scope.names.lookup y = some .local := by rfl)
    (hsw : swapsWith (.ListComp elt [⟨tg, iter, [], 0⟩] scope pos) (some (.Name y py)) spos.line X.env = pure true := by exact sw_true rfl rfl rfl (by decide +kernel)) (hc : X.calm = true := by rfl) (hs : ∀ x, foldedSetIterable iter X.env x = pure x := by intro _; rfl) :
    SD X (.Assign [.Name y py] (.ListComp elt [⟨tg, iter, [], 0⟩] scope pos) spos) δ { o with nx := N } := by
  obtain ⟨own, wi, g, tt, te, a1, a2, a3, a4, a5, a6⟩ := h.ex
  exact PS.imp (ps_setLc hc hN hy hyl hsw a1 a2 a3 a4 a5 hs) fun D σ H ⟨p, B, G, i3, en, q⟩ => a6 σ H _ ⟨p, B, G, i3, en, fun l as dss G' H' r n h0 s => q.nx _ _ G' H' (hR as dss r) (n.stepB i3) (i3.nxt n) (put2 en n h0 s i)⟩
end
section
variable {X : Cx} {sts : List Stmt} {a b c e e1 e2 e3 : Expr} {δ : De} {o : Out} {d : Dt} {ds : List Dt} {dss : List (List Dt)} {as : List Addr} {pos p sp np : Pos} {R S : Dt → Prop} {N : De → Prop} {k j : Int}
/-- x[a][b] -/
theorem pd_own2At (i m : Nat) {x : Str} (hs : δ[i]? = some (.own2 as dss) := by rfl) (ha : PD X a δ (.int k)) (hb : PD X b δ (.int j)) (hk : ∀ α (ys : List α), ys.length = dss.length → ∃ y, atI ys k = some y ∧ ys[m]? = some y) (hm : dss[m]? = some ds) (h : atI ds j = some d) (hN : X.N[i]? = some x := by rfl) (hv : Vis X.env.scope x := by first | exact Or.inl rfl | exact Or.inr (Or.inl rfl) | exact Or.inr (Or.inr rfl)) (hd : (x == ("__debug__" : Str)) = false := by decide)
    (hcd : (x == ("__classdict__" : Str)) = false := by decide) (hp : PlainIx a := by exact fun _ _ => rfl) (hp2 : PlainIx b := by exact fun _ _ => rfl) : PD X (.Subscript (.Subscript (.Name x np) a sp) b pos) δ d :=
  PE.imp (pe_ix ix_list (pe_ix ix_list (pe_var hN hv hd hcd) ha hp) hb hp2) fun σ H Q ⟨p, B, G, i3, en, q⟩ => by
    obtain ⟨o', h1, l, rfl, ⟨f1, f2, f3⟩, h5, nd, ln, rows⟩ := en.slot i _ hs
    refine ⟨_, h1, p, B, G, i3, en, fun v dd G1 H1 r1 n1 hv1 => ?_⟩
    subst r1
    cases hv1
    obtain ⟨yv, y1, y2⟩ := hk V (as.map V.ref) (by rw [List.length_map]; exact ln)
    rw [List.getElem?_map] at y2
    cases hy : as[m]? with
    | none => rw [hy] at y2; cases y2
    | some y =>
      rw [hy] at y2
      cases y2
      obtain ⟨⟨m1, m2, m3⟩, xs, m4, m5⟩ := rows m y ds hy hm
      have h51 : H1 l = some (.lst (as.map V.ref)) := n1.ex _ _ (by rw [del_ne f3]; exact h5) (fun _ z => by cases z)
      refine ⟨l, _, k, .ref y, rfl, rfl, .inl (.inl h51), y1, p, B, G1, i3.nxt n1, en.nxt n1, fun w d2 G2 H2 r2 n2 hv2 => ?_⟩
      subst r2
      cases hv2
      have n := n1.trans n2
      have h42 : H2 y = some (.lst xs) := n.ex _ _ (by rw [del_ne m3]; exact m4) (fun _ z => by cases z)
      obtain ⟨u, u1, u2⟩ := atI_all m5 h
      exact ⟨y, xs, j, u, rfl, rfl, .inl (.inl h42), u1, q u d G2 H2 rfl n (dp_ex n.st.1 _ _ u2)⟩
end
end Dv

set_option linter.all false
set_option maxRecDepth 100000
set_option maxHeartbeats 4000000
namespace Dv
open PySem PySem.Spec PyProof.Rows L2
variable [Tbl]
/-! ### targets that write into rows -/
def rGX (K : Fg) (d : Dt) (δ δ' : De) : TG := fun v σ H Q => ∃ p B G, I3 p B G H ∧ EnvD K p B G H σ δ ∧ Dz K G v d ∧ ∀ σ' G' H', Step B G G' → I3 p B G' H' → EnvD K p B G' H' σ' δ' → Q σ' H'
def rGXs (K : Fg) (ds : List Dt) (δ δ' : De) : TGs := fun vs σ H Q => ∃ p B G, I3 p B G H ∧ EnvD K p B G H σ δ ∧ DzAll K G vs ds ∧ ∀ σ' G' H', Step B G G' → I3 p B G' H' → EnvD K p B G' H' σ' δ' → Q σ' H'
def TgX (X : Cx) (tg : Expr) (d : Dt) (δ δ' : De) : Prop := PG X tg (rGX X.K d δ δ')
def TgsX (X : Cx) (tg : List Expr) (ds : List Dt) (δ δ' : De) : Prop := PGs X tg (rGXs X.K ds δ δ')
section
variable {X : Cx} {sts : List Stmt} {a b c e : Expr} {δ δ' δ1 δ2 : De} {o : Out} {d : Dt} {ds es : List Dt} {dss : List (List Dt)} {as : List Addr} {pos p sp np : Pos} {k j : Int}
theorem tx_name (i : Nat) {x : Str} (hN : X.N.Nodup) (hi : X.N[i]? = some x := by rfl) (hx : Loc X.env.scope x := by first | exact Or.inl rfl | exact Or.inr rfl) (hf : X.fn x = true ∨ X.env.scope.names.lookup x = some .local := by first | exact .inl rfl | exact .inr rfl | assumption) : TgX X (.Name x pos) d δ (δ.set i (.d d)) :=
  PG.imp (pg_name hN hi hx hf) fun v σ H Q ⟨p, B, G, i3, en, hv, q⟩ => q _ G H (.refl _ _) i3 (en.set hv)
/-- x[a][b] = v -/
theorem tx_row (i m jj : Nat) {x : Str} (hs : δ[i]? = some (.own2 as dss)) (ha : PD X a δ (.int k)) (hb : PD X b δ (.int j)) (hk : ∀ α (ys : List α), ys.length = dss.length → ∃ y, atI ys k = some y ∧ ys[m]? = some y) (hm : dss[m]? = some ds) (hj : ixN ds.length j = some jj) (hN : X.N[i]? = some x := by rfl) (hv : Vis X.env.scope x := by first | exact Or.inl rfl | exact Or.inr (Or.inl rfl) | exact Or.inr (Or.inr rfl)) (hd : (x == ("__debug__" : Str)) = false := by decide)
    (hcd : (x == ("__classdict__" : Str)) = false := by decide) (hp : PlainIx a := by exact fun _ _ => rfl)
    (hasg : ∀ v, assign (.Subscript (.Subscript (.Name x np) a sp) b pos) X.env v = (do
      let ov ← holding [v] (eval (.Subscript (.Name x np) a sp) X.env)
      let iv ← holding [v, ov] (eval b X.env)
      standAt pos
      holding [v, ov, iv] (setItem ov iv v)
      release [v, ov, iv] []) := by intro _; rfl) : TgX X (.Subscript (.Subscript (.Name x np) a sp) b pos) d δ (δ.set i (.own2 as (dss.set m (ds.set jj d)))) :=
  PG.imp (pg_sub (pe_ix ix_list (pe_var hN hv hd hcd) ha hp) hb set_list hasg) fun v σ H Q ⟨p, B, G, i3, en, hv', q⟩ => by
    obtain ⟨o', h1, l, rfl, ⟨f1, f2, f3⟩, h5, nd, ln, rows⟩ := en.slot i _ hs
    refine ⟨_, h1, p, B, G, i3, en, fun u dd G1 H1 r1 n1 hv1 => ?_⟩
    subst r1
    cases hv1
    obtain ⟨yv, y1, y2⟩ := hk V (as.map V.ref) (by rw [List.length_map]; exact ln)
    rw [List.getElem?_map] at y2
    cases hy : as[m]? with
    | none => rw [hy] at y2; cases y2
    | some y =>
      rw [hy] at y2
      cases y2
      obtain ⟨⟨m1, m2, m3⟩, xs, m4, m5⟩ := rows m y ds hy hm
      have h51 : H1 l = some (.lst (as.map V.ref)) := n1.ex _ _ (by rw [del_ne f3]; exact h5) (fun _ z => by cases z)
      refine ⟨l, _, k, .ref y, rfl, rfl, .inl (.inl h51), y1, p, B, G1, i3.nxt n1, en.nxt n1, fun w d2 G2 H2 r2 n2 hv2 => ?_⟩
      subst r2
      cases hv2
      have n := n1.trans n2
      have i32 := i3.nxt n
      have h42 : H2 y = some (.lst xs) := n.ex _ _ (by rw [del_ne m3]; exact m4) (fun _ z => by cases z)
      have g2 : G2 y = none := n.st.2 y (nn m4) m2
      have m52 := dpAll_ex n.st.1 _ _ m5
      have hset : DzAll X.K G2 (xs.set jj v) (ds.set jj d) := dzAll_of_get (by rw [List.length_set, List.length_set]; exact dpAll_length m5) fun t x' d' k1 k2 => by
        by_cases ht : jj = t
        · subst ht
          have hl : jj < xs.length := by have := (List.getElem?_eq_some_iff.mp k1).1; rwa [List.length_set] at this
          have hl2 : jj < ds.length := by have := (List.getElem?_eq_some_iff.mp k2).1; rwa [List.length_set] at this
          rw [List.getElem?_set_self hl] at k1
          rw [List.getElem?_set_self hl2] at k2
          cases k1; cases k2
          exact dp_ex n.st.1 _ _ hv'
        · rw [List.getElem?_set_ne ht] at k1 k2
          obtain ⟨d3, e1, e2⟩ := dpAll_get' m52 k1
          rw [e1] at k2
          cases k2
          exact e2
      refine ⟨y, xs, j, jj, rfl, rfl, h42, by rw [dpAll_length m5]; exact hj, q σ G2 _ (n.stepB i3) ⟨i32.bh.mut m1 h42, i32.gh.mut g2, (fun z hz => ?_), i32.tz.mut h42⟩ ((en.nxt n).row hs h1 hy hset)⟩
      obtain ⟨a1, a2, a3, a4, a5, a6⟩ := i32.pot z hz
      have : z ≠ y := fun w => m3 (by rw [hz, w])
      exact ⟨a1, a2, a3, a4, by rw [upd_ne this]; exact a5, a6⟩
theorem txs_nil : TgsX X [] [] δ δ := PGs.imp pgs_nil fun v σ H Q ⟨p, B, G, i3, en, hv, q⟩ => by
  cases hv
  exact ⟨rfl, q σ G H (.refl _ _) i3 en⟩
theorem txs_cons {e : Expr} {es : List Expr} (h1 : TgX X e d δ δ1) (h2 : TgsX X es ds δ1 δ2) (hs : (assignEach (e :: es) X.env).map (·.2) = assign e X.env :: (assignEach es X.env).map (·.2) := by rfl) : TgsX X (e :: es) (d :: ds) δ δ2 :=
  PGs.imp (pgs_cons h1 h2 hs) fun v σ H Q ⟨p, B, G, i3, en, hv, q⟩ => by
    cases hv with
    | cons a b => exact ⟨_, _, rfl, p, B, G, i3, en, a, fun σ1 G1 H1 s1 i1 en1 => ⟨p, B, G1, i1, en1, dpAll_ex s1.1 _ _ b, fun σ2 G2 H2 s2 i2 en2 => q σ2 G2 H2 (s1.trans s2) i2 en2⟩⟩
theorem tx_tup {es : List Expr} {k : Nat} (hc : X.calm = true) (h : TgsX X es ds δ δ1) (hn : (assignEach es X.env).length = ds.length := by rfl) (hst : (assignEach es X.env).findIdx? (·.1) = none := by rfl) : TgX X (.Tuple es k pos) (.tuple ds) δ δ1 :=
  PG.imp (pg_tup hc h hn hst) fun v σ H Q ⟨p, B, G, i3, en, hv, q⟩ => by
    cases hv with
    | tup hs ha => exact ⟨_, _, rfl, ex_t i3.gh hs, dpAll_length ha, p, B, G, i3, en, ha, q⟩
theorem s_asgX {tg : Expr} (he : PD X e δ d) (hg : TgX X tg d δ δ') (k : SsD X sts δ' o) (hs : swapsWithSole [tg] e pos.line X.env = pure false := by rfl) (hw : swappedStores [tg] e X.env = pure none := by rfl)
    (h1 : (assignEach [tg] X.env).map (·.2) = [assign tg X.env] := by rfl) : SsD X (.Assign [tg] e pos :: sts) δ o :=
  ss_to (PS.imp (ps_asg he hg hs hw h1) fun D σ H ⟨p, B, G, i3, en, q⟩ => ⟨p, B, G, i3, en, fun v d' G' H' r n hv => by
    subst r
    exact ⟨p, B, G', i3.nxt n, en.nxt n, hv, fun σ2 G2 H2 s2 i2 en2 => q.nx _ _ G2 H2 rfl ((n.stepB i3).trans s2) i2 en2⟩⟩) k
/-- list(e), [n] * k as new lists -/
theorem xo_listOf {v : Dt} (hm : X.mg "list" = none) (he : PD X e δ v) (hv : v = .list ds ∨ v = .tuple ds) (hg : Gl X "list" := by rfl) (hs : starEach [e] X.env = (false, eval e X.env) :: starEach [] X.env := by rfl) : XO X (.Call (.Name "list" p) [e] [] pos) δ (fun x => x = ds) :=
  PE.imp (pe_callTy call_list_of hg hm (by decide +kernel) (pa_cons he pa_nil hs) (by decide) (by decide) hs (back_plain (es := []) rfl)) fun σ H Q ⟨p, B, G, i3, en, q⟩ => ⟨p, B, G, i3, en, fun u dd G' H' r n hu => by
    subst r
    have i3' := i3.nxt n
    have fin : ∀ {xs : List V}, DzAll X.K G' xs ds → ∀ l, H' l = none → Q (.ref l) (upd H' l (.lst xs)) := fun {xs} ha l hl => q l xs ds G' _ rfl (n.trans (.newH i3' _ hl)) (back_none n hl) (i3'.gh.free hl) (pot_ne i3' hl) upd_same ha
    rcases hv with e1 | e1 <;> subst e1
    · cases hu with
      | lst hs ha => exact ⟨_, _, rfl, .inl (exl i3'.gh hs), fin ha⟩
    · cases hu with
      | tup hs ha => exact ⟨_, _, rfl, .inr (ex_t i3'.gh hs), fin ha⟩⟩
/-- [e] * k, a new list -/
theorem xo_rep {lp : Pos} {es : List Expr} (ha : PAD X es δ ds) (hb : PD X b δ (.int k)) (k0 : 0 ≤ k) (k1 : k ≤ 1000) (hl : ds.length ≤ 10) : XO X (.BinOp (.List es lp) .Mult b pos) δ (fun x => x = (List.replicate k.toNat ds).flatten) :=
  PE.imp (pe_op op_rep (pe_lst ha.pa) hb) fun σ H Q ⟨p, B, G, i3, en, q⟩ => ⟨p, B, G, i3, en, fun vs dd G1 H1 r1 n1 hv => ⟨by rw [dpAll_length hv, r1]; exact Nat.le_trans hl (by decide), fun l0 hl0 => by
    subst r1
    have i31 := i3.nxt n1
    have n2 := Nxt.new i31 (.lst vs) hl0
    have i32 := i31.nxt n2
    have n12 := n1.trans n2
    refine ⟨p, B, _, i3.nxt n12, en.nxt n12, fun w d2 G3 H3 r2 n3 hw => ?_⟩
    subst r2
    cases hw
    have n13 := n12.trans n3
    have i33 := i3.nxt n13
    have h3 : H3 l0 = some (.lst vs) := i33.gh l0 _ (n3.st.1 l0 _ upd_same)
    refine ⟨l0, k, vs, rfl, rfl, h3, by omega, by omega, ?_, fun l hl => q l _ _ G3 _ rfl (n13.trans (.newH i33 _ hl)) (back_none n13 hl) (i33.gh.free hl) (pot_ne i33 hl) upd_same ?_⟩
    · rw [dpAll_length hv]
      have h1 : dd.length * k.toNat ≤ 10 * 1000 := Nat.mul_le_mul hl (by omega)
      exact Nat.le_trans h1 (by decide)
    · have hv3 := dpAll_ex (n2.st.1.trans n3.st.1) _ _ hv
      clear h3
      induction k.toNat with
      | zero => exact .nil
      | succ m ih => rw [List.replicate_succ, List.replicate_succ, List.flatten_cons, List.flatten_cons]; exact dpAll_append hv3 ih⟩⟩
end
end Dv

set_option linter.all false
set_option maxRecDepth 100000
set_option maxHeartbeats 4000000
namespace Dv
open PySem PySem.Spec PyProof.Rows L2 RZ
variable [Tbl]
/-! ### zip of two lists, of two tuples -/
def zipD (ds es : List Dt) : List Dt := (ds.zip es).map fun q => .tuple [q.1, q.2]
theorem zipD_length {ds es : List Dt} : (zipD ds es).length = min ds.length es.length := by unfold zipD; rw [List.length_map, List.length_zip]
theorem zipD_get {ds es : List Dt} {i : Nat} {d e : Dt} (h1 : ds[i]? = some d) (h2 : es[i]? = some e) : (zipD ds es)[i]? = some (.tuple [d, e]) := by
  unfold zipD
  rw [List.getElem?_map, List.getElem?_zip_eq_some (z := (d, e)) |>.mpr ⟨h1, h2⟩]; rfl
theorem yld_zipL {K : Fg} {G : Hp} {a b : Addr} {xs ys : List V} {ds es : List Dt} (hs : SqX K G a xs) (ha : DzAll K G xs ds) (hs2 : SqX K G b ys) (hb : DzAll K G ys es) : Yld K (Itz K a b) G (zipD ds es) := by
  intro p B G1 H1 e i3 i
  rw [zipD_length]
  have h1 : SqL K H1 a xs := exl (e.trans i3.gh) hs
  have h2 : SqL K H1 b ys := exl (e.trans i3.gh) hs2
  refine ⟨fun hi => ?_, fun hi => ⟨xs, ys, h1, h2, by rw [dpAll_length ha, dpAll_length hb]; omega⟩⟩
  have l1 : i < ds.length := by omega
  have l2 : i < es.length := by omega
  obtain ⟨v, hv, hd⟩ := dpAll_get (i := i) (d := ds[i]) ha (List.getElem?_eq_getElem l1)
  obtain ⟨u, hu, he⟩ := dpAll_get (i := i) (d := es[i]) hb (List.getElem?_eq_getElem l2)
  refine ⟨⟨xs, ys, v, u, h1, h2, hv, hu⟩, fun x H2 hx => ?_⟩
  obtain ⟨T, z1, z2, e1, hT, e2, k1, k2⟩ := hx
  subst e1; subst e2
  have q1 := k1 xs h1
  have q2 := k2 ys h2
  rw [hv] at q1
  rw [hu] at q2
  cases q1; cases q2
  have ex := e.trans (Ex.new (o := .tup [v, u]) (i3.gh.free hT))
  exact ⟨_, _, zipD_get (List.getElem?_eq_getElem l1) (List.getElem?_eq_getElem l2), .new i3 _ hT, .tup (.inl (.inl upd_same)) (.cons (dp_ex ex _ _ hd) (.cons (dp_ex ex _ _ he) .nil))⟩
theorem yld_zipT {K : Fg} {G : Hp} {a b : Addr} {xs ys : List V} {ds es : List Dt} (hs : SqT K G a xs) (ha : DzAll K G xs ds) (hs2 : SqT K G b ys) (hb : DzAll K G ys es) : Yld K (ItzT K a b) G (zipD ds es) := by
  intro p B G1 H1 e i3 i
  rw [zipD_length]
  have h1 : SqT K H1 a xs := ex_t (e.trans i3.gh) hs
  have h2 : SqT K H1 b ys := ex_t (e.trans i3.gh) hs2
  refine ⟨fun hi => ?_, fun hi => ⟨xs, ys, h1, h2, by rw [dpAll_length ha, dpAll_length hb]; omega⟩⟩
  have l1 : i < ds.length := by omega
  have l2 : i < es.length := by omega
  obtain ⟨v, hv, hd⟩ := dpAll_get (i := i) (d := ds[i]) ha (List.getElem?_eq_getElem l1)
  obtain ⟨u, hu, he⟩ := dpAll_get (i := i) (d := es[i]) hb (List.getElem?_eq_getElem l2)
  refine ⟨⟨xs, ys, v, u, h1, h2, hv, hu⟩, fun x H2 hx => ?_⟩
  obtain ⟨T, z1, z2, e1, hT, e2, k1, k2⟩ := hx
  subst e1; subst e2
  have q1 := k1 xs h1
  have q2 := k2 ys h2
  rw [hv] at q1
  rw [hu] at q2
  cases q1; cases q2
  have ex := e.trans (Ex.new (o := .tup [v, u]) (i3.gh.free hT))
  exact ⟨_, _, zipD_get (List.getElem?_eq_getElem l1) (List.getElem?_eq_getElem l2), .new i3 _ hT, .tup (.inl (.inl upd_same)) (.cons (dp_ex ex _ _ hd) (.cons (dp_ex ex _ _ he) .nil))⟩
section
variable {X : Cx} {a b : Expr} {δ : De} {ds es : List Dt} {p pos tpos : Pos}
theorem i_zipL {elts : List Expr} {kk : Nat} (h : PAD X [a, b] δ [.list ds, .list es]) (hm : X.mg "zip" = none) (hg : Gl X "zip" := by rfl) (hs2 : starEach [b] X.env = [(false, eval b X.env)] := by rfl) : ID X (.Tuple elts kk tpos) (.Call (.Name "zip" p) [a, b] [] pos) δ (zipD ds es) :=
  PI.imp (pi_zipA hg hm h.pa (by rw [hs2]; exact h.he) (by rw [hs2]; rfl)) fun σ H Q ⟨p, B, G, i3, en, q⟩ => ⟨p, B, G, i3, en, fun v d G' H' r n hv => by
    subst r
    obtain ⟨x, y, rfl, h1, h2⟩ := two_of hv
    cases h1 with
    | lst hs ha => cases h2 with
      | lst hs2 ha2 => exact ⟨_, _, _, _, rfl, .inl ⟨exl n.gh hs, exl n.gh hs2, q _ _ G' H' rfl n (yld_zipL hs ha hs2 ha2)⟩⟩⟩
theorem i_zipT {elts : List Expr} {kk : Nat} (h : PAD X [a, b] δ [.tuple ds, .tuple es]) (hm : X.mg "zip" = none) (hg : Gl X "zip" := by rfl) (hs2 : starEach [b] X.env = [(false, eval b X.env)] := by rfl) : ID X (.Tuple elts kk tpos) (.Call (.Name "zip" p) [a, b] [] pos) δ (zipD ds es) :=
  PI.imp (pi_zipA hg hm h.pa (by rw [hs2]; exact h.he) (by rw [hs2]; rfl)) fun σ H Q ⟨p, B, G, i3, en, q⟩ => ⟨p, B, G, i3, en, fun v d G' H' r n hv => by
    subst r
    obtain ⟨x, y, rfl, h1, h2⟩ := two_of hv
    cases h1 with
    | tup hs ha => cases h2 with
      | tup hs2 ha2 => exact ⟨_, _, _, _, rfl, .inr ⟨ex_t n.gh hs, ex_t n.gh hs2, q _ _ G' H' rfl n (yld_zipT hs ha hs2 ha2)⟩⟩⟩
end
end Dv

set_option linter.all false
set_option maxRecDepth 100000
set_option maxHeartbeats 2000000
/-! Ew: the same judgements in the form "what must hold of the answer", one rule a construct; the goal goes on where evaluation goes on. -/
namespace Dv
open PySem PySem.Spec PyProof.Rows L2
variable [Tbl]
/-! ### places by relations, so that they are found by unification -/
inductive SetR : De → Nat → En → De → Prop
  | z {a l e} : SetR (a :: l) 0 e (e :: l)
  | s {a l n e l'} : SetR l n e l' → SetR (a :: l) (n + 1) e (a :: l')
theorem SetR.eq {δ δ' : De} {i : Nat} {e : En} (h : SetR δ i e δ') : δ.set i e = δ' := by
  induction h with
  | z => rfl
  | s _ ih => rw [List.set_cons_succ, ih]
inductive Nx : List Str → Str → Nat → Prop
  | z {x N} : Nx (x :: N) x 0
  | s {y N x i} : Nx N x i → Nx (y :: N) x (i + 1)
theorem Nx.eq {N : List Str} {x : Str} {i : Nat} (h : Nx N x i) : N[i]? = some x := by
  induction h with
  | z => rfl
  | s _ ih => rw [List.getElem?_cons_succ]; exact ih
/-! ### generic forms -/
section
variable {X : Cx} {a b c e : Expr} {es : List Expr} {δ : De} {pos : Pos} {R U1 U2 : Dt → Prop} {d x y : Dt} {ds : List Dt} {S : Bool → Prop}
theorem pe_many {ι : Sort _} {G : ι → Prop} {t : ι → TE} (h : ∀ i, G i → PE X e (t i)) : PE X e (fun σ H Q => ∃ i, G i ∧ t i σ H Q) := ⟨fun pins s σ H Q I ⟨i, g, q⟩ => (h i g).run pins s σ H Q I q⟩
theorem pa_many {ι : Sort _} {G : ι → Prop} {t : ι → TA} (h : ∀ i, G i → PA X es (t i)) : PA X es (fun σ H Q => ∃ i, G i ∧ t i σ H Q) := ⟨fun pos pins s σ H Q I ⟨i, g, q⟩ => (h i g).run pos pins s σ H Q I q⟩
theorem pt_many {ι : Sort _} {G : ι → Prop} {t : ι → TT} (h : ∀ i, G i → PT X e (t i)) : PT X e (fun σ H Q => ∃ i, G i ∧ t i σ H Q) := ⟨fun pins s σ H Q I ⟨i, g, q⟩ => (h i g).run pins s σ H Q I q⟩
theorem pw_many {ι : Sort _} {G : ι → Prop} {t : ι → TT} (h : ∀ i, G i → PW X e (t i)) : PW X e (fun σ H Q => ∃ i, G i ∧ t i σ H Q) := ⟨fun w pins s σ H Q I ⟨i, g, q⟩ => (h i g).run w pins s σ H Q I q⟩
theorem pss_many {ι : Sort _} {G : ι → Prop} {t : ι → TS} {sts : List Stmt} (h : ∀ i, G i → PSs X sts (t i)) : PSs X sts (fun D σ H => ∃ i, G i ∧ t i D σ H) := ⟨fun pins s σ H D I ⟨i, g, q⟩ => (h i g).run pins s σ H D I q⟩
theorem c_of (h : PD X e δ d) (k : R d) : XD X e δ R := h.mono fun x ex => by rw [ex]; exact k
theorem c_var {i : Nat} {x : Str} (hN : Nx X.N x i) (hs : δ[i]? = some (.d d)) (k : R d) (hv : Vis X.env.scope x := by first | exact Or.inl rfl | exact Or.inr (Or.inl rfl) | exact Or.inr (Or.inr rfl)) (hd : (x == ("__debug__" : Str)) = false := by decide)
    (hcd : (x == ("__classdict__" : Str)) = false := by decide) : XD X (.Name x pos) δ R := c_of (pd_v i hs hN.eq hv hd hcd) k
theorem c_int {i : Int} {j} (k : R (.int i)) : XD X (.Constant (.int i) j pos) δ R := c_of pd_int k
theorem c_bl {i : Bool} {j} (k : R (.bool i)) : XD X (.Constant (.bool i) j pos) δ R := c_of pd_bl k
theorem c_str {i : Str} {j} (k : R (.str i)) : XD X (.Constant (.str i) j pos) δ R := c_of pd_str k
theorem c_non {j} (k : R .none) : XD X (.Constant .none j pos) δ R := c_of pd_non k
theorem c_neg (h : XD X a δ fun x => ∃ i : Int, x = .int i ∧ R (.int (-i))) : XD X (.UnaryOp .USub a pos) δ R :=
  PE.imp (pe_un un_neg h) fun σ H Q ⟨p, B, G, i3, en, q⟩ => ⟨p, B, G, i3, en, fun v d G' H' ⟨i, r, k⟩ n hv => by subst r; cases hv; exact ⟨i, rfl, q _ _ G' H' k n (.int _)⟩⟩
/-- two places -/
def BinP (X : Cx) (op : Operator) (x y : Dt) (R : Dt → Prop) : Prop := ∃ r, OpR X (binaryOp op) r ∧ RD X.K r x y R
def CmpP (X : Cx) (op : CmpOp) (x y : Dt) (S : Bool → Prop) : Prop := ∃ r, OpR X (compareOp op) r ∧ RD X.K r x y fun d => ∃ c, d = .bool c ∧ S c
def IxP (X : Cx) (x y : Dt) (R : Dt → Prop) : Prop := ∃ r, IxR X r ∧ RD X.K r x y R
theorem two_c {T : Dt → Dt → Prop} {K : Fg} {p : Option Addr} {B G H : Hp} {σ : L2.St} {Q : V → V → Hp → Prop} {XB : (Dt → Prop) → Prop} (i3 : I3 p B G H) (en : EnvD K p B G H σ δ)
    (k : ∀ v w d1 d2 G' H', T d1 d2 → Nxt p G H G' H' → I3 p B G' H' → Dz K G' v d1 → Dz K G' w d2 → Q v w H') : rX K δ (fun x => XB (T x)) σ H fun v H1 => (fun σ H Q => ∃ U : Dt → Prop, XB U ∧ rX K δ U σ H Q) σ H1 fun w H2 => Q v w H2 :=
  ⟨p, B, G, i3, en, fun v d1 G1 H1 r1 n1 h1 => ⟨T d1, r1, p, B, G1, i3.nxt n1, en.nxt n1, fun w d2 G2 H2 r2 n2 h2 => k v w d1 d2 G2 H2 r2 (n1.trans n2) (i3.nxt (n1.trans n2)) (dp_ex n2.st.1 _ _ h1) h2⟩⟩
theorem pe_later : PE X b (fun σ H Q => ∃ U : Dt → Prop, XD X b δ U ∧ rX X.K δ U σ H Q) := pe_many fun U h => h
theorem c_bin {op : Operator} (h : XD X a δ fun x => XD X b δ fun y => BinP X op x y R) : XD X (.BinOp a op b pos) δ R :=
  PE.imp (pe_op (r := fun v w H Q => ∃ r, OpR X (binaryOp op) r ∧ r v w H Q) (fun pins s σ H x y v u Q I rx ry ⟨r, ho, q⟩ => ho pins s σ H x y v u Q I rx ry q) h (pe_later (δ := δ))) fun σ H Q ⟨p, B, G, i3, en, q⟩ =>
    two_c i3 en fun v w d1 d2 G' H' ⟨r, ho, hr⟩ n i' h1 h2 => ⟨r, ho, hr p B G' H' v w i' h1 h2 Q fun u d G2 H2 rr n2 hu => q u d G2 H2 rr (n.trans n2) hu⟩
theorem c_cmpV {op : CmpOp} (hm : behindInMarks op b = false) (h : XD X a δ fun x => XD X b δ fun y => CmpP X op x y fun c => R (.bool c)) : XD X (.Compare a [op] [b] pos) δ R :=
  PE.imp (pe_cmpR (r := fun v w H Q => ∃ r, OpR X (compareOp op) r ∧ r v w H Q) (fun pins s σ H x y v u Q I rx ry ⟨r, ho, q⟩ => ho pins s σ H x y v u Q I rx ry q) h (pe_later (δ := δ)) hm) fun σ H Q ⟨p, B, G, i3, en, q⟩ =>
    two_c i3 en fun v w d1 d2 G' H' ⟨r, ho, hr⟩ n i' h1 h2 => ⟨r, ho, hr p B G' H' v w i' h1 h2 Q fun u d G2 H2 ⟨c, e, rr⟩ n2 hu => by subst e; exact q u _ G2 H2 rr (n.trans n2) hu⟩
theorem c_cmp {op : CmpOp} (hm : behindInMarks op b = false) (h : XD X a δ fun x => XD X b δ fun y => CmpP X op x y S) : XT X (.Compare a [op] [b] pos) δ S :=
  PT.imp (pt_cmpR (r := fun v w H Q => ∃ r, OpR X (compareOp op) r ∧ r v w H Q) (fun pins s σ H x y v u Q I rx ry ⟨r, ho, q⟩ => ho pins s σ H x y v u Q I rx ry q) h (pe_later (δ := δ)) hm) fun σ H Q ⟨p, B, G, i3, en, q⟩ =>
    two_c i3 en fun v w d1 d2 G' H' ⟨r, ho, hr⟩ n i' h1 h2 => ⟨r, ho, hr p B G' H' v w i' h1 h2 _ fun u d G2 H2 ⟨c, e, rr⟩ n2 hu => by subst e; cases hu; exact ⟨c, rfl, q c G2 H2 rr (n.trans n2)⟩⟩
theorem c_ix (h : XD X a δ fun x => XD X b δ fun y => IxP X x y R) (hs : PlainIx b := by exact fun _ _ => rfl) : XD X (.Subscript a b pos) δ R :=
  PE.imp (pe_ix (r := fun v w H Q => ∃ r, IxR X r ∧ r v w H Q) (fun a b pins s σ H x y v u Q I rx ry ⟨r, ho, q⟩ => ho a b pins s σ H x y v u Q I rx ry q) h (pe_later (δ := δ)) hs) fun σ H Q ⟨p, B, G, i3, en, q⟩ =>
    two_c i3 en fun v w d1 d2 G' H' ⟨r, ho, hr⟩ n i' h1 h2 => ⟨r, ho, hr p B G' H' v w i' h1 h2 Q fun u d G2 H2 rr n2 hu => q u d G2 H2 rr (n.trans n2) hu⟩
/-! what the operators give -/
variable {i j : Int}
theorem bp_add (k : R (.int (i + j))) : BinP X .Add (.int i) (.int j) R := ⟨_, op_add, rd_i k⟩
theorem bp_sub (k : R (.int (i - j))) : BinP X .Sub (.int i) (.int j) R := ⟨_, op_sub, rd_i k⟩
theorem bp_mul (hc : CMul i j) (k : R (.int (i * j))) : BinP X .Mult (.int i) (.int j) R := ⟨_, op_mul, by refine rd_c ?_ ?_; exact hc; exact k⟩
theorem bp_mod (hc : 0 < j) (k : R (.int (i % j))) : BinP X .Mod (.int i) (.int j) R := ⟨_, op_mod, by refine rd_c ?_ ?_; exact hc; exact k⟩
theorem bp_fdiv (hc : CDiv i j) (k : R (.int (i / j))) : BinP X .FloorDiv (.int i) (.int j) R := ⟨_, op_fdiv, by refine rd_c ?_ ?_; exact hc; exact k⟩
theorem bp_pow (hc : CPow i j) (k : R (.int (i ^ j.toNat))) : BinP X .Pow (.int i) (.int j) R := ⟨_, op_pow, by refine rd_c ?_ ?_; exact hc; exact k⟩
theorem bp_cat {es fs : List Dt} (hl : es.length + fs.length ≤ 100000) (k : R (.list (es ++ fs))) : BinP X .Add (.list es) (.list fs) R := ⟨_, op_catR, by
  intro p B G H v w i3 h1 h2 Q q
  cases h1 with
  | lst hs ha => cases h2 with
    | lst hs2 ha2 =>
      exact ⟨_, _, _, _, rfl, rfl, ex_x i3.gh hs, ex_x i3.gh hs2, by rw [dpAll_length ha, dpAll_length ha2]; exact Nat.le_trans hl (by decide), fun l hl => q _ _ _ _ k (.new i3 _ hl) (.lst (.inl (.inl upd_same)) (dpAll_ex (Ex.new (i3.gh.free hl)) _ _ (dpAll_append ha ha2)))⟩⟩
theorem rd_bS {g : Int → Int → Bool} (k : S (g i j)) {K : Fg} : RD K (rI0 fun i j => .bl (g i j)) (.int i) (.int j) (fun d => ∃ c, d = .bool c ∧ S c) := rd_b ⟨_, rfl, k⟩
theorem cp_lt (k : S (decide (i < j))) : CmpP X .Lt (.int i) (.int j) S := ⟨_, op_lt, rd_bS k⟩
theorem cp_le (k : S (decide (i ≤ j))) : CmpP X .LtE (.int i) (.int j) S := ⟨_, op_le, rd_bS k⟩
theorem cp_gt (k : S (decide (j < i))) : CmpP X .Gt (.int i) (.int j) S := ⟨_, op_gt, rd_bS k⟩
theorem cp_ge (k : S (decide (j ≤ i))) : CmpP X .GtE (.int i) (.int j) S := ⟨_, op_ge, rd_bS k⟩
theorem cp_eqI (k : S (decide (i = j))) : CmpP X .Eq (.int i) (.int j) S := ⟨_, op_eq, by
  intro p B G H v w i3 h1 h2 Q q
  cases h1; cases h2
  refine ⟨rfl, q _ _ G H ⟨_, rfl, k⟩ (.refl i3) ?_⟩
  have : decide (V.int i = V.int j) = decide (i = j) := by rw [dec_int]; rfl
  rw [this]; exact .bl _⟩
theorem cp_neI (k : S (!decide (i = j))) : CmpP X .NotEq (.int i) (.int j) S := ⟨_, op_ne, by
  intro p B G H v w i3 h1 h2 Q q
  cases h1; cases h2
  refine ⟨rfl, q _ _ G H ⟨_, rfl, k⟩ (.refl i3) ?_⟩
  have : decide (V.int i = V.int j) = decide (i = j) := by rw [dec_int]; rfl
  rw [this]; exact .bl _⟩
theorem cp_eqS {i j : Str} (k : S (decide (i = j))) : CmpP X .Eq (.str i) (.str j) S := ⟨_, op_eq, by
  intro p B G H v w i3 h1 h2 Q q
  cases h1; cases h2
  refine ⟨rfl, q _ _ G H ⟨_, rfl, k⟩ (.refl i3) ?_⟩
  have : decide (V.str i = V.str j) = decide (i = j) := by by_cases h : i = j <;> simp [h]
  rw [this]; exact .bl _⟩
theorem cp_neS {i j : Str} (k : S (!decide (i = j))) : CmpP X .NotEq (.str i) (.str j) S := ⟨_, op_ne, by
  intro p B G H v w i3 h1 h2 Q q
  cases h1; cases h2
  refine ⟨rfl, q _ _ G H ⟨_, rfl, k⟩ (.refl i3) ?_⟩
  have : decide (V.str i = V.str j) = decide (i = j) := by by_cases h : i = j <;> simp [h]
  rw [this]; exact .bl _⟩
theorem cp_eqB {i j : Bool} (k : S (decide (i = j))) : CmpP X .Eq (.bool i) (.bool j) S := ⟨_, op_eq, by
  intro p B G H v w i3 h1 h2 Q q
  cases h1; cases h2
  refine ⟨rfl, q _ _ G H ⟨_, rfl, k⟩ (.refl i3) ?_⟩
  have : decide (V.bl i = V.bl j) = decide (i = j) := by by_cases h : i = j <;> simp [h]
  rw [this]; exact .bl _⟩
theorem cp_neB {i j : Bool} (k : S (!decide (i = j))) : CmpP X .NotEq (.bool i) (.bool j) S := ⟨_, op_ne, by
  intro p B G H v w i3 h1 h2 Q q
  cases h1; cases h2
  refine ⟨rfl, q _ _ G H ⟨_, rfl, k⟩ (.refl i3) ?_⟩
  have : decide (V.bl i = V.bl j) = decide (i = j) := by by_cases h : i = j <;> simp [h]
  rw [this]; exact .bl _⟩
/-- texts that are the same / data that are the same -/
theorem cp_neSs {i : Str} (k : S false) : CmpP X .NotEq (.str i) (.str i) S := cp_neS (by rw [decide_eq_true rfl]; exact k)
theorem cp_eqSs {i : Str} (k : S true) : CmpP X .Eq (.str i) (.str i) S := cp_eqS (by rw [decide_eq_true rfl]; exact k)
theorem cp_eqD (hu : X.A.units + 64 < cLine) (hx : SeqAt.shaped x = true) (hy : SeqAt.shaped y = true) (k : S (PyData.eqv x y)) : CmpP X .Eq x y S := ⟨_, op_eqD hu, by
  intro p B G H v w i3 h1 h2 Q q
  exact ⟨_, _, dz_dp _ _ (nds hx) (dp_ex i3.gh _ _ h1), dz_dp _ _ (nds hy) (dp_ex i3.gh _ _ h2), hx, hy, q _ _ G H ⟨_, rfl, k⟩ (.refl i3) (.bl _)⟩⟩
theorem cp_neD (hu : X.A.units + 64 < cLine) (hx : SeqAt.shaped x = true) (hy : SeqAt.shaped y = true) (k : S (!PyData.eqv x y)) : CmpP X .NotEq x y S := ⟨_, op_neD hu, by
  intro p B G H v w i3 h1 h2 Q q
  exact ⟨_, _, dz_dp _ _ (nds hx) (dp_ex i3.gh _ _ h1), dz_dp _ _ (nds hy) (dp_ex i3.gh _ _ h2), hx, hy, q _ _ G H ⟨_, rfl, k⟩ (.refl i3) (.bl _)⟩⟩
theorem cp_isN (k : S (match x with | .none => true | _ => false)) : CmpP X .Is x .none S := ⟨_, op_isN, by
  intro p B G H v w i3 h1 h2 Q q
  cases h2
  refine ⟨rfl, q _ _ G H ⟨_, rfl, k⟩ (.refl i3) ?_⟩
  cases h1 <;> exact .bl _⟩
theorem cp_notN (k : S (match x with | .none => false | _ => true)) : CmpP X .IsNot x .none S := ⟨_, op_notN, by
  intro p B G H v w i3 h1 h2 Q q
  cases h2
  refine ⟨rfl, q _ _ G H ⟨_, rfl, k⟩ (.refl i3) ?_⟩
  cases h1 <;> exact .bl _⟩
theorem cp_inS {ss : List Str} {z : Str} (k : S (ss.any fun y => y == z)) : CmpP X .In (.str z) (.tuple (ss.map PyData.str)) S := ⟨_, op_in_seq, by
  intro p B G H v w i3 h1 h2 Q q
  cases h1
  cases h2 with
  | tup hs ha =>
    have e := dz_strs ha
    subst e
    refine ⟨_, _, rfl, .inr (ex_t i3.gh hs), rfl, ?_, q _ _ G H ⟨_, rfl, k⟩ (.refl i3) ?_⟩
    · rw [List.all_map]; exact List.all_eq_true.mpr fun _ _ => rfl
    · have : inV (V.str z) (ss.map V.str) = ss.any fun y => y == z := by unfold inV; rw [List.any_map]; rfl
      rw [this]; exact .bl _⟩
theorem ip_tup (h : atI ds i = some d) (k : R d) : IxP X (.tuple ds) (.int i) R := ⟨_, ix_tup, rd_ixT ⟨d, h, k⟩⟩
theorem ip_list (h : atI ds i = some d) (k : R d) : IxP X (.list ds) (.int i) R := ⟨_, ix_list, rd_ixL ⟨d, h, k⟩⟩
/-! ### tests -/
theorem c_val (h : XD X e δ fun d => ∃ c, d = .bool c ∧ S c) (he : ∀ whole, isTrue e X.env whole = (do let v ← whole; standAt e.pos; holding [v] (truthy v)) := by intro _; rfl) : XT X e δ S := xt_val h he
theorem c_not (h : XT X e δ fun c => S (!c)) : XT X (.UnaryOp .Not e pos) δ S := xt_not h
theorem c_notV (h : XD X e δ fun d => ∃ c, d = .bool c ∧ R (.bool (!c))) : XD X (.UnaryOp .Not e pos) δ R := PE.imp (pe_not h) fun σ H Q ⟨p, B, G, i3, en, q⟩ => ⟨p, B, G, i3, en, fun v d G' H' ⟨c, r, k⟩ n h => by
    subst r; cases h; exact ⟨c, rfl, q _ _ G' H' k n (.bl _)⟩⟩
theorem pw_later : PW X b (fun σ H Q => ∃ U : Bool → Prop, XW X b δ U ∧ rT X.K δ U σ H Q) := pw_many fun U h => h
theorem pt_later : PT X b (fun σ H Q => ∃ U : Bool → Prop, XT X b δ U ∧ rT X.K δ U σ H Q) := pt_many fun U h => h
theorem w_a1 (h : XT X a δ S) : XW X (.BoolOp .And [a] pos) δ S := pw_and1 h
theorem w_o1 (h : XT X a δ S) : XW X (.BoolOp .Or [a] pos) δ S := pw_or1 h
theorem w_a {rest : List Expr} (h : XT X a δ fun c => (c = true → XW X (.BoolOp .And (b :: rest) pos) δ S) ∧ (c = false → S false)) : XW X (.BoolOp .And (a :: b :: rest) pos) δ S :=
  PW.imp (pw_and h (pw_later (δ := δ))) fun σ H Q ⟨p, B, G, i3, en, q⟩ => ⟨p, B, G, i3, en, fun c G' H' ⟨h1, h2⟩ n => by
    cases c with
    | true => exact iteT ⟨S, h1 rfl, p, B, G', i3.nxt n, en.nxt n, fun c2 G2 H2 r2 n2 => q c2 G2 H2 r2 (n.trans n2)⟩
    | false => exact iteF (q false G' H' (h2 rfl) n)⟩
theorem w_o {rest : List Expr} (h : XT X a δ fun c => (c = false → XW X (.BoolOp .Or (b :: rest) pos) δ S) ∧ (c = true → S true)) : XW X (.BoolOp .Or (a :: b :: rest) pos) δ S :=
  PW.imp (pw_or h (pw_later (δ := δ))) fun σ H Q ⟨p, B, G, i3, en, q⟩ => ⟨p, B, G, i3, en, fun c G' H' ⟨h1, h2⟩ n => by
    cases c with
    | false => exact iteF ⟨S, h1 rfl, p, B, G', i3.nxt n, en.nxt n, fun c2 G2 H2 r2 n2 => q c2 G2 H2 r2 (n.trans n2)⟩
    | true => exact iteT (q true G' H' (h2 rfl) n)⟩
theorem c_w {op} (h : XW X (.BoolOp op es pos) δ S) : XT X (.BoolOp op es pos) δ S := L2.PW.pt h
/-! and, or as values -/
theorem v_1 {op} (h : XD X a δ R) : XD X (.BoolOp op [a] pos) δ R := pe_one h
theorem v_a {rest : List Expr} (h : XD X a δ fun d => ∃ c, d = .bool c ∧ (c = true → XD X (.BoolOp .And (b :: rest) pos) δ R) ∧ (c = false → R (.bool false))) : XD X (.BoolOp .And (a :: b :: rest) pos) δ R :=
  PE.imp (pe_and h (pe_later (δ := δ))) fun σ H Q ⟨p, B, G, i3, en, q⟩ => ⟨p, B, G, i3, en, fun v d G' H' ⟨c, e, h1, h2⟩ n hv => by
    subst e; cases hv
    refine ⟨c, rfl, ?_⟩
    cases c with
    | true => exact iteT ⟨R, h1 rfl, p, B, G', i3.nxt n, en.nxt n, fun v2 d2 G2 H2 r2 n2 k2 => q v2 d2 G2 H2 r2 (n.trans n2) k2⟩
    | false => exact iteF (q _ _ G' H' (h2 rfl) n (.bl _))⟩
theorem v_o {rest : List Expr} (h : XD X a δ fun d => ∃ c, d = .bool c ∧ (c = false → XD X (.BoolOp .Or (b :: rest) pos) δ R) ∧ (c = true → R (.bool true))) : XD X (.BoolOp .Or (a :: b :: rest) pos) δ R :=
  PE.imp (pe_or h (pe_later (δ := δ))) fun σ H Q ⟨p, B, G, i3, en, q⟩ => ⟨p, B, G, i3, en, fun v d G' H' ⟨c, e, h1, h2⟩ n hv => by
    subst e; cases hv
    refine ⟨c, rfl, ?_⟩
    cases c with
    | false => exact iteF ⟨R, h1 rfl, p, B, G', i3.nxt n, en.nxt n, fun v2 d2 G2 H2 r2 n2 k2 => q v2 d2 G2 H2 r2 (n.trans n2) k2⟩
    | true => exact iteT (q _ _ G' H' (h2 rfl) n (.bl _))⟩
theorem c_if (h : XT X c δ fun k => (k = true → XD X a δ R) ∧ (k = false → XD X b δ R)) : XD X (.IfExp c a b pos) δ R :=
  PE.imp (pe_ifExp h (pe_later (b := a) (δ := δ)) (pe_later (b := b) (δ := δ))) fun σ H Q ⟨p, B, G, i3, en, q⟩ => ⟨p, B, G, i3, en, fun k G' H' ⟨h1, h2⟩ n => by
    cases k with
    | true => exact iteT ⟨R, h1 rfl, p, B, G', i3.nxt n, en.nxt n, fun v d G2 H2 r2 n2 k2 => q v d G2 H2 r2 (n.trans n2) k2⟩
    | false => exact iteF ⟨R, h2 rfl, p, B, G', i3.nxt n, en.nxt n, fun v d G2 H2 r2 n2 k2 => q v d G2 H2 r2 (n.trans n2) k2⟩⟩
/-! ### lists of expressions -/
variable {T : List Dt → Prop}
theorem a_n (k : T []) : XA X [] δ T := xa_nil.mono fun ds e => by rw [e]; exact k
theorem a_c (h : XD X e δ fun d => XA X es δ fun ds => T (d :: ds)) (hs : starEach (e :: es) X.env = (false, eval e X.env) :: starEach es X.env := by rfl) (hp : starEach (e :: es) X.env = (e :: es).map fun e => (false, eval e X.env) := by rfl) : XA X (e :: es) δ T :=
  ⟨PA.imp (pa_cons h (pa_many (G := fun U : List Dt → Prop => XA X es δ U) (t := fun U => rA X.K δ U) fun U h => h.pa) hs) fun σ H Q ⟨p, B, G, i3, en, q⟩ => ⟨p, B, G, i3, en, fun v d G1 H1 r1 n1 h1 => ⟨fun ds => T (d :: ds), r1, p, B, G1, i3.nxt n1, en.nxt n1, fun vs ds G2 H2 r2 n2 h2 =>
    q (v :: vs) (d :: ds) G2 H2 r2 (n1.trans n2) (.cons (dp_ex n2.st.1 _ _ h1) h2)⟩⟩, hp⟩
theorem c_tup {k} (h : XA X es δ fun ds => ds.length ≤ 100000 ∧ R (.tuple ds)) : XD X (.Tuple es k pos) δ R := PE.imp (pe_tup h.pa) fun σ H Q ⟨p, B, G, i3, en, q⟩ => ⟨p, B, G, i3, en, fun vs ds G' H' ⟨hl, r⟩ n h' =>
  ⟨by rw [dpAll_length h']; exact Nat.le_trans hl (by decide), fun a ha => q (.ref a) _ _ _ r (n.trans (.new (i3.nxt n) (.tup vs) ha)) (.tup (.inl (.inl upd_same)) (dpAll_ex (Ex.new ((i3.nxt n).gh.free ha)) _ _ h'))⟩⟩
theorem c_lst (h : XA X es δ fun ds => ds.length ≤ 100000 ∧ R (.list ds)) : XD X (.List es pos) δ R := PE.imp (pe_lst h.pa) fun σ H Q ⟨p, B, G, i3, en, q⟩ => ⟨p, B, G, i3, en, fun vs ds G' H' ⟨hl, r⟩ n h' =>
  ⟨by rw [dpAll_length h']; exact Nat.le_trans hl (by decide), fun a ha => q (.ref a) _ _ _ r (n.trans (.new (i3.nxt n) (.lst vs) ha)) (.lst (.inl (.inl upd_same)) (dpAll_ex (Ex.new ((i3.nxt n).gh.free ha)) _ _ h'))⟩⟩
end
end Dv

set_option linter.all false
set_option maxRecDepth 100000
set_option maxHeartbeats 2000000
namespace Dv
open PySem PySem.Spec PyProof.Rows L2
variable [Tbl]
/-! ### comprehensions: what is made is a new list -/
structure LcO (X : Cx) (elt tg iter : Expr) (ifs : List Expr) (scope : Scope) (δ : De) (R : List Dt → Prop) : Prop where
  ex : ∃ (own : List (Str × Nat)) (wi : TI) (g : TG) (tt : TT) (te : TE), PI X tg iter wi ∧ BlkOk X.N X.env.scope scope own ∧ (∀ s H C cl fp, PG (bX X scope s H C cl fp) tg g) ∧ (∀ s H C cl fp, PTs (bX X scope s H C cl fp) ifs tt) ∧ (∀ s H C cl fp, PE (bX X scope s H C cl fp) elt te) ∧
    ∀ σ H Q, rOw X.K δ R σ H Q → tLc wi g tt te (own.map (·.2)) σ H Q
/-- one turn: the target is set (δ2), the tests say T, the element is y -/
structure TurnC (X : Cx) (elt tg : Expr) (ifs : List Expr) (scope : Scope) (δ δ2 : De) (js : List Nat) (d : Dt) (T : Bool → Prop) (Y : Dt → Prop) : Prop where
  g : ∀ s H C cl fp, TgD (bX X scope s H C cl fp) tg js d (wipeD δ js) δ2
  t : ∀ s H C cl fp, XPs (bX X scope s H C cl fp) ifs δ2 T
  e : T true → ∀ s H C cl fp, XD (bX X scope s H C cl fp) elt δ2 Y
section
variable {X : Cx} {elt tg iter e : Expr} {ifs : List Expr} {scope : Scope} {own : List (Str × Nat)} {pos : Pos} {δ : De} {R : List Dt → Prop} {U : Dt → Prop}
theorem lco_of (own : List (Str × Nat)) (ok : BlkOk X.N X.env.scope scope own) (hi : XI X tg iter δ fun ds => ds.length ≤ 100000 ∧ ∃ Iv : Nat → List Dt → Prop, Iv 0 [] ∧
      (∀ (i : Nat) d out, ds[i]? = some d → Iv i out → ∃ δ2 T, TurnC X elt tg ifs scope δ δ2 (own.map (·.2)) d T (fun y => Iv (i + 1) (out ++ [y])) ∧ (T false → Iv (i + 1) out)) ∧ ∀ out, Iv ds.length out → R out) : LcO X elt tg iter ifs scope δ R := by
  have pg : ∀ s H C cl fp, PG (bX X scope s H C cl fp) tg (fun v σ H Q => ∃ d δ2 T Y, TurnC X elt tg ifs scope δ δ2 (own.map (·.2)) d T Y ∧ rG X.K (own.map (·.2)) d (wipeD δ (own.map (·.2))) δ2 v σ H Q) := fun s H C cl fp =>
    ⟨fun pins s1 σ H1 v u Q I r ⟨d, δ2, T, Y, t, q⟩ => (t.g s H C cl fp).run pins s1 σ H1 v u Q I r q⟩
  have pt : ∀ s H C cl fp, PTs (bX X scope s H C cl fp) ifs (fun σ H Q => ∃ d δ2 T Y, TurnC X elt tg ifs scope δ δ2 (own.map (·.2)) d T Y ∧ rT X.K δ2 T σ H Q) := fun s H C cl fp =>
    ⟨fun pins s1 σ H1 Q I ⟨d, δ2, T, Y, t, q⟩ => (t.t s H C cl fp).run pins s1 σ H1 Q I q⟩
  have pe : ∀ s H C cl fp, PE (bX X scope s H C cl fp) elt (fun σ H Q => ∃ d δ2 T Y, TurnC X elt tg ifs scope δ δ2 (own.map (·.2)) d T Y ∧ T true ∧ rX X.K δ2 Y σ H Q) := fun s H C cl fp =>
    ⟨fun pins s1 σ H1 Q I ⟨d, δ2, T, Y, t, c, q⟩ => (t.e c s H C cl fp).run pins s1 σ H1 Q I q⟩
  refine ⟨own, _, _, _, _, hi, ok, pg, pt, pe, fun σ H Q ⟨p, B, G, i3, en, q⟩ => ⟨p, B, G, i3, en, fun J ds G1 H1 ⟨hS, Iv, h0, turn, hR⟩ n yl Dl hD => ?_⟩⟩
  have i31 := i3.nxt n
  have en1 := en.nxt n
  have gD : G1 Dl = none := i31.gh.free hD
  have pD : p ≠ some Dl := fun z => by
    obtain ⟨_, _, _, _, h3, _⟩ := i31.pot Dl z
    rw [hD] at h3; cases h3
  refine ⟨fun i m H' => m = ds.length - i ∧ i ≤ ds.length ∧ Makes X.K p G1 H1 Dl (Iv i) i H', ⟨_, rfl, Nat.zero_le _, ⟨G1, [], [], .newH i31 _ hD, gD, upd_same, .nil, h0, Nat.le_refl _⟩⟩, ?_⟩
  rintro i m H' ⟨em, hle, ⟨G', acc, os, n', gd, hd, ha, iv, hl⟩⟩
  have i3' := i31.nxt n'
  by_cases hlt : i < ds.length
  · obtain ⟨go, yd⟩ := (yl p B G' H' n'.st.1 i3' i).1 hlt
    refine .inr ⟨go, fun H'' => Makes X.K p G1 H1 Dl (Iv (i + 1)) (i + 1) H'', fun H'' k => ⟨_, by omega, rfl, by omega, k⟩, fun x H2 hy => ?_⟩
    obtain ⟨G2, d, e2, n2, hx⟩ := yd x H2 hy
    have n12 := n'.trans n2
    have gd2 : G2 Dl = none := n2.st.2 Dl (nn hd) gd
    have hd2 : H2 Dl = some (.lst acc) := n2.ex Dl _ (by rw [del_ne pD]; exact hd) (fun _ z => by cases z)
    obtain ⟨δ2, T, tc, hf⟩ := turn i d os e2 iv
    refine ⟨d, δ2, T, _, tc, p, B, G2, i31.nxt n12, (en1.nxt n12).wipes _, hx, fun σ2 en2 ⟨ks', ks⟩ => ⟨?_, d, δ2, T, _, tc, p, B, G2, i31.nxt n12, en2, fun c G3 H3 hc3 n3 => ?_⟩⟩
    · refine wipe_same ?_ ks
      rw [ks', wipe_length]
    · have n13 := n12.trans n3
      have gd3 : G3 Dl = none := n3.st.2 Dl (nn hd2) gd2
      have hd3 : H3 Dl = some (.lst acc) := n3.ex Dl _ (by rw [del_ne pD]; exact hd2) (fun _ z => by cases z)
      have ha3 := dpAll_ex (n2.st.1.trans n3.st.1) _ _ ha
      cases c with
      | false => exact iteF ⟨G3, acc, os, n13, gd3, hd3, ha3, hf hc3, by omega⟩
      | true =>
        refine iteT ⟨d, δ2, T, _, tc, hc3, p, B, G3, i31.nxt n13, en2.nxt n3, fun y dy G4 H4 ry n4 hy4 => ?_⟩
        have n14 := n13.trans n4
        have gd4 : G4 Dl = none := n4.st.2 Dl (nn hd3) gd3
        have hd4 : H4 Dl = some (.lst acc) := n4.ex Dl _ (by rw [del_ne pD]; exact hd3) (fun _ z => by cases z)
        have ha4 := dpAll_ex n4.st.1 _ _ ha3
        refine ⟨acc, hd4, ?_, ⟨G4, acc ++ [y], os ++ [dy], n14.put hD gd4 hd4 pD, gd4, upd_same, dpAll_append ha4 (.cons hy4 .nil), ry, by rw [List.length_append, List.length_singleton]; omega⟩⟩
        · rw [dpAll_length ha4]
          exact Nat.lt_of_le_of_lt (Nat.le_trans hl (Nat.le_trans hle hS)) (by decide)
  · have e : i = ds.length := by omega
    subst e
    exact .inl ⟨(yl p B G' H' n'.st.1 i3' _).2 rfl, q Dl acc os G' H' (hR os iv) (n.trans n') (back_none n hD) gd pD hd ha⟩
theorem LcO.xo (h : LcO X elt tg iter ifs scope δ R) (hN : X.N.Nodup) (hc : X.calm = true := by rfl) (hs : ∀ x, foldedSetIterable iter X.env x = pure x := by intro _; rfl) : XO X (.ListComp elt [⟨tg, iter, ifs, 0⟩] scope pos) δ R := by
  obtain ⟨own, wi, g, tt, te, a1, a2, a3, a4, a5, a6⟩ := h.ex
  exact PE.imp (pe_lc hc hN a1 a2 a3 a4 a5 hs) a6
/-- a new list is data -/
theorem own_data {K : Fg} {p : Option Addr} {B G H G' H' : Hp} {l : Addr} {xs : List V} {ds : List Dt} (i3 : I3 p B G H) (n : Nxt p G H G' H') (h0 : H l = none) (g : G' l = none) (pl : p ≠ some l) (hl : H' l = some (.lst xs)) (ha : DzAll K G' xs ds) : Nxt p G H (upd G' l (.lst xs)) H' ∧ Dz K (upd G' l (.lst xs)) (.ref l) (.list ds) :=
  ⟨⟨⟨n.st.1.mut (i3.gh.free h0), fun a h1 h2 => by
    have : a ≠ l := fun z => h1 (z ▸ h0)
    rw [upd_ne this]; exact n.st.2 a h1 h2⟩, n.ex, fun a o ho => by
    by_cases z : a = l
    · subst z; rw [upd_same] at ho; cases ho; exact hl
    · rw [upd_ne z] at ho; exact n.gh a o ho, n.pot, n.dom, n.tb⟩, .lst (.inl (.inl upd_same)) (dpAll_ex (Ex.new g) _ _ ha)⟩
theorem c_o (h : XO X e δ fun ds => U (.list ds)) : XD X e δ U := PE.imp h fun σ H Q ⟨p, B, G, i3, en, q⟩ => ⟨p, B, G, i3, en, fun l xs ds G' H' r n h0 g pl hl ha => by
  obtain ⟨n2, hd⟩ := own_data i3 n h0 g pl hl ha
  exact q _ _ _ _ r n2 hd⟩
theorem XO.mono {S : List Dt → Prop} (h : XO X e δ S) (k : ∀ ds, S ds → R ds) : XO X e δ R := PE.imp h fun σ H Q ⟨p, B, G, i3, en, q⟩ => ⟨p, B, G, i3, en, fun l xs ds G' H' r => q l xs ds G' H' (k ds r)⟩
theorem ps_n : XPs X [] δ (fun c => c = true) := PTs.imp pts_nil fun σ H Q ⟨p, B, G, i3, en, q⟩ => q true G H rfl (.refl i3)
theorem ps_1 {t : Expr} {S : Bool → Prop} (h : XT X t δ S) : XPs X [t] δ S := PTs.imp (pts_one h) fun σ H Q ⟨p, B, G, i3, en, q⟩ => ⟨p, B, G, i3, en, fun b G' H' e n => q b G' H' e n⟩
/-- each element by its own: Rel -/
theorem lco_map (own : List (Str × Nat)) (ok : BlkOk X.N X.env.scope scope own) (hi : XI X tg iter δ fun ds => ds.length ≤ 100000 ∧ ∃ Rel : Nat → Dt → Dt → Prop,
      (∀ (i : Nat) d, ds[i]? = some d → ∃ δ2, (∀ s H C cl fp, TgD (bX X scope s H C cl fp) tg (own.map (·.2)) d (wipeD δ (own.map (·.2))) δ2) ∧ ∀ s H C cl fp, XD (bX X scope s H C cl fp) elt δ2 (Rel i d)) ∧
      ∀ out, out.length = ds.length → (∀ (i : Nat) d y, ds[i]? = some d → out[i]? = some y → Rel i d y) → R out) : LcO X elt tg iter [] scope δ R :=
  lco_of own ok (PI.imp hi fun σ H Q ⟨p, B, G, i3, en, q⟩ => ⟨p, B, G, i3, en, fun J ds G' H' ⟨hl, Rel, turn, fin⟩ => q J ds G' H' ⟨hl, fun i out => out.length = i ∧ ∀ (k : Nat) d y, ds[k]? = some d → out[k]? = some y → Rel k d y, ⟨rfl, fun k d y _ h => by simp at h⟩, fun i d out hd ⟨l1, iv⟩ => by
    obtain ⟨δ2, t1, t2⟩ := turn i d hd
    refine ⟨δ2, _, ⟨t1, fun _ _ _ _ _ => ps_n, fun _ s H C cl fp => (t2 s H C cl fp).mono fun y hy => ⟨by rw [List.length_append, l1]; rfl, fun k d' y' h1 h2 => ?_⟩⟩, fun z => Bool.noConfusion z⟩
    by_cases hk : k < out.length
    · rw [List.getElem?_append_left hk] at h2; exact iv k d' y' h1 h2
    · have : k = out.length := by
        have := (List.getElem?_eq_some_iff.mp h2).1
        rw [List.length_append, List.length_singleton] at this
        omega
      subst this
      rw [List.getElem?_concat_length] at h2
      cases h2
      rw [l1] at h1 ⊢
      rw [hd] at h1
      cases h1
      exact hy, fun out ⟨l1, iv⟩ => fin out l1 iv⟩⟩)
/-- a map of known data -/
theorem lco_fun {α : Type} (own : List (Str × Nat)) (ok : BlkOk X.N X.env.scope scope own) (hi : XI X tg iter δ fun ds => ∃ (xs : List α) (enc F : α → Dt), ds = xs.map enc ∧ xs.length ≤ 100000 ∧
      (∀ (i : Nat) x, xs[i]? = some x → ∃ δ2, (∀ s H C cl fp, TgD (bX X scope s H C cl fp) tg (own.map (·.2)) (enc x) (wipeD δ (own.map (·.2))) δ2) ∧ ∀ s H C cl fp, XD (bX X scope s H C cl fp) elt δ2 fun y => y = F x) ∧ R (xs.map F)) : LcO X elt tg iter [] scope δ R :=
  lco_map own ok (PI.imp hi fun σ H Q ⟨p, B, G, i3, en, q⟩ => ⟨p, B, G, i3, en, fun J ds G' H' ⟨xs, enc, F, e, hl, turn, fin⟩ => q J ds G' H' ⟨by rw [e, List.length_map]; exact hl, fun i _ y => ∃ x, xs[i]? = some x ∧ y = F x, fun i d hd => by
    subst e
    rw [List.getElem?_map] at hd
    cases z : xs[i]? with
    | none => rw [z] at hd; cases hd
    | some x =>
      rw [z] at hd; cases hd
      obtain ⟨δ2, t1, t2⟩ := turn i x z
      exact ⟨δ2, t1, fun s H C cl fp => (t2 s H C cl fp).mono fun y hy => ⟨x, z, hy⟩⟩, fun out hlen h => by
    subst e
    rw [List.length_map] at hlen
    have : out = xs.map F := by
      refine List.ext_getElem? fun i => ?_
      by_cases hi : i < xs.length
      · have h2 := h i (enc xs[i]) out[i] (by rw [List.getElem?_map, List.getElem?_eq_getElem hi]; rfl) (List.getElem?_eq_getElem (by omega))
        obtain ⟨x, hx, ey⟩ := h2
        rw [List.getElem?_map, hx, List.getElem?_eq_getElem (by omega), ey]; rfl
      · rw [List.getElem?_eq_none (by omega), List.getElem?_eq_none (by rw [List.length_map]; omega)]
    rw [this]; exact fin⟩⟩)
/-- with a test -/
theorem lco_filter {α : Type} {test : Expr} (own : List (Str × Nat)) (ok : BlkOk X.N X.env.scope scope own) (hi : XI X tg iter δ fun ds => ∃ (xs : List α) (enc F : α → Dt) (c : α → Bool), ds = xs.map enc ∧ xs.length ≤ 100000 ∧
      (∀ (i : Nat) x, xs[i]? = some x → ∃ δ2, (∀ s H C cl fp, TgD (bX X scope s H C cl fp) tg (own.map (·.2)) (enc x) (wipeD δ (own.map (·.2))) δ2) ∧ (∀ s H C cl fp, XT (bX X scope s H C cl fp) test δ2 fun b => b = c x) ∧ (c x = true → ∀ s H C cl fp, XD (bX X scope s H C cl fp) elt δ2 fun y => y = F x)) ∧ R ((xs.filter c).map F)) : LcO X elt tg iter [test] scope δ R :=
  lco_of own ok (PI.imp hi fun σ H Q ⟨p, B, G, i3, en, q⟩ => ⟨p, B, G, i3, en, fun J ds G' H' ⟨xs, enc, F, c, e, hl, turn, fin⟩ => q J ds G' H' ⟨by rw [e, List.length_map]; exact hl, fun i out => out = ((xs.take i).filter c).map F, rfl, fun i d out hd iv => by
    subst e
    rw [List.getElem?_map] at hd
    cases z : xs[i]? with
    | none => rw [z] at hd; cases hd
    | some x =>
      rw [z] at hd; cases hd
      obtain ⟨δ2, t1, t2, t3⟩ := turn i x z
      refine ⟨δ2, fun b => b = c x, ⟨t1, fun s H C cl fp => ps_1 (t2 s H C cl fp), fun hc s H C cl fp => (t3 hc.symm s H C cl fp).mono fun y hy => ?_⟩, fun hc => ?_⟩
      · show _ = ((xs.take (i + 1)).filter c).map F
        rw [hy, iv, take_succ' z, List.filter_append, List.map_append, List.filter_cons, if_pos hc.symm]; rfl
      · show _ = ((xs.take (i + 1)).filter c).map F
        rw [iv, take_succ' z, List.filter_append, List.map_append, List.filter_cons, if_neg (by rw [← hc]; decide)]
        show _ = _ ++ ([] : List Dt)
        rw [List.append_nil], fun out iv => by
      subst e
      rw [iv, List.length_map, List.take_length]; exact fin⟩⟩)
end
/-! ### targets -/
section
variable {X : Cx} {pos : Pos} {δ δ1 δ2 : De} {d : Dt} {ds : List Dt} {js ks : List Nat}
theorem g_name {i : Nat} {x : Str} (hN : X.N.Nodup) (hi : Nx X.N x i) (hs : SetR δ i (.d d) δ1) (hx : Loc X.env.scope x := by first | exact Or.inl rfl | exact Or.inr rfl) (hf : X.fn x = true ∨ X.env.scope.names.lookup x = some .local := by first | exact .inl rfl | exact .inr rfl | assumption) : TgD X (.Name x pos) [i] d δ δ1 :=
  hs.eq ▸ tg_name i hN hi.eq hx hf
theorem g_tup {es : List Expr} {k : Nat} (h : TgsD X es js ds δ δ1) (hc : X.calm = true := by rfl) (hn : (assignEach es X.env).length = ds.length := by rfl) (hst : (assignEach es X.env).findIdx? (·.1) = none := by rfl) : TgD X (.Tuple es k pos) js (.tuple ds) δ δ1 := tg_tup hc h hn hst
theorem gs_c {e : Expr} {es : List Expr} {ls : List Nat} (h1 : TgD X e js d δ δ1) (h2 : TgsD X es ks ds δ1 δ2) (hl : js ++ ks = ls := by rfl) (hs : (assignEach (e :: es) X.env).map (·.2) = assign e X.env :: (assignEach es X.env).map (·.2) := by rfl) : TgsD X (e :: es) ls (d :: ds) δ δ2 := hl ▸ tgs_cons h1 h2 hs
end
/-! ### what is walked -/
section
variable {X : Cx} {tg e a b : Expr} {es : List Expr} {δ : De} {ds : List Dt} {p pos tpos : Pos} {S : List Dt → Prop} {R : Dt → Prop}
def seqD (d : Dt) (S : List Dt → Prop) : Prop := ∃ ds, (d = .list ds ∨ d = .tuple ds) ∧ S ds
theorem seq_l (h : S ds) : seqD (.list ds) S := ⟨ds, .inl rfl, h⟩
theorem seq_t (h : S ds) : seqD (.tuple ds) S := ⟨ds, .inr rfl, h⟩
theorem pi_seq {l : Expr} {tl : TE} (hl : PE X l tl) : PI X tg l (fun σ H R => tl σ H fun v H1 => (∃ a, v = .ref a ∧ (∃ xs, SqL X.K H1 a xs) ∧ R (Itl X.K a) H1) ∨ (∃ a, v = .ref a ∧ (∃ xs, SqT X.K H1 a xs) ∧ R (Itt X.K a) H1)) := by
  refine ⟨fun pins s σ H R I h => ?_⟩
  refine thn (hl.run pins s σ H _ I h) fun v s1 ⟨x, H1, I1, r1, q1⟩ => ?_
  rcases q1 with ⟨a, e, ⟨xs, hq⟩, q⟩ | ⟨a, e, ⟨xs, hq⟩, q⟩
  · subst e
    cases r1
    obtain ⟨its, rv, p, hz⟩ := I1.list hq
    refine wpAny_pyIter_list p.isList ?_
    refine ⟨s1.heap.objs.size, [s1.heap.objs.size], _, _, H1, rfl, I1.kept (t' := s1.toks) fun b o e => Heap.get?_push_of_some _ e, turn_list a _, ⟨_, Heap.get?_push_size _ rfl, rfl, rfl⟩, fun b hb => ?_, q⟩
    have e : b = s1.heap.objs.size := by simpa using hb
    subst e
    exact I1.fpOk (Nat.le_refl _) (I1.hok.fresh (Nat.le_refl _))
  · subst e
    cases r1
    obtain ⟨its, rv, p, hz⟩ := I1.tuple hq
    refine wpAny_pyIter_tuple (show s1.heap.IsTuple a its.toArray from p) ?_
    refine ⟨s1.heap.objs.size, [s1.heap.objs.size], _, _, H1, rfl, I1.kept (t' := s1.toks) fun b o e => Heap.get?_push_of_some _ e, turn_tuple a _, ⟨_, Heap.get?_push_size _ rfl, rfl, rfl⟩, fun b hb => ?_, q⟩
    have e : b = s1.heap.objs.size := by simpa using hb
    subst e
    exact I1.fpOk (Nat.le_refl _) (I1.hok.fresh (Nat.le_refl _))
theorem i_seq (h : XD X e δ fun d => seqD d S) : XI X tg e δ S := PI.imp (pi_seq h) fun σ H Q ⟨p, B, G, i3, en, q⟩ => ⟨p, B, G, i3, en, fun v d G' H' ⟨ds, e1, s⟩ n hv => by
  rcases e1 with e1 | e1
  · subst e1
    cases hv with
    | lst hs ha => exact .inl ⟨_, rfl, ⟨_, exl n.gh hs⟩, q _ ds G' H' s n (yld_list hs ha)⟩
  · subst e1
    cases hv with
    | tup hs ha => exact .inr ⟨_, rfl, ⟨_, ex_t n.gh hs⟩, q _ ds G' H' s n (yld_tup hs ha)⟩⟩
end
end Dv

set_option linter.all false
set_option maxRecDepth 100000
set_option maxHeartbeats 2000000
namespace Dv
open PySem PySem.Spec PyProof.Rows L2
variable [Tbl]
/-! ### built-in names that the module does not write -/
def bnames : List Str := ["isinstance", "int", "bool", "tuple", "list", "str", "len", "all", "any", "max", "min", "abs", "sorted", "repr", "range", "enumerate", "divmod", "set", "sum", "zip", "dict", "ValueError", "ArithmeticError", "LookupError", "range"]
def Free (mg : Str → Option Value) : Prop := ∀ x : Str, bnames.contains x = true → mg x = none
section
variable {X : Cx} {a b c e : Expr} {es : List Expr} {δ : De} {p pos : Pos} {R : Dt → Prop} {d x y : Dt} {ds fs : List Dt} {i j : Int}
def CallP (X : Cx) (f : Value) (ds : List Dt) (R : Dt → Prop) : Prop := ∃ r, CallR X f r ∧ RC X.K r ds R
theorem c_fn {id : String} {x : Str} (F : Free X.mg) (hv : bootBuiltins x = some (.builtin id)) (h : XA X (e :: es) δ fun ds => CallP X (.builtin id) ds R) (hb : bnames.contains x = true := by decide +kernel) (hg : Gl X x := by rfl) (hpl : starEach es X.env = es.map fun e => (false, eval e X.env) := by rfl) (hn : x ≠ "__name__" := by decide) (hdb : (x == ("__debug__" : Str)) = false := by decide) : XD X (.Call (.Name x p) (e :: es) [] pos) δ R :=
  xd_cb (r := fun vs H Q => ∃ r, CallR X (.builtin id) r ∧ r vs H Q) (fun pins s σ H vs us Q I rv ⟨r, hc, q⟩ => hc pins s σ H vs us Q I rv q) hg (F x hb) hv h (fun ds ⟨r, hc, hr⟩ p B G H vs i3 hv Q q => ⟨r, hc, hr p B G H vs i3 hv Q q⟩) hpl hn hdb
theorem c_ty {T : String} {x : Str} (F : Free X.mg) (hv : bootBuiltins x = some (.type T)) (h : XA X (e :: es) δ fun ds => CallP X (.type T) ds R) (hb : bnames.contains x = true := by decide +kernel) (hg : Gl X x := by rfl) (hpl : starEach es X.env = es.map fun e => (false, eval e X.env) := by rfl) (hn : x ≠ "__name__" := by decide) (hdb : (x == ("__debug__" : Str)) = false := by decide) : XD X (.Call (.Name x p) (e :: es) [] pos) δ R :=
  xd_ct (r := fun vs H Q => ∃ r, CallR X (.type T) r ∧ r vs H Q) (fun pins s σ H vs us Q I rv ⟨r, hc, q⟩ => hc pins s σ H vs us Q I rv q) hg (F x hb) hv h (fun ds ⟨r, hc, hr⟩ p B G H vs i3 hv Q q => ⟨r, hc, hr p B G H vs i3 hv Q q⟩) hpl hn hdb
theorem c_len (h : XD X e δ fun d => CallP X (.builtin "len") [d] R) (F : Free X.mg := by assumption) (hg : Gl X "len" := by rfl) (h1 : starEach [e] X.env = (false, eval e X.env) :: starEach [] X.env := by rfl) (h2 : starEach [e] X.env = [e].map fun e => (false, eval e X.env) := by rfl) : XD X (.Call (.Name "len" p) [e] [] pos) δ R :=
  c_fn F PySem.boot_len (a_c (h.mono fun d k => a_n k) h1 h2) (hg := hg)
theorem c_fn1 {id : String} {x : Str} (hv : bootBuiltins x = some (.builtin id)) (h : XD X e δ fun d => CallP X (.builtin id) [d] R) (F : Free X.mg := by assumption) (hb : bnames.contains x = true := by decide +kernel) (hg : Gl X x := by rfl) (hn : x ≠ "__name__" := by decide) (hdb : (x == ("__debug__" : Str)) = false := by decide) (h1 : starEach [e] X.env = (false, eval e X.env) :: starEach [] X.env := by rfl) (h2 : starEach [e] X.env = [e].map fun e => (false, eval e X.env) := by rfl) : XD X (.Call (.Name x p) [e] [] pos) δ R :=
  c_fn F hv (a_c (h.mono fun d k => a_n k) h1 h2) hb hg rfl hn hdb
theorem c_ty1 {T : String} {x : Str} (hv : bootBuiltins x = some (.type T)) (h : XD X e δ fun d => CallP X (.type T) [d] R) (F : Free X.mg := by assumption) (hb : bnames.contains x = true := by decide +kernel) (hg : Gl X x := by rfl) (hn : x ≠ "__name__" := by decide) (hdb : (x == ("__debug__" : Str)) = false := by decide) (h1 : starEach [e] X.env = (false, eval e X.env) :: starEach [] X.env := by rfl) (h2 : starEach [e] X.env = [e].map fun e => (false, eval e X.env) := by rfl) : XD X (.Call (.Name x p) [e] [] pos) δ R :=
  c_ty F hv (a_c (h.mono fun d k => a_n k) h1 h2) hb hg rfl hn hdb
theorem c_fn2 {id : String} {x : Str} (hv : bootBuiltins x = some (.builtin id)) (h : XD X a δ fun d => XD X b δ fun d2 => CallP X (.builtin id) [d, d2] R) (F : Free X.mg := by assumption) (hb : bnames.contains x = true := by decide +kernel) (hg : Gl X x := by rfl) (hn : x ≠ "__name__" := by decide) (hdb : (x == ("__debug__" : Str)) = false := by decide) (h1 : starEach [a, b] X.env = (false, eval a X.env) :: starEach [b] X.env := by rfl) (h2 : starEach [a, b] X.env = [a, b].map fun e => (false, eval e X.env) := by rfl) (h3 : starEach [b] X.env = (false, eval b X.env) :: starEach [] X.env := by rfl) (h4 : starEach [b] X.env = [b].map fun e => (false, eval e X.env) := by rfl) : XD X (.Call (.Name x p) [a, b] [] pos) δ R :=
  c_fn F hv (a_c (h.mono fun d k => a_c (k.mono fun d2 k2 => a_n k2) h3 h4) h1 h2) hb hg (by rw [h4]) hn hdb
theorem c_repr (h : XD X e δ fun d => CallP X (.builtin "repr") [d] R) (F : Free X.mg := by assumption) (hg : Gl X "repr" := by rfl) (h1 : starEach [e] X.env = (false, eval e X.env) :: starEach [] X.env := by rfl) (h2 : starEach [e] X.env = [e].map fun e => (false, eval e X.env) := by rfl) : XD X (.Call (.Name "repr" p) [e] [] pos) δ R := c_fn1 (by decide +kernel) h (hg := hg) (h1 := h1) (h2 := h2)
theorem c_max (h : XD X e δ fun d => CallP X (.builtin "max") [d] R) (F : Free X.mg := by assumption) (hg : Gl X "max" := by rfl) (h1 : starEach [e] X.env = (false, eval e X.env) :: starEach [] X.env := by rfl) (h2 : starEach [e] X.env = [e].map fun e => (false, eval e X.env) := by rfl) : XD X (.Call (.Name "max" p) [e] [] pos) δ R := c_fn1 (by decide +kernel) h (hg := hg) (h1 := h1) (h2 := h2)
theorem c_min (h : XD X e δ fun d => CallP X (.builtin "min") [d] R) (F : Free X.mg := by assumption) (hg : Gl X "min" := by rfl) (h1 : starEach [e] X.env = (false, eval e X.env) :: starEach [] X.env := by rfl) (h2 : starEach [e] X.env = [e].map fun e => (false, eval e X.env) := by rfl) : XD X (.Call (.Name "min" p) [e] [] pos) δ R := c_fn1 (by decide +kernel) h (hg := hg) (h1 := h1) (h2 := h2)
theorem c_all (h : XD X e δ fun d => CallP X (.builtin "all") [d] R) (F : Free X.mg := by assumption) (hg : Gl X "all" := by rfl) (h1 : starEach [e] X.env = (false, eval e X.env) :: starEach [] X.env := by rfl) (h2 : starEach [e] X.env = [e].map fun e => (false, eval e X.env) := by rfl) : XD X (.Call (.Name "all" p) [e] [] pos) δ R := c_fn1 (by decide +kernel) h (hg := hg) (h1 := h1) (h2 := h2)
theorem c_any (h : XD X e δ fun d => CallP X (.builtin "any") [d] R) (F : Free X.mg := by assumption) (hg : Gl X "any" := by rfl) (h1 : starEach [e] X.env = (false, eval e X.env) :: starEach [] X.env := by rfl) (h2 : starEach [e] X.env = [e].map fun e => (false, eval e X.env) := by rfl) : XD X (.Call (.Name "any" p) [e] [] pos) δ R := c_fn1 (by decide +kernel) h (hg := hg) (h1 := h1) (h2 := h2)
theorem c_sum (h : XD X e δ fun d => CallP X (.builtin "sum") [d] R) (F : Free X.mg := by assumption) (hg : Gl X "sum" := by rfl) (h1 : starEach [e] X.env = (false, eval e X.env) :: starEach [] X.env := by rfl) (h2 : starEach [e] X.env = [e].map fun e => (false, eval e X.env) := by rfl) : XD X (.Call (.Name "sum" p) [e] [] pos) δ R := c_fn1 (by decide +kernel) h (hg := hg) (h1 := h1) (h2 := h2)
theorem c_sorted (h : XD X e δ fun d => CallP X (.builtin "sorted") [d] R) (F : Free X.mg := by assumption) (hg : Gl X "sorted" := by rfl) (h1 : starEach [e] X.env = (false, eval e X.env) :: starEach [] X.env := by rfl) (h2 : starEach [e] X.env = [e].map fun e => (false, eval e X.env) := by rfl) : XD X (.Call (.Name "sorted" p) [e] [] pos) δ R := c_fn1 (by decide +kernel) h (hg := hg) (h1 := h1) (h2 := h2)
theorem c_abs (h : XD X e δ fun d => CallP X (.builtin "abs") [d] R) (F : Free X.mg := by assumption) (hg : Gl X "abs" := by rfl) (h1 : starEach [e] X.env = (false, eval e X.env) :: starEach [] X.env := by rfl) (h2 : starEach [e] X.env = [e].map fun e => (false, eval e X.env) := by rfl) : XD X (.Call (.Name "abs" p) [e] [] pos) δ R := c_fn1 (by decide +kernel) h (hg := hg) (h1 := h1) (h2 := h2)
theorem c_tuple (h : XD X e δ fun d => CallP X (.type "tuple") [d] R) (F : Free X.mg := by assumption) (hg : Gl X "tuple" := by rfl) (h1 : starEach [e] X.env = (false, eval e X.env) :: starEach [] X.env := by rfl) (h2 : starEach [e] X.env = [e].map fun e => (false, eval e X.env) := by rfl) : XD X (.Call (.Name "tuple" p) [e] [] pos) δ R := c_ty1 (by decide +kernel) h (hg := hg) (h1 := h1) (h2 := h2)
theorem c_list (h : XD X e δ fun d => CallP X (.type "list") [d] R) (F : Free X.mg := by assumption) (hg : Gl X "list" := by rfl) (h1 : starEach [e] X.env = (false, eval e X.env) :: starEach [] X.env := by rfl) (h2 : starEach [e] X.env = [e].map fun e => (false, eval e X.env) := by rfl) : XD X (.Call (.Name "list" p) [e] [] pos) δ R := c_ty1 (by decide +kernel) h (hg := hg) (h1 := h1) (h2 := h2)
theorem c_intc (h : XD X e δ fun d => CallP X (.type "int") [d] R) (F : Free X.mg := by assumption) (hg : Gl X "int" := by rfl) (h1 : starEach [e] X.env = (false, eval e X.env) :: starEach [] X.env := by rfl) (h2 : starEach [e] X.env = [e].map fun e => (false, eval e X.env) := by rfl) : XD X (.Call (.Name "int" p) [e] [] pos) δ R := c_ty1 (by decide +kernel) h (hg := hg) (h1 := h1) (h2 := h2)
theorem c_max2 (h : XD X a δ fun d => XD X b δ fun d2 => CallP X (.builtin "max") [d, d2] R) (F : Free X.mg := by assumption) (hg : Gl X "max" := by rfl) (h1 : starEach [a, b] X.env = (false, eval a X.env) :: starEach [b] X.env := by rfl) (h2 : starEach [a, b] X.env = [a, b].map fun e => (false, eval e X.env) := by rfl) (h3 : starEach [b] X.env = (false, eval b X.env) :: starEach [] X.env := by rfl) (h4 : starEach [b] X.env = [b].map fun e => (false, eval e X.env) := by rfl) : XD X (.Call (.Name "max" p) [a, b] [] pos) δ R := c_fn2 (by decide +kernel) h (hg := hg) (h1 := h1) (h2 := h2) (h3 := h3) (h4 := h4)
theorem c_min2 (h : XD X a δ fun d => XD X b δ fun d2 => CallP X (.builtin "min") [d, d2] R) (F : Free X.mg := by assumption) (hg : Gl X "min" := by rfl) (h1 : starEach [a, b] X.env = (false, eval a X.env) :: starEach [b] X.env := by rfl) (h2 : starEach [a, b] X.env = [a, b].map fun e => (false, eval e X.env) := by rfl) (h3 : starEach [b] X.env = (false, eval b X.env) :: starEach [] X.env := by rfl) (h4 : starEach [b] X.env = [b].map fun e => (false, eval e X.env) := by rfl) : XD X (.Call (.Name "min" p) [a, b] [] pos) δ R := c_fn2 (by decide +kernel) h (hg := hg) (h1 := h1) (h2 := h2) (h3 := h3) (h4 := h4)
theorem c_divmod (h : XD X a δ fun d => XD X b δ fun d2 => CallP X (.builtin "divmod") [d, d2] R) (F : Free X.mg := by assumption) (hg : Gl X "divmod" := by rfl) (h1 : starEach [a, b] X.env = (false, eval a X.env) :: starEach [b] X.env := by rfl) (h2 : starEach [a, b] X.env = [a, b].map fun e => (false, eval e X.env) := by rfl) (h3 : starEach [b] X.env = (false, eval b X.env) :: starEach [] X.env := by rfl) (h4 : starEach [b] X.env = [b].map fun e => (false, eval e X.env) := by rfl) : XD X (.Call (.Name "divmod" p) [a, b] [] pos) δ R := c_fn2 (by decide +kernel) h (hg := hg) (h1 := h1) (h2 := h2) (h3 := h3) (h4 := h4)
/-! what they answer -/
theorem f_lenL (k : R (.int (ds.length : Int))) : CallP X (.builtin "len") [.list ds] R := ⟨_, call_len_seq, fun p B G H vs i3 hv Q q => by
    obtain ⟨v, rfl, h⟩ := one_of hv
    cases h with
    | lst hs ha => exact ⟨_, _, rfl, .inl (exl i3.gh hs), q _ _ G H (by rw [dpAll_length ha]; exact k) (.refl i3) (.int _)⟩⟩
theorem f_lenT (k : R (.int (ds.length : Int))) : CallP X (.builtin "len") [.tuple ds] R := ⟨_, call_len_seq, fun p B G H vs i3 hv Q q => by
    obtain ⟨v, rfl, h⟩ := one_of hv
    cases h with
    | tup hs ha => exact ⟨_, _, rfl, .inr (ex_t i3.gh hs), q _ _ G H (by rw [dpAll_length ha]; exact k) (.refl i3) (.int _)⟩⟩
theorem f_abs (k : R (.int (if i < 0 then -i else i))) : CallP X (.builtin "abs") [.int i] R := ⟨_, call_abs, fun p B G H vs i3 hv Q q => by
    obtain ⟨v, rfl, h⟩ := one_of hv
    cases h
    exact ⟨i, rfl, q _ _ G H k (.refl i3) (.int _)⟩⟩
theorem f_max2 (k : R (.int (max i j))) (hc : X.calm = true := by rfl) : CallP X (.builtin "max") [.int i, .int j] R := ⟨_, call_max2 hc, fun p B G H vs i3 hv Q q => by
    obtain ⟨v, w, rfl, h1, h2⟩ := two_of hv
    cases h1; cases h2
    refine ⟨i, j, rfl, q _ _ G H k (.refl i3) ?_⟩
    have : (if j > i then j else i) = max i j := by omega
    rw [this]; exact .int _⟩
theorem f_min2 (k : R (.int (min i j))) (hc : X.calm = true := by rfl) : CallP X (.builtin "min") [.int i, .int j] R := ⟨_, call_min2 hc, fun p B G H vs i3 hv Q q => by
    obtain ⟨v, w, rfl, h1, h2⟩ := two_of hv
    cases h1; cases h2
    refine ⟨i, j, rfl, q _ _ G H k (.refl i3) ?_⟩
    have : (if j < i then j else i) = min i j := by omega
    rw [this]; exact .int _⟩
theorem f_int (k : R (.int i)) : CallP X (.type "int") [.int i] R := ⟨_, call_int1, fun p B G H vs i3 hv Q q => by
    obtain ⟨v, rfl, h⟩ := one_of hv
    cases h
    exact .inl ⟨i, rfl, q _ _ G H k (.refl i3) (.int _)⟩⟩
theorem f_intB {c : Bool} (k : R (.int (if c then 1 else 0))) : CallP X (.type "int") [.bool c] R := ⟨_, call_int1, fun p B G H vs i3 hv Q q => by
    obtain ⟨v, rfl, h⟩ := one_of hv
    cases h
    exact .inr ⟨c, rfl, q _ _ G H k (.refl i3) (.int _)⟩⟩
theorem f_max {ns : List Int} {m : Int} (h1 : m ∈ ns) (h2 : ∀ y ∈ ns, y ≤ m) (k : R (.int m)) (hc : X.calm = true := by rfl) : CallP X (.builtin "max") [.list (ns.map PyData.int)] R := ⟨_, cr_max hc, fun p B G H vs i3 hv Q q => by
    obtain ⟨v, rfl, h⟩ := one_of hv
    cases h with
    | lst hs ha =>
      have e := dpAll_ints ha
      subst e
      refine ⟨_, ns, rfl, exl i3.gh hs, List.length_pos_of_mem h1, fun k' k1 k2 => q _ _ G H k (.refl i3) ?_⟩
      have : k' = m := Int.le_antisymm (h2 k' k1) (k2 m h1)
      rw [this]; exact .int _⟩
theorem f_min {ns : List Int} {m : Int} (h1 : m ∈ ns) (h2 : ∀ y ∈ ns, m ≤ y) (k : R (.int m)) (hc : X.calm = true := by rfl) : CallP X (.builtin "min") [.list (ns.map PyData.int)] R := ⟨_, cr_min hc, fun p B G H vs i3 hv Q q => by
    obtain ⟨v, rfl, h⟩ := one_of hv
    cases h with
    | lst hs ha =>
      have e := dpAll_ints ha
      subst e
      refine ⟨_, ns, rfl, exl i3.gh hs, List.length_pos_of_mem h1, fun k' k1 k2 => q _ _ G H k (.refl i3) ?_⟩
      have : k' = m := Int.le_antisymm (k2 m h1) (h2 k' k1)
      rw [this]; exact .int _⟩
theorem f_sum {ns : List Int} (k : R (.int ns.sum)) (hc : X.calm = true := by rfl) : CallP X (.builtin "sum") [.list (ns.map PyData.int)] R := ⟨_, cr_sum hc, fun p B G H vs i3 hv Q q => by
    obtain ⟨v, rfl, h⟩ := one_of hv
    cases h with
    | lst hs ha =>
      have e := dpAll_ints ha
      subst e
      exact ⟨_, ns, rfl, exl i3.gh hs, q _ _ G H k (.refl i3) (.int _)⟩⟩
theorem f_any {bs : List Bool} (k : R (.bool (bs.any _root_.id))) (hc : X.calm = true := by rfl) : CallP X (.builtin "any") [.list (bs.map PyData.bool)] R := ⟨_, cr_any hc, fun p B G H vs i3 hv Q q => by
    obtain ⟨v, rfl, h⟩ := one_of hv
    cases h with
    | lst hs ha =>
      have e := dpAll_bools ha
      subst e
      exact ⟨_, bs, rfl, exl i3.gh hs, q _ _ G H k (.refl i3) (.bl _)⟩⟩
theorem f_all {bs : List Bool} (k : R (.bool (bs.all _root_.id))) (hc : X.calm = true := by rfl) : CallP X (.builtin "all") [.list (bs.map PyData.bool)] R := ⟨_, cr_all hc, fun p B G H vs i3 hv Q q => by
    obtain ⟨v, rfl, h⟩ := one_of hv
    cases h with
    | lst hs ha =>
      have e := dpAll_bools ha
      subst e
      exact ⟨_, bs, rfl, exl i3.gh hs, q _ _ G H k (.refl i3) (.bl _)⟩⟩
/-- all of a list of which it is known that all, or that not all, are true -/
theorem f_allT (h : ∀ d ∈ ds, d = .bool true) (k : R (.bool true)) (hc : X.calm = true := by rfl) : CallP X (.builtin "all") [.list ds] R := by
  have e : ds = (List.replicate ds.length true).map PyData.bool := by
    refine List.ext_getElem (by simp) fun i h1 h2 => ?_
    rw [List.getElem_map, List.getElem_replicate]; exact h _ (List.getElem_mem h1)
  rw [e]
  refine f_all ?_ hc
  have : (List.replicate ds.length true).all _root_.id = true := by simp
  rw [this]; exact k
theorem f_sorted {ns ms : List Int} (hp : ms.Perm ns) (hw : ms.Pairwise (· ≤ ·)) (k : R (.list (ms.map PyData.int))) : CallP X (.builtin "sorted") [.list (ns.map PyData.int)] R := ⟨_, cr_sortA, fun p B G H vs i3 hv Q q => by
    obtain ⟨v, rfl, h⟩ := one_of hv
    cases h with
    | lst hs ha =>
      have e := dpAll_ints ha
      subst e
      refine ⟨_, ns, rfl, exl i3.gh hs, fun ks l k1 k2 hl => ?_⟩
      have : ks = ms := List.Perm.eq_of_pairwise (fun a b _ _ h1 h2 => Int.le_antisymm h1 h2) k2 hw (k1.trans hp.symm)
      subst this
      exact q _ _ _ _ k (.new i3 _ hl) (.lst (.inl (.inl upd_same)) (dpAll_of_ints ks))⟩
theorem f_tupL (k : R (.tuple ds)) : CallP X (.type "tuple") [.list ds] R := ⟨_, call_tuple_of, fun p B G H vs i3 hv Q q => by
    obtain ⟨v, rfl, h⟩ := one_of hv
    cases h with
    | lst hs ha => exact ⟨_, _, rfl, .inl ⟨exl i3.gh hs, fun l hl => q _ _ _ _ k (.new i3 _ hl) (.tup (.inl (.inl upd_same)) (dpAll_ex (Ex.new (i3.gh.free hl)) _ _ ha))⟩⟩⟩
theorem f_tupT (k : R (.tuple ds)) : CallP X (.type "tuple") [.tuple ds] R := ⟨_, call_tuple_of, fun p B G H vs i3 hv Q q => by
    obtain ⟨v, rfl, h⟩ := one_of hv
    cases h with
    | tup hs ha => exact ⟨_, _, rfl, .inr ⟨ex_t i3.gh hs, q _ _ _ _ k (.refl i3) (.tup hs ha)⟩⟩⟩
theorem f_listL (k : R (.list ds)) : CallP X (.type "list") [.list ds] R := ⟨_, call_list_of, fun p B G H vs i3 hv Q q => by
    obtain ⟨v, rfl, h⟩ := one_of hv
    cases h with
    | lst hs ha => exact ⟨_, _, rfl, .inl (exl i3.gh hs), fun l hl => q _ _ _ _ k (.new i3 _ hl) (.lst (.inl (.inl upd_same)) (dpAll_ex (Ex.new (i3.gh.free hl)) _ _ ha))⟩⟩
theorem f_listT (k : R (.list ds)) : CallP X (.type "list") [.tuple ds] R := ⟨_, call_list_of, fun p B G H vs i3 hv Q q => by
    obtain ⟨v, rfl, h⟩ := one_of hv
    cases h with
    | tup hs ha => exact ⟨_, _, rfl, .inr (ex_t i3.gh hs), fun l hl => q _ _ _ _ k (.new i3 _ hl) (.lst (.inl (.inl upd_same)) (dpAll_ex (Ex.new (i3.gh.free hl)) _ _ ha))⟩⟩
theorem f_repr (hgd : X.A.guards = some []) (hu : X.A.units + 64 < cLine) (ok : OkD d 390000 40) (k : R (.str d.shown)) : CallP X (.builtin "repr") [d] R := ⟨_, cr_repr hgd hu, fun p B G H vs i3 hv Q q => by
    obtain ⟨v, rfl, h⟩ := one_of hv
    exact ⟨v, _, rfl, dp_ex i3.gh _ _ h, ok, q _ _ G H k (.refl i3) (.str _)⟩⟩
theorem f_divmod (hc : CDiv i j) (k : R (.tuple [.int (i / j), .int (i % j)])) : CallP X (.builtin "divmod") [.int i, .int j] R := ⟨_, call_divmod, fun p B G H vs i3 hv Q q => by
    obtain ⟨v, w, rfl, h1, h2⟩ := two_of hv
    cases h1; cases h2
    exact ⟨i, j, rfl, hc, fun z hz => q (.ref z) _ _ _ k (.new i3 _ hz) (.tup (.inl (.inl upd_same)) (.cons (.int _) (.cons (.int _) .nil)))⟩⟩
/-- tuples put together -/
theorem bp_catT (hl : ds.length + fs.length ≤ 100000) (k : R (.tuple (ds ++ fs))) : BinP X .Add (.tuple ds) (.tuple fs) R := ⟨_, op_catA, by
  intro p B G H v w i3 h1 h2 Q q
  have f1 := h1
  have f2 := h2
  cases h1 with
  | tup hs ha => cases h2 with
    | tup hs2 ha2 =>
      refine ⟨_, _, _, _, rfl, rfl, ex_t i3.gh hs, ex_t i3.gh hs2, by rw [dpAll_length ha, dpAll_length ha2]; exact Nat.le_trans hl (by decide), fun z => ?_, fun z1 z2 => ?_, fun z1 z2 l hl => q _ _ _ _ k (.new i3 _ hl) (.tup (.inl (.inl upd_same)) (dpAll_ex (Ex.new (i3.gh.free hl)) _ _ (dpAll_append ha ha2)))⟩
      · subst z
        have : ds = [] := by cases ha; rfl
        subst this
        exact q _ _ _ _ k (.refl i3) f2
      · subst z2
        have : fs = [] := by cases ha2; rfl
        subst this
        rw [List.append_nil] at k
        exact q _ _ _ _ k (.refl i3) f1⟩
theorem rd_eqTrue {K : Fg} {R : Dt → Prop} {d : Dt} {b : Bool} (h : d = .bool b) (k : R (.bool b)) : R d := h ▸ k
/-! slices -/
def SlP (X : Cx) (x : Dt) (lo hi : Option Int) (R : Dt → Prop) : Prop := ∃ r, SlR X r ∧ ∀ p B G H v, I3 p B G H → Dz X.K G v x → ∀ Q : VK, (∀ u d G' H', R d → Nxt p G H G' H' → Dz X.K G' u d → Q u H') → r v lo hi H Q
def XOp (X : Cx) (e : Option Expr) (δ : De) (S : Option Int → Prop) : Prop := PO X e (fun σ H Q => ∃ p B G, I3 p B G H ∧ EnvD X.K p B G H σ δ ∧ ∀ o G' H', S o → Nxt p G H G' H' → Q o H')
theorem o_n {S : Option Int → Prop} (k : S none) : XOp X none δ S := PO.imp po_none fun σ H Q ⟨p, B, G, i3, en, q⟩ => q _ G H k (.refl i3)
theorem o_s {S : Option Int → Prop} (h : XD X e δ fun d => ∃ i : Int, d = .int i ∧ S (some i)) : XOp X (some e) δ S := PO.imp (po_some h) fun σ H Q ⟨p, B, G, i3, en, q⟩ => ⟨p, B, G, i3, en, fun v d G' H' ⟨i, r, k⟩ n hv => by subst r; cases hv; exact ⟨i, rfl, q _ G' H' k n⟩⟩
theorem po_many {ι : Sort _} {G : ι → Prop} {t : ι → TO} {eo : Option Expr} (h : ∀ i, G i → PO X eo (t i)) : PO X eo (fun σ H Q => ∃ i, G i ∧ t i σ H Q) := ⟨fun pins s σ H Q I ⟨i, g, q⟩ => (h i g).run pins s σ H Q I q⟩
theorem po_later {eo : Option Expr} : PO X eo (fun σ H Q => ∃ U : Option Int → Prop, XOp X eo δ U ∧ ∃ p B G, I3 p B G H ∧ EnvD X.K p B G H σ δ ∧ ∀ o G' H', U o → Nxt p G H G' H' → Q o H') := po_many fun U h => h
theorem c_slice {lo hi : Option Expr} {p2 : Pos} (h : XD X e δ fun x => XOp X lo δ fun l => XOp X hi δ fun u => SlP X x l u R) : XD X (.Subscript e (.Slice lo hi none p2) pos) δ R :=
  PE.imp (pe_slice (r := fun v lo hi H Q => ∃ r, SlR X r ∧ r v lo hi H Q) (fun pins s σ H x v vl vu lo hi sl Q I rx hs pl pu ⟨r, ho, q⟩ => ho pins s σ H x v vl vu lo hi sl Q I rx hs pl pu q) h (po_later (δ := δ)) (po_later (δ := δ))) fun σ H Q ⟨p, B, G, i3, en, q⟩ =>
    ⟨p, B, G, i3, en, fun v d G1 H1 r1 n1 hv => ⟨_, r1, p, B, G1, i3.nxt n1, en.nxt n1, fun l G2 H2 r2 n2 => ⟨_, r2, p, B, G2, i3.nxt (n1.trans n2), en.nxt (n1.trans n2), fun u G3 H3 ⟨r, ho, k⟩ n3 => by
      have n := (n1.trans n2).trans n3
      exact ⟨r, ho, k p B G3 H3 v (i3.nxt n) (dp_ex (n2.st.1.trans n3.st.1) _ _ hv) _ fun u d G4 H4 rr n4 hu => q u d G4 H4 rr (n.trans n4) hu⟩⟩⟩⟩
theorem sl_l {lo hi : Option Int} (k : R (.list (cutD ds lo hi))) : SlP X (.list ds) lo hi R := ⟨_, sl_list, fun p B G H v i3 hv Q q => by
    cases hv with
    | lst hs ha => exact ⟨_, _, rfl, exl i3.gh hs, fun l hl => q _ _ _ _ k (.new i3 _ hl) (.lst (.inl (.inl upd_same)) (dpAll_ex (Ex.new (i3.gh.free hl)) _ _ (dz_cut ha)))⟩⟩
theorem cutD_all {lo hi : Option Int} (h : HT.sIx ds.length 0 lo = 0 ∧ HT.sIx ds.length ds.length hi = ds.length) : cutD ds lo hi = ds := by
  unfold cutD; rw [h.1, h.2, List.drop_zero, Nat.sub_zero, List.take_length]
theorem sl_t {lo hi : Option Int} (k : R (.tuple (cutD ds lo hi))) : SlP X (.tuple ds) lo hi R := ⟨_, sl_tupA, fun p B G H v i3 hv Q q => by
    have f1 := hv
    cases hv with
    | tup hs ha =>
      refine ⟨_, _, rfl, ex_t i3.gh hs, fun z => ?_, fun z l hl => q _ _ _ _ k (.new i3 _ hl) (.tup (.inl (.inl upd_same)) (dpAll_ex (Ex.new (i3.gh.free hl)) _ _ (dz_cut ha)))⟩
      rw [dpAll_length ha] at z
      rw [cutD_all z] at k
      exact q _ _ _ _ k (.refl i3) f1⟩
end
end Dv

set_option linter.all false
set_option maxRecDepth 100000
set_option maxHeartbeats 2000000
namespace Dv
open PySem PySem.Spec PyProof.Rows L2 RZ
variable [Tbl]
/-! ### sources -/
section
variable {X : Cx} {tg e a b : Expr} {es : List Expr} {δ : De} {ds fs : List Dt} {p pos tpos : Pos} {S : List Dt → Prop} {R : Dt → Prop}
theorem i_range1 (h : XD X e δ fun d => ∃ j : Int, d = .int j ∧ (-(2 ^ 62) ≤ j ∧ j < 2 ^ 62) ∧ S (rngD 0 j.toNat)) (F : Free X.mg := by assumption) (hg : Gl X "range" := by rfl) (h1 : starEach [e] X.env = (false, eval e X.env) :: starEach [] X.env := by rfl) (h2 : starEach [e] X.env = [e].map fun e => (false, eval e X.env) := by rfl) : XI X tg (.Call (.Name "range" p) [e] [] pos) δ S :=
  have ha := a_c (es := []) (T := fun ds => ∃ j : Int, ds = [.int j] ∧ (-(2 ^ 62) ≤ j ∧ j < 2 ^ 62) ∧ S (rngD 0 j.toNat)) (h.mono fun d ⟨j, e1, hj, k⟩ => a_n ⟨j, by rw [e1], hj, k⟩) h1 h2
  PI.imp (pi_range1 hg (F "range" (by decide +kernel)) ha.pa (by rw [h2]; rfl)) fun σ H Q ⟨p, B, G, i3, en, q⟩ => ⟨p, B, G, i3, en, fun v d G' H' ⟨j, r, hj, k⟩ n hv => by
    subst r
    cases hv with
    | cons h1 h2 => cases h2; cases h1; exact ⟨j, rfl, hj.1, hj.2, q _ _ G' H' k n yld_rng⟩⟩
theorem i_range2 (h : XD X a δ fun d => XD X b δ fun d2 => ∃ i j : Int, d = .int i ∧ d2 = .int j ∧ (-(2 ^ 62) ≤ i ∧ i < 2 ^ 62 ∧ -(2 ^ 62) ≤ j ∧ j < 2 ^ 62) ∧ S (rngD i (j - i).toNat)) (F : Free X.mg := by assumption) (hg : Gl X "range" := by rfl) (h1 : starEach [a, b] X.env = (false, eval a X.env) :: starEach [b] X.env := by rfl) (h2 : starEach [a, b] X.env = [a, b].map fun e => (false, eval e X.env) := by rfl) (h3 : starEach [b] X.env = (false, eval b X.env) :: starEach [] X.env := by rfl) (h4 : starEach [b] X.env = [b].map fun e => (false, eval e X.env) := by rfl) : XI X tg (.Call (.Name "range" p) [a, b] [] pos) δ S :=
  have ha := a_c (es := [b]) (T := fun ds => ∃ i j : Int, ds = [.int i, .int j] ∧ (-(2 ^ 62) ≤ i ∧ i < 2 ^ 62 ∧ -(2 ^ 62) ≤ j ∧ j < 2 ^ 62) ∧ S (rngD i (j - i).toNat)) (h.mono fun d k => a_c (k.mono fun d2 ⟨i, j, e1, e2, hj, k⟩ => a_n ⟨i, j, by rw [e1, e2], hj, k⟩) h3 h4) h1 h2
  PI.imp (pi_range2 hg (F "range" (by decide +kernel)) ha.pa (by rw [h2]; rfl) (by rw [h4]; rfl)) fun σ H Q ⟨p, B, G, i3, en, q⟩ => ⟨p, B, G, i3, en, fun v d G' H' ⟨i, j, r, hj, k⟩ n hv => by
    subst r
    cases hv with
    | cons h1 h2 => cases h2 with
      | cons h2 h3 => cases h3; cases h1; cases h2; exact ⟨i, j, rfl, hj, q _ _ G' H' k n yld_rng⟩⟩
/-- enumerate: of a list (L) or of a tuple (T) -/
theorem i_enumL {elts : List Expr} {kk : Nat} (h : XD X e δ fun d => ∃ ds, d = .list ds ∧ S (enD ds)) (F : Free X.mg := by assumption) (hg : Gl X "enumerate" := by rfl) (h1 : starEach [e] X.env = (false, eval e X.env) :: starEach [] X.env := by rfl) (h2 : starEach [e] X.env = [e].map fun e => (false, eval e X.env) := by rfl) : XI X (.Tuple elts kk tpos) (.Call (.Name "enumerate" p) [e] [] pos) δ S :=
  have ha := a_c (es := []) (T := fun ds => ∃ es, ds = [.list es] ∧ S (enD es)) (h.mono fun d ⟨j, e1, k⟩ => a_n ⟨j, by rw [e1], k⟩) h1 h2
  PI.imp (pi_enum hg (F "enumerate" (by decide +kernel)) ha.pa (by rw [h2]; rfl)) fun σ H Q ⟨p, B, G, i3, en, q⟩ => ⟨p, B, G, i3, en, fun v d G' H' ⟨es, r, k⟩ n hv => by
    subst r
    cases hv with
    | cons h1 h2 => cases h2; cases h1 with
      | lst hs ha => exact ⟨_, _, rfl, exl n.gh hs, q _ _ G' H' k n (yld_enum hs ha)⟩⟩
theorem i_enumTup {elts : List Expr} {kk : Nat} (h : XD X e δ fun d => ∃ ds, d = .tuple ds ∧ S (enD ds)) (F : Free X.mg := by assumption) (hg : Gl X "enumerate" := by rfl) (h1 : starEach [e] X.env = (false, eval e X.env) :: starEach [] X.env := by rfl) (h2 : starEach [e] X.env = [e].map fun e => (false, eval e X.env) := by rfl) : XI X (.Tuple elts kk tpos) (.Call (.Name "enumerate" p) [e] [] pos) δ S :=
  have ha := a_c (es := []) (T := fun ds => ∃ es, ds = [.tuple es] ∧ S (enD es)) (h.mono fun d ⟨j, e1, k⟩ => a_n ⟨j, by rw [e1], k⟩) h1 h2
  PI.imp (pi_enumT hg (F "enumerate" (by decide +kernel)) ha.pa (by rw [h2]; rfl)) fun σ H Q ⟨p, B, G, i3, en, q⟩ => ⟨p, B, G, i3, en, fun v d G' H' ⟨es, r, k⟩ n hv => by
    subst r
    obtain ⟨v, rfl, h1⟩ := one_of hv
    cases h1 with
    | tup hs ha => exact ⟨_, _, rfl, ex_t n.gh hs, q _ _ G' H' k n (yld_enumT hs ha)⟩⟩
theorem i_zip {elts : List Expr} {kk : Nat} (h : XD X a δ fun d => XD X b δ fun d2 => ∃ ds fs, ((d = .list ds ∧ d2 = .list fs) ∨ (d = .tuple ds ∧ d2 = .tuple fs)) ∧ S (zipD ds fs)) (F : Free X.mg := by assumption) (hg : Gl X "zip" := by rfl) (h1 : starEach [a, b] X.env = (false, eval a X.env) :: starEach [b] X.env := by rfl) (h2 : starEach [a, b] X.env = [a, b].map fun e => (false, eval e X.env) := by rfl) (h3 : starEach [b] X.env = (false, eval b X.env) :: starEach [] X.env := by rfl) (h4 : starEach [b] X.env = [b].map fun e => (false, eval e X.env) := by rfl) : XI X (.Tuple elts kk tpos) (.Call (.Name "zip" p) [a, b] [] pos) δ S :=
  have ha := a_c (es := [b]) (T := fun es => ∃ ds fs, (es = [.list ds, .list fs] ∨ es = [.tuple ds, .tuple fs]) ∧ S (zipD ds fs)) (h.mono fun d k => a_c (k.mono fun d2 ⟨ds, fs, e1, k⟩ => a_n ⟨ds, fs, by rcases e1 with ⟨e1, e2⟩ | ⟨e1, e2⟩ <;> rw [e1, e2] <;> simp, k⟩) h3 h4) h1 h2
  PI.imp (RZ.pi_zipA hg (F "zip" (by decide +kernel)) ha.pa h1 (back_plain (by rw [h4]))) fun σ H Q ⟨p, B, G, i3, en, q⟩ => ⟨p, B, G, i3, en, fun v d G' H' ⟨ds, fs, r, k⟩ n hv => by
    rcases r with r | r
    · subst r
      obtain ⟨x, y, rfl, h1, h2⟩ := two_of hv
      cases h1 with
      | lst hs ha => cases h2 with
        | lst hs2 ha2 => exact ⟨_, _, _, _, rfl, .inl ⟨exl n.gh hs, exl n.gh hs2, q _ _ G' H' k n (yld_zipL hs ha hs2 ha2)⟩⟩
    · subst r
      obtain ⟨x, y, rfl, h1, h2⟩ := two_of hv
      cases h1 with
      | tup hs ha => cases h2 with
        | tup hs2 ha2 => exact ⟨_, _, _, _, rfl, .inr ⟨ex_t n.gh hs, ex_t n.gh hs2, q _ _ G' H' k n (yld_zipT hs ha hs2 ha2)⟩⟩⟩
end
/-! ### calls of defs -/
section
variable {X : Cx} {k : Nat} {x : Str} {ps ks : List Str} {st : Stmt} {δ : De} {e : Expr} {es : List Expr} {ds : List Dt} {d : Dt} {p pos : Pos} {kws : List Keyword} {S : List Dt → Prop} {U : Dt → Prop}
theorem c_call {R : List Dt → Dt → Prop} (C : Cal X.prog X.w X.K X.mg X.base k x ps st (spD X.K R)) (ha : XA X (e :: es) δ fun ds => ∃ d, R ds d ∧ U d) (hr : Room k X.A := by first | assumption | (refine Room.mono (by assumption) ?_; decide)) (hgd : X.A.guards = some [] := by assumption) (hg : Gl X x := by rfl)
    (hpl : starEach es X.env = es.map fun e => (false, eval e X.env) := by rfl) (hdb : (x == ("__debug__" : Str)) = false := by decide) : XD X (.Call (.Name x p) (e :: es) [] pos) δ U := xd_call C ha (fun ds h => h) hr hgd hg hpl hdb
theorem c_pot {R : List Dt → (Dt → Prop) → Prop} (C : Cal X.prog X.w X.K X.mg X.base k x ps st (spP X.K R)) {i : Nat} {y : Str} {yp : Pos} (hN : Nx X.N y i) (hs : δ[i]? = some .pot) (ha : XA X es δ fun ds => ∃ T : Dt → Prop, R ds T ∧ ∀ d, T d → U d)
    (hv : Vis X.env.scope y := by first | exact Or.inl rfl | exact Or.inr (Or.inl rfl) | exact Or.inr (Or.inr rfl)) (hr : Room k X.A := by first | assumption | (refine Room.mono (by assumption) ?_; decide)) (hgd : X.A.guards = some [] := by assumption) (hg : Gl X x := by rfl)
    (hp1 : starEach (.Name y yp :: es) X.env = (false, eval (.Name y yp) X.env) :: starEach es X.env := by rfl) (hdb : (x == ("__debug__" : Str)) = false := by decide) (hd : (y == ("__debug__" : Str)) = false := by decide) (hcd : (y == ("__classdict__" : Str)) = false := by decide) : XD X (.Call (.Name x p) (.Name y yp :: es) [] pos) δ U := by
  obtain ⟨f, fd, G, hm, hk, hb, _⟩ := C.ex
  refine PE.imp (pe_g G hr hgd hg hm hk hb (pa_cons (pe_var hN.eq hv hd hcd) ha.pa hp1) hdb hp1 (back_plain ha.pl)) fun σ H Q ⟨p, B, G, i3, en, q⟩ => ?_
  obtain ⟨o, h1, z, rfl, rfl⟩ := en.slot i _ hs
  refine ⟨_, h1, some z, B, G, i3, en, fun vs ds G' H' ⟨T, hT, hU⟩ n hv => ?_⟩
  have i3' := i3.nxt n
  refine ⟨del (some z) H', G', z, vs, ds, T, ⟨Exd.hide _ _, i3'.gh, fun y hy => ?_, i3'.tz⟩, rfl, hv, hT, fun v d G2 H2 u st2 i2 hd => q v d G2 H2 (hU d u) (n.trans (.ofPot i3' st2 i2)) hd⟩
  cases hy
  obtain ⟨_, h2, h3⟩ := i3'.pot z rfl
  refine ⟨?_, h2, h3⟩
  unfold del; rw [if_pos rfl]
/-- f(..), the answer a new list of nobody's -/
theorem o_call {R : List Dt → List Dt → Prop} {T : List Dt → Prop} (C : Cal X.prog X.w X.K X.mg X.base k x ps st (spO X.K R)) (ha : XA X (e :: es) δ fun ds => ∃ fs, R ds fs ∧ T fs)
    (hr : Room k X.A := by first | assumption | (refine Room.mono (by assumption) ?_; decide)) (hgd : X.A.guards = some [] := by assumption) (hg : Gl X x := by rfl) (hpl : starEach es X.env = es.map fun e => (false, eval e X.env) := by rfl) (hdb : (x == ("__debug__" : Str)) = false := by decide) :
    XO X (.Call (.Name x p) (e :: es) [] pos) δ T := by
  obtain ⟨f, fd, F, hm, hk, hb, _⟩ := C.ex
  refine PE.imp (pe_g F hr hgd hg hm hk hb ha.pa hdb (by rw [hpl]; exact ha.pl) (back_plain hpl)) fun σ H Q ⟨p, B, G, i3, en, q⟩ => ⟨p, B, G, i3, en, fun vs dd G1 H1 ⟨fs, hR, hT⟩ n hv => ?_⟩
  have i31 := i3.nxt n
  refine ⟨G1, _, fs, ⟨i31.gh, i31.tz⟩, hv, hR, fun l xs G2 H2 st2 e2 g2 hl gl hl2 ha2 => ?_⟩
  have n2 : Nxt p G1 H1 G2 H2 := .ofExd i31 st2 e2 g2
  exact q l xs fs G2 H2 hT (n.trans n2) (back_none n hl) gl (pot_ne i31 hl) hl2 ha2
/-! calls by keywords -/
theorem kw_n (k : S []) : XK X [] δ S := ⟨PK.imp pk_nil fun σ H Q ⟨p, B, G, i3, en, q⟩ => q [] [] G H k (.refl i3) .nil⟩
theorem kw_c {nm : Option Str} {kpos : Pos} (h : XD X e δ fun d => XK X kws δ fun ds => S (d :: ds)) : XK X (⟨nm, e, kpos⟩ :: kws) δ S :=
  have hl : PK X kws (fun σ H Q => ∃ T : List Dt → Prop, XK X kws δ T ∧ rA X.K δ T σ H Q) := ⟨fun pos pins s σ H Q I ⟨T, g, q⟩ => g.pk.run pos pins s σ H Q I q⟩
  ⟨PK.imp (pk_cons h hl) fun σ H Q ⟨p, B, G, i3, en, q⟩ => ⟨p, B, G, i3, en, fun v d1 G1 H1 r1 n1 h1 => ⟨_, r1, p, B, G1, i3.nxt n1, en.nxt n1, fun vs ds2 G2 H2 r2 n2 h2 =>
    q (v :: vs) (d1 :: ds2) G2 H2 r2 (n1.trans n2) (.cons (dp_ex n2.st.1 _ _ h1) h2)⟩⟩⟩
theorem c_callK {R : List Dt → Dt → Prop} (ix : List Nat) (C : Cal X.prog X.w X.K X.mg X.base k x ps st (spD X.K R)) (ha : XK X kws δ fun ds => ds.length = ks.length ∧ ∃ d, R (pick ix ds) d ∧ U d)
    (hb : ∀ (kV doc pm : Value) (an : Option Addr) (cdv ct : Value) (ws : List Value), ws.length = ks.length → bindArgs (PySem.W.fnOf x x (defArgs st) (defBody st) (defScope st) .none kV doc pm an cdv ct) ⟨[], ks.zip ws⟩ = pure (ps.zip (pick ix ws)))
    (hall : (backToKw pos (keywordEach kws X.env)).all (·.1.isSome) = true := by rfl) (hks : (backToKw pos (keywordEach kws X.env)).filterMap (·.1) = ks := by rfl) (hpl : ((backTo pos (starEach [] X.env)).any (·.1) || (backToKw pos (keywordEach kws X.env)).any (·.1.isNone)) = false := by rfl)
    (hr : Room k X.A := by first | assumption | (refine Room.mono (by assumption) ?_; decide)) (hgd : X.A.guards = some [] := by assumption) (hg : Gl X x := by rfl) (hdb : (x == ("__debug__" : Str)) = false := by decide) : XD X (.Call (.Name x p) [] kws pos) δ U := by
  obtain ⟨f, fd, F, hm, hk, _, fn⟩ := C.ex
  obtain ⟨oc, od, kV, doc, pm, an, cdv, ct, osl, rfl, lk, hcd⟩ := fn.ex
  refine ⟨fun pins s σ H Q I ⟨p, B, G, i3, en, q⟩ => ?_⟩
  refine wpAny_Call_Name_kw (ld_glob I hg hm ?_ hdb)
  refine PySem.W.callWith_KW0 (h₀ := X.base) I.ok.mod.kin hk hall (thn (ha.pk.run pos pins s σ H (fun vs H1 => ∃ G1 ds, (ds.length = ks.length ∧ ∃ d, R (pick ix ds) d ∧ U d) ∧ Nxt p G H G1 H1 ∧ DzAll X.K G1 vs ds) I ⟨p, B, G, i3, en, fun vs ds' G1 H1 r n hv => ⟨G1, ds', r, n, hv⟩⟩) fun ws s1 ⟨zs, H1, I1, rz, G1, ds, ⟨hl, d, hR, hU⟩, n, hv⟩ => ⟨I1.kIn, ?_⟩) hpl
  rw [hks]
  have hlw : ws.length = ks.length := by rw [← rz.length, dpAll_length hv]; exact hl
  have hsp : spD X.K R (pick ix zs) H1 Q E0 := sp_use (i3.nxt n) (pick_dz hv ix) hR fun v G2 H2 n2 hd => q v d G2 H2 hU (n.trans n2) hd
  refine wpAny_call (codeAny_mono (F.run X.A X.stack s1 H1 ⟨[], ks.zip ws⟩ (pick ix ws) (pick ix zs) Q E0 hr hgd I1.env0 (.of_eq (hb kV doc pm an cdv ct ws hlw)) (pick_vals rz ix) hsp) fun r s' hq => ?_)
  have z := fnG_end I1 hq
  cases r with
  | error e => exact z
  | ok fl => cases fl <;> first | exact z | exact False.elim z
end
/-! ### new lists -/
section
variable {X : Cx} {a b e : Expr} {es : List Expr} {δ : De} {ds : List Dt} {d : Dt} {p pos : Pos} {S : List Dt → Prop} {U : Dt → Prop}
theorem o_lst (h : XA X es δ fun ds => ds.length ≤ 100000 ∧ S ds) : XO X (.List es pos) δ S := (xo_lst h fun ds k => k.1).mono fun ds k => k.2
theorem o_listOf (h : XD X e δ fun d => seqD d S) (F : Free X.mg := by assumption) (hg : Gl X "list" := by rfl) (hs : starEach [e] X.env = (false, eval e X.env) :: starEach [] X.env := by rfl) : XO X (.Call (.Name "list" p) [e] [] pos) δ S :=
  PE.imp (pe_callTy call_list_of hg (F "list" (by decide +kernel)) (by decide +kernel) (pa_cons h pa_nil hs) (he := hs)) fun σ H Q ⟨p, B, G, i3, en, q⟩ => ⟨p, B, G, i3, en, fun v d G' H' ⟨ds, hd, k⟩ n hv => by
    have i3' := i3.nxt n
    have fin : ∀ (xs : List V), DzAll X.K G' xs ds → ∀ l, H' l = none → Q (.ref l) (upd H' l (.lst xs)) := fun xs ha l hl => q l xs ds G' _ k (n.trans (.newH i3' (.lst xs) hl)) (back_none n hl) (i3'.gh.free hl) (pot_ne i3' hl) upd_same ha
    rcases hd with e1 | e1
    · subst e1
      cases hv with
      | lst hs ha => exact ⟨_, _, rfl, .inl (exl i3'.gh hs), fin _ ha⟩
    · subst e1
      cases hv with
      | tup hs ha => exact ⟨_, _, rfl, .inr (ex_t i3'.gh hs), fin _ ha⟩⟩
/-- an own list is read by an expression that gives no list -/
def flat : Dt → Prop
  | .list _ => False
  | .tuple _ => False
  | .dict _ => False
  | _ => True
theorem flat_any {K : Fg} {G G' : Hp} {v : V} (h : Dz K G v d) (f : flat d) : Dz K G' v d := by
  cases h with
  | non => exact .non
  | bl b => exact .bl b
  | int i => exact .int i
  | str x => exact .str x
  | lst _ _ => exact f.elim
  | tup _ _ => exact f.elim
  | dct _ => exact f.elim
  | di _ => exact f.elim
theorem c_frz (i : Nat) (hs : δ[i]? = some (.own ds)) (h : XD X e (δ.set i (.d (.list ds))) fun d => flat d ∧ U d) : XD X e δ U := PE.imp h fun σ H Q ⟨p, B, G, i3, en, q⟩ => by
  obtain ⟨G', s, i', e'⟩ := frz_ok i3 en hs
  exact ⟨p, B, G', i', e', fun u d G2 H2 ⟨f, r⟩ n hd => q u d G H2 r ⟨.refl _ _, n.ex, fun a w h => n.gh a w (n.st.1 a w (s.1 a w h)), n.pot, n.dom, n.tb⟩ (flat_any hd f)⟩
theorem c_ownAt {x : Str} {i : Nat} {np : Pos} (hN : Nx X.N x i) (hs : δ[i]? = some (.own ds)) (h : XD X b δ fun y => ∃ k : Int, ∃ d, y = .int k ∧ atI ds k = some d ∧ U d)
    (hv : Vis X.env.scope x := by first | exact Or.inl rfl | exact Or.inr (Or.inl rfl) | exact Or.inr (Or.inr rfl)) (hd : (x == ("__debug__" : Str)) = false := by decide) (hcd : (x == ("__classdict__" : Str)) = false := by decide) (hp : PlainIx b := by exact fun _ _ => rfl) : XD X (.Subscript (.Name x np) b pos) δ U :=
  PE.imp (pe_ix ix_list (pe_var hN.eq hv hd hcd) h hp) fun σ H Q ⟨p, B, G, i3, en, q⟩ => by
    obtain ⟨o', h1, l, xs, rfl, h2, h3, h4, h5, h6⟩ := en.slot i _ hs
    refine ⟨_, h1, p, B, G, i3, en, fun v dd G' H' ⟨k, d, r, hk, hU⟩ n hv' => ?_⟩
    subst r
    cases hv'
    have h5' : H' l = some (.lst xs) := n.ex _ _ (by rw [del_ne h4]; exact h5) (fun _ z => by cases z)
    obtain ⟨w, e1, e2⟩ := atI_all h6 hk
    exact ⟨l, xs, k, w, rfl, rfl, .inl (.inl h5'), e1, q w d G' H' hU n (dp_ex n.st.1 _ _ e2)⟩
theorem c_ownLen {x : Str} {i : Nat} {np : Pos} (hN : Nx X.N x i) (hs : δ[i]? = some (.own ds)) (h : U (.int (ds.length : Int))) (F : Free X.mg := by assumption)
    (hv : Vis X.env.scope x := by first | exact Or.inl rfl | exact Or.inr (Or.inl rfl) | exact Or.inr (Or.inr rfl)) (hd : (x == ("__debug__" : Str)) = false := by decide) (hcd : (x == ("__classdict__" : Str)) = false := by decide) (hg : Gl X "len" := by rfl) (h1 : starEach [.Name x np] X.env = (false, eval (.Name x np) X.env) :: starEach [] X.env := by rfl) : XD X (.Call (.Name "len" p) [.Name x np] [] pos) δ U :=
  PE.imp (pe_callB call_len_seq hg (F "len" (by decide +kernel)) PySem.boot_len (pa_cons (pe_var hN.eq hv hd hcd) pa_nil h1) (he := h1)) fun σ H Q ⟨p, B, G, i3, en, q⟩ => by
    obtain ⟨o', k1, l, xs, rfl, h2, h3, h4, h5, h6⟩ := en.slot i _ hs
    exact ⟨_, k1, l, xs, rfl, .inl (.inl (.inl h5)), q _ _ G H (by rw [dpAll_length h6]; exact h) (.refl i3) (.int _)⟩
end
/-! ### statements -/
section
variable {X : Cx} {sts tss rest : List Stmt} {a b c e : Expr} {es : List Expr} {δ δ1 δ2 : De} {o : Out} {d : Dt} {ds : List Dt} {pos p pos' : Pos} {x : Str} {i : Nat}
theorem s_let {F : Dt → De} (hi : Nx X.N x i) (hF : ∀ d, SetR δ i (.d d) (F d)) (h : XD X e δ fun d => SsD X rest (F d) o) (hN : X.N.Nodup := by assumption) (hx : Loc X.env.scope x := by first | exact Or.inl rfl | exact Or.inr rfl)
    (hs : swapsWith e (some (.Name x pos')) pos.line X.env = pure false := by rfl) (hf : X.fn x = true ∨ X.env.scope.names.lookup x = some .local := by first | exact .inl rfl | exact .inr rfl | assumption) : SsD X (.Assign [.Name x pos'] e pos :: rest) δ o :=
  ss_seq (N := fun δ' => SsD X rest δ' o) (sd_set i hN h (fun d k => by rw [(hF d).eq]; exact k) hi.eq hx hs hf) fun δ' h => h
theorem s_ret' (h : XD X e δ o.rt) : SsD X (.Return (some e) pos :: rest) δ o := ss_end (sd_ret h fun d k => k)
theorem s_do (h : XD X e δ fun _ => SsD X rest δ o) (hs : swapsWith e none pos.line X.env = pure false := by rfl) : SsD X (.Expr e pos :: rest) δ o := ss_seq (N := fun δ' => SsD X rest δ' o) (sd_expr h (fun d k => k) hs) fun δ' h => h
/-- what comes behind -/
abbrev Out.then (o : Out) (X : Cx) (rest : List Stmt) : Out := { o with nx := fun δ' => SsD X rest δ' o }
theorem s_ifs (h : XT X c δ fun k => (k = true → SsD X sts δ (o.then X rest)) ∧ (k = false → SsD X tss δ (o.then X rest))) : SsD X (.If c sts tss pos :: rest) δ o :=
  ss_seq (N := fun δ' => SsD X rest δ' o) (sd_if h (fun k => k.1 rfl) fun k => k.2 rfl) fun δ' h => h
theorem ss_next (h : o.nx δ) : SsD X [] δ o := ss_nil h
/-- a, b = x, y -/
theorem s_two {x y : Str} {i j : Nat} {px py pt : Pos} {kt k2 pt2} {F : Dt → De} {G : Dt → Dt → De} (hi : Nx X.N x i) (hj : Nx X.N y j) (hF : ∀ d, SetR δ i (.d d) (F d)) (hG : ∀ d d2, SetR (F d) j (.d d2) (G d d2)) (h : XD X a δ fun d => XD X b δ fun d2 => SsD X rest (G d d2) o)
    (hij : i ≠ j := by decide) (hN : X.N.Nodup := by assumption) (hc : X.calm = true := by rfl) (hx : X.env.scope.names.lookup x = some .local := by rfl) (hy : X.env.scope.names.lookup y = some .local := by rfl)
    (hw : swappedStores [.Tuple [.Name x px, .Name y py] kt pt] (.Tuple [a, b] k2 pt2) X.env = pure (some [x, y]) := by rfl) (hs : swapsWithSole [.Tuple [.Name x px, .Name y py] kt pt] (.Tuple [a, b] k2 pt2) pos.line X.env = pure false := by rfl)
    (h1 : starEach [a, b] X.env = (false, eval a X.env) :: starEach [b] X.env := by rfl) (h2 : starEach [a, b] X.env = [a, b].map fun e => (false, eval e X.env) := by rfl) (h3 : starEach [b] X.env = (false, eval b X.env) :: starEach [] X.env := by rfl) (h4 : starEach [b] X.env = [b].map fun e => (false, eval e X.env) := by rfl) :
    SsD X (.Assign [.Tuple [.Name x px, .Name y py] kt pt] (.Tuple [a, b] k2 pt2) pos :: rest) δ o :=
  ss_seq (N := fun δ' => SsD X rest δ' o) (sd_par (S := fun ds => ∃ d d2, ds = [d, d2] ∧ SsD X rest (G d d2) o) i j hN hij (a_c (h.mono fun d k => a_c (k.mono fun d2 k2 => a_n ⟨d, d2, rfl, k2⟩) h3 h4) h1 h2) (fun ds ⟨d, d2, e, k⟩ => ⟨d, d2, e, by rw [(hF d).eq, (hG d d2).eq]; exact k⟩) hc hi.eq hj.eq hx hy hw hs) fun δ' h => h
theorem s_three {x y z : Str} {i j l : Nat} {px py pz pt : Pos} {kt k2 pt2} {F : Dt → De} {G : Dt → Dt → De} {L : Dt → Dt → Dt → De} (hi : Nx X.N x i) (hj : Nx X.N y j) (hl : Nx X.N z l) (hF : ∀ d, SetR δ i (.d d) (F d)) (hG : ∀ d d2, SetR (F d) j (.d d2) (G d d2)) (hL : ∀ d d2 d3, SetR (G d d2) l (.d d3) (L d d2 d3)) (h : XD X a δ fun d => XD X b δ fun d2 => XD X c δ fun d3 => SsD X rest (L d d2 d3) o)
    (hij : i ≠ j := by decide) (hil : i ≠ l := by decide) (hjl : j ≠ l := by decide) (hN : X.N.Nodup := by assumption) (hc : X.calm = true := by rfl) (hx : X.env.scope.names.lookup x = some .local := by rfl) (hy : X.env.scope.names.lookup y = some .local := by rfl) (hz : X.env.scope.names.lookup z = some .local := by rfl)
    (hw : swappedStores [.Tuple [.Name x px, .Name y py, .Name z pz] kt pt] (.Tuple [a, b, c] k2 pt2) X.env = pure (some [x, y, z]) := by rfl) (hs : swapsWithSole [.Tuple [.Name x px, .Name y py, .Name z pz] kt pt] (.Tuple [a, b, c] k2 pt2) pos.line X.env = pure false := by rfl)
    (h1 : starEach [a, b, c] X.env = (false, eval a X.env) :: starEach [b, c] X.env := by rfl) (h2 : starEach [a, b, c] X.env = [a, b, c].map fun e => (false, eval e X.env) := by rfl) (h3 : starEach [b, c] X.env = (false, eval b X.env) :: starEach [c] X.env := by rfl) (h4 : starEach [b, c] X.env = [b, c].map fun e => (false, eval e X.env) := by rfl) (h5 : starEach [c] X.env = (false, eval c X.env) :: starEach [] X.env := by rfl) (h6 : starEach [c] X.env = [c].map fun e => (false, eval e X.env) := by rfl) :
    SsD X (.Assign [.Tuple [.Name x px, .Name y py, .Name z pz] kt pt] (.Tuple [a, b, c] k2 pt2) pos :: rest) δ o :=
  ss_seq (N := fun δ' => SsD X rest δ' o) (sd_par3 (S := fun ds => ∃ d d2 d3, ds = [d, d2, d3] ∧ SsD X rest (L d d2 d3) o) i j l hN hij hil hjl (a_c (h.mono fun d k => a_c (k.mono fun d2 k2 => a_c (k2.mono fun d3 k3 => a_n ⟨d, d2, d3, rfl, k3⟩) h5 h6) h3 h4) h1 h2) (fun ds ⟨d, d2, d3, e, k⟩ => ⟨d, d2, d3, e, by rw [(hF d).eq, (hG d d2).eq, (hL d d2 d3).eq]; exact k⟩) hc hi.eq hj.eq hl.eq hx hy hz hw hs) fun δ' h => h
/-- targets that set slots -/
theorem s_unp {tg : Expr} (h : XD X e δ fun d => ∃ δ' js, TgD X tg js d δ δ' ∧ SsD X rest δ' o) (hs : swapsWithSole [tg] e pos.line X.env = pure false := by rfl) (hw : swappedStores [tg] e X.env = pure none := by rfl)
    (h1 : (assignEach [tg] X.env).map (·.2) = [assign tg X.env] := by rfl) : SsD X (.Assign [tg] e pos :: rest) δ o := by
  have pg : PG X tg (fun v σ H Q => ∃ d δ' js, TgD X tg js d δ δ' ∧ SsD X rest δ' o ∧ rG X.K js d δ δ' v σ H Q) := ⟨fun pins s σ H v u Q I r ⟨d, δ', js, a, _, q⟩ => PG.run a pins s σ H v u Q I r q⟩
  refine ss_seq (N := fun δ' => SsD X rest δ' o) ?_ fun δ' h => h
  exact PS.imp (ps_asg h pg hs hw h1) fun D σ H ⟨p, B, G, i3, en, q⟩ => ⟨p, B, G, i3, en, fun v d G' H' ⟨δ', js, t, k⟩ n hv => ⟨d, δ', js, t, k, p, B, G', i3.nxt n, en.nxt n, hv, fun σ' en' _ => q.nx _ _ G' H' k (n.stepB i3) (i3.nxt n) en'⟩⟩
/-- own lists -/
theorem s_newOwn {F : List Dt → De} (hi : Nx X.N x i) (hF : ∀ ds, SetR δ i (.own ds) (F ds)) (h : XO X e δ fun ds => SsD X rest (F ds) o) (hN : X.N.Nodup := by assumption) (hx : Loc X.env.scope x := by first | exact Or.inl rfl | exact Or.inr rfl)
    (hs : swapsWith e (some (.Name x pos')) pos.line X.env = pure false := by rfl) (hf : X.fn x = true ∨ X.env.scope.names.lookup x = some .local := by first | exact .inl rfl | exact .inr rfl | assumption) : SsD X (.Assign [.Name x pos'] e pos :: rest) δ o :=
  ss_seq (N := fun δ' => SsD X rest δ' o) (sd_own i hN h (fun ds k => by rw [(hF ds).eq]; exact k) hi.eq hx hs hf) fun δ' h => h
theorem s_append {apos cpos np : Pos} {F : Dt → De} (hi : Nx X.N x i) (hs : δ[i]? = some (.own ds)) (hF : ∀ d, SetR δ i (.own (ds ++ [d])) (F d)) (hz : ds.length < 100000) (h : XD X e δ fun d => SsD X rest (F d) o)
    (hv : Vis X.env.scope x := by first | exact Or.inl rfl | exact Or.inr (Or.inl rfl) | exact Or.inr (Or.inr rfl)) (hd : (x == ("__debug__" : Str)) = false := by decide) (hcd : (x == ("__classdict__" : Str)) = false := by decide)
    (hbase : attributeBase (.Name x np) "append" X.env (eval (.Name x np) X.env) = eval (.Name x np) X.env := by rfl)
    (hfew : ((backTo cpos (starEach [e] X.env)).all (fun x => !x.1) && (backToKw cpos (keywordEach [] X.env)).all (fun x => x.1.isSome) && decide (([e] : List Expr).length + ([] : List Keyword).length + (if ([] : List Keyword).isEmpty then 0 else 1) < 30)) = true := by rfl)
    (hline : (apos.endLine == cpos.line) = true := by rfl) (hst : starEach [e] X.env = [(false, eval e X.env)] := by rfl) (hsw : swapsWith (.Call (.Attribute (.Name x np) "append" apos) [e] [] cpos) none pos.line X.env = pure false := by rfl) :
    SsD X (.Expr (.Call (.Attribute (.Name x np) "append" apos) [e] [] cpos) pos :: rest) δ o :=
  ss_seq (N := fun δ' => SsD X rest δ' o) (sd_app i hs h (fun d k => by rw [(hF d).eq]; exact k) hz hi.eq hv hd hcd hbase hfew hline hst hsw) fun δ' h => h
theorem s_freeze {δ' : De} (i : Nat) (hs : δ[i]? = some (.own ds)) (hF : SetR δ i (.d (.list ds)) δ') (k : SsD X sts δ' o) : SsD X sts δ o := ss_frz i hs (by rw [hF.eq]; exact k)
theorem s_retO {np : Pos} (hi : Nx X.N x i) (hs : δ[i]? = some (.own ds)) (hR : o.ro ds) (hv : Vis X.env.scope x := by first | exact Or.inl rfl | exact Or.inr (Or.inl rfl) | exact Or.inr (Or.inr rfl)) (hd : (x == ("__debug__" : Str)) = false := by decide)
    (hcd : (x == ("__classdict__" : Str)) = false := by decide) : SsD X (.Return (some (.Name x np)) pos :: rest) δ o := s_retNew i hs hR hi.eq hv hd hcd
theorem s_retL {np : Pos} (hi : Nx X.N x i) (hs : δ[i]? = some (.own ds)) (hR : o.rt (.list ds)) (hv : Vis X.env.scope x := by first | exact Or.inl rfl | exact Or.inr (Or.inl rfl) | exact Or.inr (Or.inr rfl)) (hd : (x == ("__debug__" : Str)) = false := by decide)
    (hcd : (x == ("__classdict__" : Str)) = false := by decide) : SsD X (.Return (some (.Name x np)) pos :: rest) δ o := s_retOwn i hs hR hi.eq hv hd hcd
/-- return of a new list of nobody's -/
theorem s_retE (h : XO X e δ o.ro) : SsD X (.Return (some e) pos :: rest) δ o :=
  ss_end (PS.imp (ps_ret h) fun D σ H ⟨p, B, G, i3, en, q⟩ => ⟨p, B, G, i3, en, fun l xs ds G' H' r n h0 g pl hl ha => q.ro ds l xs G' H' r (n.stepB i3) (i3.nxt n) (i3.bh.free h0) g pl hl ha⟩)
/-- y = [..] on one line -/
theorem s_letC {elt tg iter : Expr} {ifs : List Expr} {scope : Scope} {spos : Pos} {F : Dt → De} (hi : Nx X.N x i) (hF : ∀ d, SetR δ i (.d d) (F d)) (h : LcO X elt tg iter ifs scope δ fun ds => SsD X rest (F (.list ds)) o) (hN : X.N.Nodup := by assumption) (hyl : X.env.scope.names.lookup x = some .local := by rfl)
    (hsw : swapsWith (.ListComp elt [⟨tg, iter, ifs, 0⟩] scope pos) (some (.Name x pos')) spos.line X.env = pure true := by exact sw_true rfl rfl rfl (by decide +kernel)) (hc : X.calm = true := by rfl) (hs : ∀ x, foldedSetIterable iter X.env x = pure x := by intro _; rfl) :
    SsD X (.Assign [.Name x pos'] (.ListComp elt [⟨tg, iter, ifs, 0⟩] scope pos) spos :: rest) δ o := by
  obtain ⟨own, wi, g, tt, te, a1, a2, a3, a4, a5, a6⟩ := h.ex
  refine ss_seq (N := fun δ' => SsD X rest δ' o) ?_ fun δ' h => h
  exact PS.imp (ps_setLc hc hN hi.eq hyl hsw a1 a2 a3 a4 a5 hs) fun D σ H ⟨p, B, G, i3, en, q⟩ => a6 σ H _ ⟨p, B, G, i3, en, fun l xs ds G' H' r n h0 g pl hl ha => by
    obtain ⟨n2, hd⟩ := own_data i3 n h0 g pl hl ha
    exact q.nx _ _ _ H' r (n2.stepB i3) (i3.nxt n2) (by rw [← (hF (.list ds)).eq]; exact (en.nxt n2).set hd)⟩
theorem s_ownC {elt tg iter : Expr} {ifs : List Expr} {scope : Scope} {spos : Pos} {F : List Dt → De} (hi : Nx X.N x i) (hF : ∀ ds, SetR δ i (.own ds) (F ds)) (h : LcO X elt tg iter ifs scope δ fun ds => SsD X rest (F ds) o) (hN : X.N.Nodup := by assumption) (hyl : X.env.scope.names.lookup x = some .local := by rfl)
    (hsw : swapsWith (.ListComp elt [⟨tg, iter, ifs, 0⟩] scope pos) (some (.Name x pos')) spos.line X.env = pure true := by exact sw_true rfl rfl rfl (by decide +kernel)) (hc : X.calm = true := by rfl) (hs : ∀ x, foldedSetIterable iter X.env x = pure x := by intro _; rfl) :
    SsD X (.Assign [.Name x pos'] (.ListComp elt [⟨tg, iter, ifs, 0⟩] scope pos) spos :: rest) δ o := by
  obtain ⟨own, wi, g, tt, te, a1, a2, a3, a4, a5, a6⟩ := h.ex
  refine ss_seq (N := fun δ' => SsD X rest δ' o) ?_ fun δ' h => h
  exact PS.imp (ps_setLc hc hN hi.eq hyl hsw a1 a2 a3 a4 a5 hs) fun D σ H ⟨p, B, G, i3, en, q⟩ => a6 σ H _ ⟨p, B, G, i3, en, fun l xs ds G' H' r n h0 g pl hl ha => by
    exact q.nx _ _ G' H' r (n.stepB i3) (i3.nxt n) (by rw [← (hF ds).eq]; exact en.putOwn i3 n h0 g pl hl ha i)⟩
/-- for: Iv, an invariant over the turns -/
theorem s_for {tg iter : Expr} (h : XI X tg iter δ fun ds => ∃ Iv : Nat → De → Prop, Iv 0 δ ∧
      (∀ (i : Nat) d δ', ds[i]? = some d → Iv i δ' → ∃ δ2 js, TgD X tg js d δ' δ2 ∧ SsD X sts δ2 { nx := Iv (i + 1), rt := o.rt, ro := o.ro, bk := fun δ' => SsD X rest δ' o, ct := Iv (i + 1) }) ∧ ∀ δ', Iv ds.length δ' → SsD X rest δ' o)
    (hp : PassesOwn (model X.prog X.w) X.A X.env X.xe := by exact PassesOwn.never) (hc : X.calm = true := by rfl) (hs : ∀ x, foldedSetIterable iter X.env x = pure x := by intro _; rfl) : SsD X (.For tg iter sts [] pos :: rest) δ o := by
  refine ss_seq (N := fun δ' => SsD X rest δ' o) ?_ fun δ' h => h
  have pg : PG X tg (fun v σ H Q => ∃ d δ' δ2 js, TgD X tg js d δ' δ2 ∧ rG X.K js d δ' δ2 v σ H Q) := ⟨fun pins s σ H v u Q I r ⟨d, δ', δ2, js, a, q⟩ => PG.run a pins s σ H v u Q I r q⟩
  have pb : PSs X sts (fun D σ H => ∃ δ2 o2, SsD X sts δ2 o2 ∧ rS X.K δ2 o2 D σ H) := ⟨fun pins s σ H D I ⟨δ2, o2, a, q⟩ => PSs.run a pins s σ H D I q⟩
  refine PS.imp (ps_for hp hc h pg pb (hs := hs)) fun D σ H ⟨p, B, G, i3, en, q⟩ => ⟨p, B, G, i3, en, fun J ds G1 H1 ⟨Iv, h0, turn, fin⟩ n yl => ?_⟩
  have st1 := n.stepB i3
  refine ⟨fun i m σ' H' => m = ds.length - i ∧ i ≤ ds.length ∧ ∃ G' δ', Step B G1 G' ∧ I3 p B G' H' ∧ EnvD X.K p B G' H' σ' δ' ∧ Iv i δ', ⟨_, rfl, Nat.zero_le _, G1, δ, .refl _ _, i3.nxt n, en.nxt n, h0⟩, ?_⟩
  rintro i m σ' H' ⟨em, hle, G', δ', st', i3', en', iv⟩
  by_cases hlt : i < ds.length
  · obtain ⟨go, yd⟩ := (yl p B G' H' st'.1 i3' i).1 hlt
    refine .inr ⟨go, fun σ2 H2 => ∃ G2 δ2, Step B G1 G2 ∧ I3 p B G2 H2 ∧ EnvD X.K p B G2 H2 σ2 δ2 ∧ Iv (i + 1) δ2, fun σ2 H2 ⟨G2, δ2, a1, a2, a3, a4⟩ => ⟨_, by omega, rfl, by omega, G2, δ2, a1, a2, a3, a4⟩, fun x H2 hy => ?_⟩
    obtain ⟨G2, d, e2, n2, hx⟩ := yd x H2 hy
    obtain ⟨δ2, js, tg2, body⟩ := turn i d δ' e2 iv
    refine ⟨d, δ', δ2, js, tg2, p, B, G2, i3'.nxt n2, en'.nxt n2, hx, fun σ2 en2 _ => ⟨δ2, _, body, p, B, G2, i3'.nxt n2, en2, ?_⟩⟩
    have st2 := st'.trans (n2.stepB i3')
    exact ⟨fun δ3 σ3 G3 H3 a b c e => ⟨G3, δ3, st2.trans b, c, e, a⟩, fun d3 v3 G3 H3 a b => q.rt d3 v3 G3 H3 a ((st1.trans st2).trans b), fun δ3 σ3 G3 H3 a b => q.nx δ3 σ3 G3 H3 a ((st1.trans st2).trans b), fun δ3 σ3 G3 H3 a b c e => ⟨G3, δ3, st2.trans b, c, e, a⟩, fun ds3 l3 xs3 G3 H3 a b => q.ro ds3 l3 xs3 G3 H3 a ((st1.trans st2).trans b)⟩
  · have e : i = ds.length := by omega
    subst e
    exact .inl ⟨(yl p B G' H' st'.1 i3' _).2 rfl, q.nx δ' σ' G' H' (fin δ' iv) (st1.trans st') i3' en'⟩
end
end Dv

set_option linter.all false
set_option maxRecDepth 100000
set_option maxHeartbeats 2000000
namespace Dv
open PySem PySem.Spec PyProof.Rows L2 RZ
variable [Tbl]
/-! ### how a def begins -/
inductive StR : List Str → List En → De → Prop
  | nil : StR [] [] []
  | d {x N e es δ} : StR N es δ → StR (x :: N) (e :: es) (e :: δ)
  | no {x N δ} : StR N [] δ → StR (x :: N) [] (.no :: δ)
theorem stR_len {N : List Str} {es : List En} {δ : De} (h : StR N es δ) : es.length ≤ N.length := by
  induction h with
  | nil => exact Nat.le_refl _
  | d _ ih => simp only [List.length_cons]; omega
  | no _ ih => simp
theorem StR.eq {N : List Str} {es : List En} {δ : De} (h : StR N es δ) : stD N es = δ := by
  induction h with
  | nil => rfl
  | d h ih =>
    unfold stD at ih ⊢
    have := stR_len h
    rw [List.length_cons, List.length_cons, List.cons_append, show ∀ a b : Nat, a + 1 - (b + 1) = a - b by omega, ih]
  | no h ih =>
    unfold stD at ih ⊢
    simp only [List.nil_append, List.length_nil, Nat.sub_zero, List.length_cons] at ih ⊢
    rw [List.replicate_succ, ih]
theorem s_st {X : Cx} {sts : List Stmt} {N : List Str} {es : List En} {δ : De} {o : Out} (h : StR N es δ) (k : SsD X sts δ o) : SsD X sts (stD N es) o := h.eq ▸ k
/-- texts of statements that are the same -/
theorem s_eq {X : Cx} {sts sts' : List Stmt} {δ : De} {o : Out} (h : sts = sts') (k : SsD X sts' δ o) : SsD X sts δ o := h ▸ k
section
variable {X : Cx} {c e : Expr} {δ : De} {p pos : Pos} {R : Dt → Prop} {S : Bool → Prop} {d : Dt} {b : Bool}
/-- isinstance -/
theorem c_isi (T : String) {tn : Str} {p2 : Pos} (h : XD X e δ fun d => ∃ b, kitB (tyD d) T = some b ∧ R (.bool b)) (F : Free X.mg := by assumption) (hb : bnames.contains tn = true := by decide +kernel) (hv : bootBuiltins tn = some (.type T) := by decide +kernel) (hgT : Gl X tn := by rfl) (hg : Gl X "isinstance" := by rfl)
    (hn : tn ≠ "__name__" := by decide) (hd : (tn == ("__debug__" : Str)) = false := by decide) (hs1 : starEach [.Name tn p2] X.env = [(false, eval (.Name tn p2) X.env)] := by rfl) (hs : starEach [e, .Name tn p2] X.env = (false, eval e X.env) :: starEach [.Name tn p2] X.env := by rfl) :
    XD X (.Call (.Name "isinstance" p) [e, .Name tn p2] [] pos) δ R := by
  refine PE.imp (pe_callB call_isi hg (F "isinstance" (by decide +kernel)) (by decide +kernel) (pa_cons h (pa_cons (pe_bltn (v := .ty T) hgT (F tn hb) hv rfl hn hd) pa_nil (by rw [hs1]; rfl)) hs) (he := hs) (hpl := by rw [hs1]; rfl)) fun σ H Q ⟨p, B, G, i3, en, q⟩ => ⟨p, B, G, i3, en, fun v d' G' H' ⟨c, hk, r⟩ n hv' => ?_⟩
  exact ⟨v, .ty T, _, _, c, rfl, .ty T, dz_ty hv' n.gh, kit_ty hk, q _ _ G' H' r n (.bl _)⟩
theorem c_isi2 (T U : String) {tn un : Str} {p2 p3 p4 : Pos} {k : Nat} (h : XD X e δ fun d => ∃ b b2, kitB (tyD d) T = some b ∧ kitB (tyD d) U = some b2 ∧ R (.bool (b || b2))) (F : Free X.mg := by assumption) (hb : bnames.contains tn = true := by decide +kernel) (hb2 : bnames.contains un = true := by decide +kernel) (hv : bootBuiltins tn = some (.type T) := by decide +kernel) (hvU : bootBuiltins un = some (.type U) := by decide +kernel)
    (hgT : Gl X tn := by rfl) (hgU : Gl X un := by rfl) (hg : Gl X "isinstance" := by rfl) (hn : tn ≠ "__name__" := by decide) (hd : (tn == ("__debug__" : Str)) = false := by decide) (hn2 : un ≠ "__name__" := by decide) (hd2 : (un == ("__debug__" : Str)) = false := by decide)
    (hs1 : starEach [.Tuple [.Name tn p2, .Name un p3] k p4] X.env = [(false, eval (.Tuple [.Name tn p2, .Name un p3] k p4) X.env)] := by rfl) (hs : starEach [e, .Tuple [.Name tn p2, .Name un p3] k p4] X.env = (false, eval e X.env) :: starEach [.Tuple [.Name tn p2, .Name un p3] k p4] X.env := by rfl) (ht2 : starEach [.Name un p3] X.env = [(false, eval (.Name un p3) X.env)] := by rfl) (ht : starEach [.Name tn p2, .Name un p3] X.env = (false, eval (.Name tn p2) X.env) :: starEach [.Name un p3] X.env := by rfl) :
    XD X (.Call (.Name "isinstance" p) [e, .Tuple [.Name tn p2, .Name un p3] k p4] [] pos) δ R := by
  refine PE.imp (pe_callB call_isiT hg (F "isinstance" (by decide +kernel)) (by decide +kernel) (pa_cons h (pa_cons (pe_tup (pa_cons (pe_bltn (v := .ty T) hgT (F tn hb) hv rfl hn hd) (pa_cons (pe_bltn (v := .ty U) hgU (F un hb2) hvU rfl hn2 hd2) pa_nil (by rw [ht2]; rfl)) ht)) pa_nil (by rw [hs1]; rfl)) hs) (he := hs) (hpl := by rw [hs1]; rfl)) fun σ H Q ⟨p, B, G, i3, en, q⟩ => ⟨p, B, G, i3, en, fun v d' G' H' ⟨c, c2, hk, hkU, r⟩ n hv' => ?_⟩
  have i3' := i3.nxt n
  refine ⟨by show 2 ≤ sizeLine; decide, fun l hl => ?_⟩
  have n2 := Nxt.newH i3' (.tup [.ty T, .ty U]) hl
  refine ⟨v, l, _, _, [.type T, .type U], c || c2, rfl, upd_same, .cons (.ty T) (.cons (.ty U) .nil), dz_ty hv' n2.gh, kitAny_cons (kit_ty hk) (fun hc => kitAny_cons (kit_ty hkU) (fun h2 => ?_) (fun h2 => ?_)) (fun hc => ?_), q _ _ _ _ r (n.trans n2) (.bl _)⟩
  · rw [hc, h2]; rfl
  · rw [hc, h2]; rfl
  · rw [hc]; rfl
/-- a <= b <= c -/
theorem c_chain {a b : Expr} (h : XD X a δ fun x => XD X b δ fun y => ∃ i j : Int, x = .int i ∧ y = .int j ∧ (i ≤ j → XD X c δ fun z => ∃ k : Int, z = .int k ∧ R (.bool (decide (j ≤ k)))) ∧ (¬ i ≤ j → R (.bool false))) (hlm : lastMarks [CmpOp.LtE, CmpOp.LtE] [b, c] = false := by rfl) : XD X (.Compare a [.LtE, .LtE] [b, c] pos) δ R :=
  PE.imp (pe_chain op_le op_le h (pe_later (δ := δ)) (pe_later (δ := δ)) (hm := hlm)) fun σ H Q ⟨p, B, G, i3, en, q⟩ => ⟨p, B, G, i3, en, fun v d G1 H1 r1 n1 h1 => ⟨_, r1, p, B, G1, i3.nxt n1, en.nxt n1, fun w d2 G2 H2 ⟨i, j, e1, e2, k1, k2⟩ n2 h2 => by
    subst e1; subst e2
    cases h1; cases h2
    refine ⟨i, j, rfl, rfl, _, rfl, ?_⟩
    have n12 := n1.trans n2
    by_cases hle : i ≤ j
    · rw [decide_eq_true hle]
      refine iteT ⟨_, k1 hle, p, B, G2, i3.nxt n12, en.nxt n12, fun w' d3 G3 H3 ⟨k, e3, r⟩ n3 h3 => ?_⟩
      subst e3
      cases h3
      exact ⟨j, k, rfl, rfl, q _ _ G3 H3 r (n12.trans n3) (.bl _)⟩
    · rw [decide_eq_false hle]
      exact iteF (q _ _ G2 H2 (k2 hle) n12 (.bl _))⟩⟩
/-- what a Bool is -/
theorem r_b {c2 : Bool} (h : b = c2) (k : R (.bool b)) : R (.bool c2) := h ▸ k
/-- a constant of the module -/
theorem c_glob {x : Str} {v : V} {u : Value} (hm : X.mg x = some u) (r : RelV v u) (hv : ∀ G, Dz X.K G v d) (k : R d) (hg : Gl X x := by rfl) (hd : (x == ("__debug__" : Str)) = false := by decide) : XD X (.Name x pos) δ R := c_of (pd_glob hg hm r hv hd) k
theorem c_globI {x : Str} {i : Int} (hm : ∃ t, X.mg x = some (.int i t)) (k : R (.int i)) (hg : Gl X x := by rfl) (hd : (x == ("__debug__" : Str)) = false := by decide) : XD X (.Name x pos) δ R := by
  obtain ⟨t, hm⟩ := hm
  exact c_of (pd_glob (v := .int i) hg hm ⟨_, rfl⟩ (fun G => .int i) hd) k
end
end Dv

set_option linter.all false
set_option maxRecDepth 100000
set_option maxHeartbeats 2000000
namespace Dv
open PySem PySem.Spec PyProof.Rows L2 RZ
variable [Tbl]
/-! ### what form a goal has -/
def isIntT : Dt → Bool
  | .int _ => true
  | .bool _ => true
  | _ => false
def isBoolT : Dt → Bool
  | .bool _ => true
  | _ => false
def isTupT : Dt → Bool
  | .tuple _ => true
  | _ => false
def isListT : Dt → Bool
  | .list _ => true
  | _ => false
def isStrT : Dt → Bool
  | .str _ => true
  | _ => false
section
variable {X : Cx} {rest : List Stmt} {a b c e : Expr} {es fs : List Expr} {δ : De} {o : Out} {pos p pos' pt : Pos} {x y z : Str} {R : Dt → Prop} {S : Bool → Prop} {A B : Prop}
theorem is_let (h : SsD X (.Assign [.Name x pos'] e pos :: rest) δ o) : SsD X (.Assign [.Name x pos'] e pos :: rest) δ o := h
theorem is_two {px py : Pos} {k k2 : Nat} {pt2 : Pos} (h : SsD X (.Assign [.Tuple [.Name x px, .Name y py] k pt] (.Tuple [a, b] k2 pt2) pos :: rest) δ o) : SsD X (.Assign [.Tuple [.Name x px, .Name y py] k pt] (.Tuple [a, b] k2 pt2) pos :: rest) δ o := h
theorem is_three {px py pz : Pos} {k k2 : Nat} {pt2 : Pos} (h : SsD X (.Assign [.Tuple [.Name x px, .Name y py, .Name z pz] k pt] (.Tuple [a, b, c] k2 pt2) pos :: rest) δ o) : SsD X (.Assign [.Tuple [.Name x px, .Name y py, .Name z pz] k pt] (.Tuple [a, b, c] k2 pt2) pos :: rest) δ o := h
theorem is_tgN {js : List Nat} {d : Dt} {δ1 : De} (h : TgD X (.Name x pos) js d δ δ1) : TgD X (.Name x pos) js d δ δ1 := h
theorem is_tgT {k : Nat} {js : List Nat} {d : Dt} {δ1 : De} (h : TgD X (.Tuple es k pos) js d δ δ1) : TgD X (.Tuple es k pos) js d δ δ1 := h
theorem is_exT {tg : Expr} {d : Dt} {P : De → Prop} (h : ∃ δ' js, TgD X tg js d δ δ' ∧ P δ') : ∃ δ' js, TgD X tg js d δ δ' ∧ P δ' := h
theorem is_var (h : XD X (.Name x pos) δ R) : XD X (.Name x pos) δ R := h
theorem is_callN {kws : List Keyword} (h : XD X (.Call (.Name x p) (e :: es) kws pos) δ R) : XD X (.Call (.Name x p) (e :: es) kws pos) δ R := h
theorem br_t (h : A) : (true = true → A) ∧ (true = false → B) := ⟨fun _ => h, fun z => Bool.noConfusion z⟩
theorem br_f (h : B) : (false = true → A) ∧ (false = false → B) := ⟨fun z => Bool.noConfusion z, fun _ => h⟩
theorem br_f' (h : B) : (false = false → B) ∧ (false = true → A) := ⟨fun _ => h, fun z => Bool.noConfusion z⟩
theorem br_t' (h : A) : (true = false → B) ∧ (true = true → A) := ⟨fun z => Bool.noConfusion z, fun _ => h⟩
theorem br_d {p : Prop} [Decidable p] (h1 : p → A) (h2 : ¬ p → B) : (decide p = true → A) ∧ (decide p = false → B) := ⟨fun z => h1 (of_decide_eq_true z), fun z => h2 (of_decide_eq_false z)⟩
theorem br_n {p : Prop} [Decidable p] (h1 : ¬ p → A) (h2 : p → B) : ((!decide p) = true → A) ∧ ((!decide p) = false → B) := ⟨fun z => h1 (by simpa using z), fun z => h2 (by simpa using z)⟩
theorem br_d' {p : Prop} [Decidable p] (h2 : ¬ p → B) (h1 : p → A) : (decide p = false → B) ∧ (decide p = true → A) := ⟨fun z => h2 (of_decide_eq_false z), fun z => h1 (of_decide_eq_true z)⟩
theorem br_n' {p : Prop} [Decidable p] (h2 : p → B) (h1 : ¬ p → A) : ((!decide p) = false → B) ∧ ((!decide p) = true → A) := ⟨fun z => h2 (by simpa using z), fun z => h1 (by simpa using z)⟩
/-- a test that is known -/
theorem br_is {p : Prop} [Decidable p] (hp : p) (h : A) : (decide p = true → A) ∧ (decide p = false → B) := ⟨fun _ => h, fun z => absurd hp (of_decide_eq_false z)⟩
theorem br_no {p : Prop} [Decidable p] (hp : ¬ p) (h : B) : (decide p = true → A) ∧ (decide p = false → B) := ⟨fun z => absurd (of_decide_eq_true z) hp, fun _ => h⟩
theorem br_nis {p : Prop} [Decidable p] (hp : p) (h : B) : ((!decide p) = true → A) ∧ ((!decide p) = false → B) := br_n (fun z => absurd hp z) fun _ => h
theorem br_nno {p : Prop} [Decidable p] (hp : ¬ p) (h : A) : ((!decide p) = true → A) ∧ ((!decide p) = false → B) := br_n (fun _ => h) fun z => absurd z hp
theorem free_mk {mg : Str → Option Value} (h1 : mg "isinstance" = none) (h2 : mg "int" = none) (h3 : mg "bool" = none) (h4 : mg "tuple" = none) (h5 : mg "list" = none) (h6 : mg "str" = none) (h7 : mg "len" = none) (h8 : mg "all" = none) (h9 : mg "any" = none) (h10 : mg "max" = none) (h11 : mg "min" = none) (h12 : mg "abs" = none) (h13 : mg "sorted" = none) (h14 : mg "repr" = none) (h15 : mg "range" = none) (h16 : mg "enumerate" = none) (h17 : mg "divmod" = none) (h18 : mg "set" = none) (h19 : mg "sum" = none) (h20 : mg "zip" = none) (h21 : mg "dict" = none) (h22 : mg "ValueError" = none) (h23 : mg "ArithmeticError" = none) (h24 : mg "LookupError" = none) : Free mg := fun x hx => by
  simp only [bnames, List.contains_cons, List.contains_nil, Bool.or_eq_true, Bool.or_false, beq_iff_eq] at hx
  rcases hx with e | e | e | e | e | e | e | e | e | e | e | e | e | e | e | e | e | e | e | e | e | e | e | e | e <;> subst e <;> assumption
theorem at0 {d : Dt} {ds : List Dt} : atI (d :: ds) 0 = some d := atI_nat (j := 0) rfl
theorem ss_n (h : o.nx δ) : SsD X [] δ o := ss_nil h
theorem nn_t (h : S true) : S (!false) := h
theorem nn_f (h : S false) : S (!true) := h
theorem c_isiI {p2 : Pos} (h : XD X e δ fun d => R (.bool (isIntT d))) (F : Free X.mg := by assumption) (hgT : Gl X "int" := by rfl) (hg : Gl X "isinstance" := by rfl) (hs1 : starEach [.Name "int" p2] X.env = [(false, eval (.Name "int" p2) X.env)] := by rfl) (hs : starEach [e, .Name "int" p2] X.env = (false, eval e X.env) :: starEach [.Name "int" p2] X.env := by rfl) : XD X (.Call (.Name "isinstance" p) [e, .Name "int" p2] [] pos) δ R :=
  c_isi "int" (h.mono fun d k => ⟨isIntT d, by cases d <;> (simp only [tyD, isIntT, isBoolT, isTupT, isListT, isStrT]; decide +kernel), k⟩) F (by decide +kernel) (by decide +kernel) hgT hg (hs1 := hs1) (hs := hs)
theorem c_isiB {p2 : Pos} (h : XD X e δ fun d => R (.bool (isBoolT d))) (F : Free X.mg := by assumption) (hgT : Gl X "bool" := by rfl) (hg : Gl X "isinstance" := by rfl) (hs1 : starEach [.Name "bool" p2] X.env = [(false, eval (.Name "bool" p2) X.env)] := by rfl) (hs : starEach [e, .Name "bool" p2] X.env = (false, eval e X.env) :: starEach [.Name "bool" p2] X.env := by rfl) : XD X (.Call (.Name "isinstance" p) [e, .Name "bool" p2] [] pos) δ R :=
  c_isi "bool" (h.mono fun d k => ⟨isBoolT d, by cases d <;> (simp only [tyD, isIntT, isBoolT, isTupT, isListT, isStrT]; decide +kernel), k⟩) F (by decide +kernel) (by decide +kernel) hgT hg (hs1 := hs1) (hs := hs)
theorem c_isiT {p2 : Pos} (h : XD X e δ fun d => R (.bool (isTupT d))) (F : Free X.mg := by assumption) (hgT : Gl X "tuple" := by rfl) (hg : Gl X "isinstance" := by rfl) (hs1 : starEach [.Name "tuple" p2] X.env = [(false, eval (.Name "tuple" p2) X.env)] := by rfl) (hs : starEach [e, .Name "tuple" p2] X.env = (false, eval e X.env) :: starEach [.Name "tuple" p2] X.env := by rfl) : XD X (.Call (.Name "isinstance" p) [e, .Name "tuple" p2] [] pos) δ R :=
  c_isi "tuple" (h.mono fun d k => ⟨isTupT d, by cases d <;> (simp only [tyD, isIntT, isBoolT, isTupT, isListT, isStrT]; decide +kernel), k⟩) F (by decide +kernel) (by decide +kernel) hgT hg (hs1 := hs1) (hs := hs)
theorem c_isiL {p2 : Pos} (h : XD X e δ fun d => R (.bool (isListT d))) (F : Free X.mg := by assumption) (hgT : Gl X "list" := by rfl) (hg : Gl X "isinstance" := by rfl) (hs1 : starEach [.Name "list" p2] X.env = [(false, eval (.Name "list" p2) X.env)] := by rfl) (hs : starEach [e, .Name "list" p2] X.env = (false, eval e X.env) :: starEach [.Name "list" p2] X.env := by rfl) : XD X (.Call (.Name "isinstance" p) [e, .Name "list" p2] [] pos) δ R :=
  c_isi "list" (h.mono fun d k => ⟨isListT d, by cases d <;> (simp only [tyD, isIntT, isBoolT, isTupT, isListT, isStrT]; decide +kernel), k⟩) F (by decide +kernel) (by decide +kernel) hgT hg (hs1 := hs1) (hs := hs)
theorem c_isiS {p2 : Pos} (h : XD X e δ fun d => R (.bool (isStrT d))) (F : Free X.mg := by assumption) (hgT : Gl X "str" := by rfl) (hg : Gl X "isinstance" := by rfl) (hs1 : starEach [.Name "str" p2] X.env = [(false, eval (.Name "str" p2) X.env)] := by rfl) (hs : starEach [e, .Name "str" p2] X.env = (false, eval e X.env) :: starEach [.Name "str" p2] X.env := by rfl) : XD X (.Call (.Name "isinstance" p) [e, .Name "str" p2] [] pos) δ R :=
  c_isi "str" (h.mono fun d k => ⟨isStrT d, by cases d <;> (simp only [tyD, isIntT, isBoolT, isTupT, isListT, isStrT]; decide +kernel), k⟩) F (by decide +kernel) (by decide +kernel) hgT hg (hs1 := hs1) (hs := hs)
theorem c_isiLT {p2 p3 p4 : Pos} {k : Nat} (h : XD X e δ fun d => R (.bool (isListT d || isTupT d))) (F : Free X.mg := by assumption) (hgT : Gl X "list" := by rfl) (hgU : Gl X "tuple" := by rfl) (hg : Gl X "isinstance" := by rfl)
    (hs1 : starEach [.Tuple [.Name "list" p2, .Name "tuple" p3] k p4] X.env = [(false, eval (.Tuple [.Name "list" p2, .Name "tuple" p3] k p4) X.env)] := by rfl) (hs : starEach [e, .Tuple [.Name "list" p2, .Name "tuple" p3] k p4] X.env = (false, eval e X.env) :: starEach [.Tuple [.Name "list" p2, .Name "tuple" p3] k p4] X.env := by rfl) (ht2 : starEach [.Name "tuple" p3] X.env = [(false, eval (.Name "tuple" p3) X.env)] := by rfl) (ht : starEach [.Name "list" p2, .Name "tuple" p3] X.env = (false, eval (.Name "list" p2) X.env) :: starEach [.Name "tuple" p3] X.env := by rfl) :
    XD X (.Call (.Name "isinstance" p) [e, .Tuple [.Name "list" p2, .Name "tuple" p3] k p4] [] pos) δ R :=
  c_isi2 "list" "tuple" (h.mono fun d k => ⟨isListT d, isTupT d, by cases d <;> (simp only [tyD, isIntT, isBoolT, isTupT, isListT, isStrT]; decide +kernel), by cases d <;> (simp only [tyD, isIntT, isBoolT, isTupT, isListT, isStrT]; decide +kernel), k⟩) F (by decide +kernel) (by decide +kernel) (by decide +kernel) (by decide +kernel) hgT hgU hg (hs1 := hs1) (hs := hs) (ht2 := ht2) (ht := ht)
end
end Dv

set_option linter.all false
set_option maxRecDepth 100000
set_option maxHeartbeats 2000000
namespace Dv
open PySem PySem.Spec PyProof.Rows L2 RZ
variable [Tbl]
section
variable {X : Cx} {elt tg iter e : Expr} {scope : Scope} {pos p : Pos} {δ : De} {R : Dt → Prop} {c : Bool} {A B : Prop}
theorem br_by (hc : c = true) (h : A) : (c = true → A) ∧ (c = false → B) := ⟨fun _ => h, fun z => by rw [hc] at z; cases z⟩
theorem br_byf (hc : c = false) (h : B) : (c = true → A) ∧ (c = false → B) := ⟨fun z => (by rw [hc] at z; cases z), fun _ => h⟩
theorem br_by' (hc : c = true) (h : A) : (c = false → B) ∧ (c = true → A) := ⟨fun z => (by rw [hc] at z; cases z), fun _ => h⟩
theorem br_byf' (hc : c = false) (h : B) : (c = false → B) ∧ (c = true → A) := ⟨fun _ => h, fun z => by rw [hc] at z; cases z⟩
theorem br_nby (hc : c = true) (h : B) : ((!c) = true → A) ∧ ((!c) = false → B) := br_byf (by rw [hc]; rfl) h
theorem br_nbyf (hc : c = false) (h : A) : ((!c) = true → A) ∧ ((!c) = false → B) := br_by (by rw [hc]; rfl) h
/-- a comprehension of known data -/
theorem c_comp {α : Type} (own : List (Str × Nat)) (ok : BlkOk X.N X.env.scope scope own) (hi : XI X tg iter δ fun ds => ∃ (xs : List α) (enc F : α → Dt), ds = xs.map enc ∧ xs.length ≤ 100000 ∧
      (∀ (i : Nat) x, xs[i]? = some x → ∃ δ2, (∀ s H C cl fp, TgD (bX X scope s H C cl fp) tg (own.map (·.2)) (enc x) (wipeD δ (own.map (·.2))) δ2) ∧ ∀ s H C cl fp, XD (bX X scope s H C cl fp) elt δ2 fun y => y = F x) ∧ R (.list (xs.map F))) (hN : X.N.Nodup := by assumption) (hc : X.calm = true := by rfl) (hs : ∀ x, foldedSetIterable iter X.env x = pure x := by intro _; rfl) : XD X (.ListComp elt [⟨tg, iter, [], 0⟩] scope pos) δ R := c_o ((lco_fun own ok hi).xo hN hc hs)
/-- drawn elements: each by Rel -/
theorem c_compR (own : List (Str × Nat)) (ok : BlkOk X.N X.env.scope scope own) (hi : XI X tg iter δ fun ds => ds.length ≤ 100000 ∧ ∃ Rel : Nat → Dt → Dt → Prop,
      (∀ (i : Nat) d, ds[i]? = some d → ∃ δ2, (∀ s H C cl fp, TgD (bX X scope s H C cl fp) tg (own.map (·.2)) d (wipeD δ (own.map (·.2))) δ2) ∧ ∀ s H C cl fp, XD (bX X scope s H C cl fp) elt δ2 (Rel i d)) ∧
      ∀ out, out.length = ds.length → (∀ (i : Nat) d y, ds[i]? = some d → out[i]? = some y → Rel i d y) → R (.list out)) (hN : X.N.Nodup := by assumption) (hc : X.calm = true := by rfl) (hs : ∀ x, foldedSetIterable iter X.env x = pure x := by intro _; rfl) : XD X (.ListComp elt [⟨tg, iter, [], 0⟩] scope pos) δ R := c_o ((lco_map own ok hi).xo hN hc hs)
theorem c_filter {α : Type} {test : Expr} (own : List (Str × Nat)) (ok : BlkOk X.N X.env.scope scope own) (hi : XI X tg iter δ fun ds => ∃ (xs : List α) (enc F : α → Dt) (c : α → Bool), ds = xs.map enc ∧ xs.length ≤ 100000 ∧
      (∀ (i : Nat) x, xs[i]? = some x → ∃ δ2, (∀ s H C cl fp, TgD (bX X scope s H C cl fp) tg (own.map (·.2)) (enc x) (wipeD δ (own.map (·.2))) δ2) ∧ (∀ s H C cl fp, XT (bX X scope s H C cl fp) test δ2 fun b => b = c x) ∧ (c x = true → ∀ s H C cl fp, XD (bX X scope s H C cl fp) elt δ2 fun y => y = F x)) ∧ R (.list ((xs.filter c).map F))) (hN : X.N.Nodup := by assumption) (hc : X.calm = true := by rfl) (hs : ∀ x, foldedSetIterable iter X.env x = pure x := by intro _; rfl) : XD X (.ListComp elt [⟨tg, iter, [test], 0⟩] scope pos) δ R := c_o ((lco_filter own ok hi).xo hN hc hs)
/-- all([..]), each one true -/
theorem c_allOk {p2 : Pos} (own : List (Str × Nat)) (ok : BlkOk X.N X.env.scope scope own) (hi : XI X tg iter δ fun ds => ds.length ≤ 100000 ∧
      (∀ (i : Nat) d, ds[i]? = some d → ∃ δ2, (∀ s H C cl fp, TgD (bX X scope s H C cl fp) tg (own.map (·.2)) d (wipeD δ (own.map (·.2))) δ2) ∧ ∀ s H C cl fp, XD (bX X scope s H C cl fp) elt δ2 fun y => y = .bool true) ∧ R (.bool true)) (hN : X.N.Nodup := by assumption) (F : Free X.mg := by assumption) (hg : Gl X "all" := by rfl) (hc : X.calm = true := by rfl) (hs : ∀ x, foldedSetIterable iter X.env x = pure x := by intro _; rfl)
    (h1 : starEach [.ListComp elt [⟨tg, iter, [], 0⟩] scope pos] X.env = (false, eval (.ListComp elt [⟨tg, iter, [], 0⟩] scope pos) X.env) :: starEach [] X.env := by rfl) (h2 : starEach [.ListComp elt [⟨tg, iter, [], 0⟩] scope pos] X.env = [.ListComp elt [⟨tg, iter, [], 0⟩] scope pos].map fun e => (false, eval e X.env) := by rfl) : XD X (.Call (.Name "all" p) [.ListComp elt [⟨tg, iter, [], 0⟩] scope pos] [] p2) δ R :=
  c_all (c_compR own ok (PI.imp hi fun σ H Q ⟨p, B, G, i3, en, q⟩ => ⟨p, B, G, i3, en, fun J ds G' H' ⟨hl, turn, fin⟩ => q J ds G' H' ⟨hl, fun _ _ y => y = .bool true, turn, fun out e k => f_allT (fun d hd => by
    obtain ⟨i, hi, rfl⟩ := List.getElem_of_mem hd
    exact k i (ds[i]'(by omega)) _ (List.getElem?_eq_getElem _) (List.getElem?_eq_getElem hi)) fin hc⟩⟩) hN hc hs) F hg h1 h2
/-- all([..]), each one known -/
theorem c_allF {α : Type} {p2 : Pos} (own : List (Str × Nat)) (ok : BlkOk X.N X.env.scope scope own) (hi : XI X tg iter δ fun ds => ∃ (xs : List α) (enc : α → Dt) (F : α → Bool), ds = xs.map enc ∧ xs.length ≤ 100000 ∧
      (∀ (i : Nat) x, xs[i]? = some x → ∃ δ2, (∀ s H C cl fp, TgD (bX X scope s H C cl fp) tg (own.map (·.2)) (enc x) (wipeD δ (own.map (·.2))) δ2) ∧ ∀ s H C cl fp, XD (bX X scope s H C cl fp) elt δ2 fun y => y = .bool (F x)) ∧ R (.bool (xs.all F))) (hN : X.N.Nodup := by assumption) (F : Free X.mg := by assumption) (hg : Gl X "all" := by rfl) (hc : X.calm = true := by rfl) (hs : ∀ x, foldedSetIterable iter X.env x = pure x := by intro _; rfl)
    (h1 : starEach [.ListComp elt [⟨tg, iter, [], 0⟩] scope pos] X.env = (false, eval (.ListComp elt [⟨tg, iter, [], 0⟩] scope pos) X.env) :: starEach [] X.env := by rfl) (h2 : starEach [.ListComp elt [⟨tg, iter, [], 0⟩] scope pos] X.env = [.ListComp elt [⟨tg, iter, [], 0⟩] scope pos].map fun e => (false, eval e X.env) := by rfl) : XD X (.Call (.Name "all" p) [.ListComp elt [⟨tg, iter, [], 0⟩] scope pos] [] p2) δ R :=
  c_all (c_comp (α := α) own ok (PI.imp hi fun σ H Q ⟨p, B, G, i3, en, q⟩ => ⟨p, B, G, i3, en, fun J ds G' H' ⟨xs, enc, F, e, hl, turn, fin⟩ => q J ds G' H' ⟨xs, enc, fun x => .bool (F x), e, hl, turn, by
    have e : xs.map (fun x => PyData.bool (F x)) = (xs.map F).map PyData.bool := by rw [List.map_map]; rfl
    rw [e]
    refine f_all ?_ hc
    rw [List.all_map]; exact fin⟩⟩) hN hc hs) F hg h1 h2
theorem i_enumB {elts : List Expr} {kk : Nat} {tpos : Pos} {v : Dt} {ds : List Dt} {S : List Dt → Prop} {p2 : Pos} (hv : v = .list ds ∨ v = .tuple ds) (h : PD X e δ v) (k : S (enD ds)) (F : Free X.mg := by assumption) (hg : Gl X "enumerate" := by rfl) (h1 : starEach [e] X.env = (false, eval e X.env) :: starEach [] X.env := by rfl) (h2 : starEach [e] X.env = [e].map fun e => (false, eval e X.env) := by rfl) : XI X (.Tuple elts kk tpos) (.Call (.Name "enumerate" p) [e] [] p2) δ S := by
  rcases hv with e1 | e1
  · exact i_enumL (h.mono fun d e2 => ⟨ds, by rw [e2, e1], k⟩) F hg h1 h2
  · exact i_enumTup (h.mono fun d e2 => ⟨ds, by rw [e2, e1], k⟩) F hg h1 h2
theorem enD_at {ds : List Dt} {i : Nat} {d : Dt} (h : (enD ds)[i]? = some d) : ∃ x, ds[i]? = some x ∧ d = .tuple [.int ((i : Nat) : Int), x] := by
  have hi : i < ds.length := by
    have := (List.getElem?_eq_some_iff.mp h).1
    rw [enD_length] at this
    exact this
  rw [enD_get (List.getElem?_eq_getElem hi)] at h
  cases h
  exact ⟨_, List.getElem?_eq_getElem hi, rfl⟩
theorem map_get {α : Type} {xs : List α} {F : α → Dt} {i : Nat} {d : Dt} (h : (xs.map F)[i]? = some d) : ∃ x, xs[i]? = some x ∧ d = F x := by
  rw [List.getElem?_map] at h
  cases e : xs[i]? with
  | none => rw [e] at h; cases h
  | some x => rw [e] at h; cases h; exact ⟨x, rfl, rfl⟩
theorem rngD_at {lo : Int} {n i : Nat} {d : Dt} (h : (rngD lo n)[i]? = some d) : i < n ∧ d = .int (lo + (i : Nat)) := by
  have hi : i < n := by
    have := (List.getElem?_eq_some_iff.mp h).1
    rw [rngD_length] at this
    exact this
  rw [rngD_get hi] at h
  exact ⟨hi, (Option.some.inj h).symm⟩
theorem c_chainT {a b c : Expr} {S : Bool → Prop} (h : XD X a δ fun x => XD X b δ fun y => ∃ i j : Int, x = .int i ∧ y = .int j ∧ (i ≤ j → XD X c δ fun z => ∃ k : Int, z = .int k ∧ S (decide (j ≤ k))) ∧ (¬ i ≤ j → S false)) (hlm : lastMarks [CmpOp.LtE, CmpOp.LtE] [b, c] = false := by rfl) : XT X (.Compare a [.LtE, .LtE] [b, c] pos) δ S :=
  PT.imp (pt_chain op_le op_le h (pe_later (δ := δ)) (pe_later (δ := δ)) (hm := hlm)) fun σ H Q ⟨p, B, G, i3, en, q⟩ => ⟨p, B, G, i3, en, fun v d G1 H1 r1 n1 h1 => ⟨_, r1, p, B, G1, i3.nxt n1, en.nxt n1, fun w d2 G2 H2 ⟨i, j, e1, e2, k1, k2⟩ n2 h2 => by
    subst e1; subst e2
    cases h1; cases h2
    refine ⟨i, j, rfl, rfl, _, rfl, ?_⟩
    have n12 := n1.trans n2
    by_cases hle : i ≤ j
    · rw [decide_eq_true hle]
      refine iteT ⟨_, k1 hle, p, B, G2, i3.nxt n12, en.nxt n12, fun w' d3 G3 H3 ⟨k, e3, r⟩ n3 h3 => ?_⟩
      subst e3
      cases h3
      exact ⟨j, k, rfl, rfl, _, rfl, q _ G3 H3 r (n12.trans n3)⟩
    · rw [decide_eq_false hle]
      exact iteF ⟨_, rfl, q _ G2 H2 (k2 hle) n12⟩⟩⟩
theorem c_dict0 (k : R (.dict [])) : XD X (.Dict [] [] pos) δ R := PE.imp pe_dnewK fun σ H Q ⟨p, B, G, i3, en, q⟩ => fun a ha => q (.ref a) _ _ _ k (.new i3 _ ha) (.dct (.inl upd_same))
end
end Dv

set_option linter.all false
set_option maxRecDepth 100000
set_option maxHeartbeats 2000000
namespace Dv
open PySem PySem.Spec PyProof.Rows L2 RZ
variable [Tbl]
/-! ### comprehensions of two clauses -/
def En.plain : En → Bool
  | .own _ => false
  | .own2 _ _ => false
  | _ => true
theorem EnvD.flatEnv {K : Fg} {p : Option Addr} {B G H G' H' : Hp} {σ : L2.St} {δ : De} (h : EnvD K p B G H σ δ) (hp : δ.all En.plain = true) (e : Ex G G') (hr : ∀ a lo hi, p ≠ some a → H a = some (.rng lo hi) → H' a = some (.rng lo hi)) : EnvD K p B G' H' σ δ := by
  have pl : ∀ (i : Nat) en, δ[i]? = some en → en.plain = true := fun i en q => List.all_eq_true.mp hp en (List.mem_of_getElem? q)
  refine ⟨h.len, fun i en q => ?_, fun i j e1 f oi oj a hij q1 _ _ _ f1 _ => ?_⟩
  · obtain ⟨o, a, b⟩ := h.slot i en q
    refine ⟨o, a, ?_⟩
    cases en with
    | no => trivial
    | d x => obtain ⟨v, e1, e2⟩ := b; exact ⟨v, e1, dp_ex e _ _ e2⟩
    | pot => exact b
    | fix v => exact b
    | rng lo hi => obtain ⟨a, c1, c2, c3⟩ := b; exact ⟨a, c1, c2, hr a lo hi c2 c3⟩
    | own ds => exact absurd (pl i _ q) (by simp [En.plain])
    | own2 as dss => exact absurd (pl i _ q) (by simp [En.plain])
  · have := pl i e1 q1
    cases e1 with
    | no => exact foot_no f1
    | d x => exact foot_d f1
    | pot => exact foot_pot f1
    | fix v => rcases f1 with ⟨z, _⟩ | z <;> cases z
    | rng lo hi => rcases f1 with ⟨z, _⟩ | z <;> cases z
    | own ds => simp [En.plain] at this
    | own2 as dss => simp [En.plain] at this
structure Turn2 (X : Cx) (elt tg1 : Expr) (scope : Scope) (δ2 δ3 : De) (vs1 : List Nat) (d : Dt) (Y : Dt → Prop) : Prop where
  g : ∀ s H C cl fp, TgD (bX X scope s H C cl fp) tg1 vs1 d (wipeD δ2 vs1) δ3
  e : ∀ s H C cl fp, XD (bX X scope s H C cl fp) elt δ3 Y
theorem yesT {σ : L2.St} {H : Hp} {A B : Hp → Prop} (h : A H) : tYes σ H (fun b H3 => if b = true then A H3 else B H3) := by
  show (if true = true then A H else B H)
  rw [if_pos rfl]; exact h
section
variable {X : Cx} {elt tg iter tg1 iter1 : Expr} {scope : Scope} {own : List (Str × Nat)} {pos : Pos} {δ : De} {R : List Dt → Prop}
theorem xo_comp2 (own : List (Str × Nat)) (vs1 : List Nat) (ok : BlkOk X.N X.env.scope scope own) (hi : XI X tg iter δ fun ds => ds.length ≤ 100000 ∧ ∃ Iv : Nat → List Dt → Prop, Iv 0 [] ∧
      (∀ (i : Nat) d out, ds[i]? = some d → Iv i out → ∃ δ2 es, (∀ s H C cl fp, TgD (bX X scope s H C cl fp) tg (own.map (·.2)) d (wipeD δ (own.map (·.2))) δ2) ∧ δ2.all En.plain = true ∧ (∀ s H C cl fp, XI (bX X scope s H C cl fp) tg1 iter1 δ2 fun x => x = es) ∧
        ∃ Jv : Nat → List Dt → Prop, Jv 0 out ∧ (∀ (j : Nat) d1 out1, es[j]? = some d1 → Jv j out1 → out1.length < 100000 ∧ ∃ δ3, Turn2 X elt tg1 scope δ2 δ3 vs1 d1 fun y => Jv (j + 1) (out1 ++ [y])) ∧ ∀ out1, Jv es.length out1 → Iv (i + 1) out1) ∧ ∀ out, Iv ds.length out → R out)
    (hN : X.N.Nodup := by assumption) (hv : ∀ i ∈ vs1, i ∈ own.map (·.2) := by decide) (hc : X.calm = true := by rfl) (hs : ∀ x, foldedSetIterable iter X.env x = pure x := by intro _; rfl) (hs1 : ∀ env x, foldedSetIterable iter1 env x = pure x := by intro _ _; rfl) : XO X (.ListComp elt [⟨tg, iter, [], 0⟩, ⟨tg1, iter1, [], 0⟩] scope pos) δ R := by
  have pg : ∀ s H C cl fp, PG (bX X scope s H C cl fp) tg (fun v σ H Q => ∃ d δ2, (∀ s H C cl fp, TgD (bX X scope s H C cl fp) tg (own.map (·.2)) d (wipeD δ (own.map (·.2))) δ2) ∧ rG X.K (own.map (·.2)) d (wipeD δ (own.map (·.2))) δ2 v σ H Q) := fun s H C cl fp =>
    ⟨fun pins s1 σ H1 v u Q I r ⟨d, δ2, t, q⟩ => PG.run (t s H C cl fp) pins s1 σ H1 v u Q I r q⟩
  have pi1 : ∀ s H C cl fp, PI (bX X scope s H C cl fp) tg1 iter1 (fun σ H Q => ∃ δ2 es, (∀ s H C cl fp, XI (bX X scope s H C cl fp) tg1 iter1 δ2 fun x => x = es) ∧ rI X.K δ2 (fun x => x = es) σ H Q) := fun s H C cl fp =>
    ⟨fun pins s1 σ H1 Q I ⟨δ2, es, t, q⟩ => PI.run (t s H C cl fp) pins s1 σ H1 Q I q⟩
  have pg1 : ∀ s H C cl fp, PG (bX X scope s H C cl fp) tg1 (fun v σ H Q => ∃ d δ2 δ3 Y, Turn2 X elt tg1 scope δ2 δ3 vs1 d Y ∧ rG X.K vs1 d (wipeD δ2 vs1) δ3 v σ H Q) := fun s H C cl fp =>
    ⟨fun pins s1 σ H1 v u Q I r ⟨d, δ2, δ3, Y, t, q⟩ => PG.run (t.g s H C cl fp) pins s1 σ H1 v u Q I r q⟩
  have pe : ∀ s H C cl fp, PE (bX X scope s H C cl fp) elt (fun σ H Q => ∃ d δ2 δ3 Y, Turn2 X elt tg1 scope δ2 δ3 vs1 d Y ∧ rX X.K δ3 Y σ H Q) := fun s H C cl fp =>
    ⟨fun pins s1 σ H1 Q I ⟨d, δ2, δ3, Y, t, q⟩ => PE.run (t.e s H C cl fp) pins s1 σ H1 Q I q⟩
  refine PE.imp (pe_lc2 hc hN hi ok hv pg (fun s H C cl fp => pts_nil) pi1 pg1 (fun s H C cl fp => pts_nil) pe hs hs1) fun σ H Q ⟨p, B, G, i3, en, q⟩ => ⟨p, B, G, i3, en, fun J ds G1 H1 ⟨hS, Iv, h0, turn, hR⟩ n yl Dl hD => ?_⟩
  have i31 := i3.nxt n
  have en1 := en.nxt n
  have gD : G1 Dl = none := i31.gh.free hD
  have pD : p ≠ some Dl := pot_ne i31 hD
  refine ⟨fun i m H' => m = ds.length - i ∧ i ≤ ds.length ∧ ∃ G' acc os, Nxt p G1 H1 G' H' ∧ G' Dl = none ∧ H' Dl = some (.lst acc) ∧ DzAll X.K G' acc os ∧ Iv i os, ⟨_, rfl, Nat.zero_le _, G1, [], [], .newH i31 _ hD, gD, upd_same, .nil, h0⟩, ?_⟩
  rintro i m H' ⟨em, hle, G', acc, os, n', gd, hd, ha, iv⟩
  have i3' := i31.nxt n'
  by_cases hlt : i < ds.length
  · obtain ⟨go, yd⟩ := (yl p B G' H' n'.st.1 i3' i).1 hlt
    refine .inr ⟨go, fun H'' => ∃ G' acc os, Nxt p G1 H1 G' H'' ∧ G' Dl = none ∧ H'' Dl = some (.lst acc) ∧ DzAll X.K G' acc os ∧ Iv (i + 1) os, fun H'' k => ⟨_, by omega, rfl, by omega, k⟩, fun x H2 hy => ?_⟩
    obtain ⟨G2, d, e2, n2, hx⟩ := yd x H2 hy
    have n12 := n'.trans n2
    obtain ⟨δ2, es, tg2, hpl, src, Jv, j0, turn1, fin1⟩ := turn i d os e2 iv
    have gd2 : G2 Dl = none := n2.st.2 Dl (nn hd) gd
    have hd2 : H2 Dl = some (.lst acc) := n2.ex Dl _ (by rw [del_ne pD]; exact hd) (fun _ z => by cases z)
    refine ⟨d, δ2, tg2, p, B, G2, i31.nxt n12, (en1.nxt n12).wipes _, hx, fun σ2 en2 ⟨ks', ks⟩ => ⟨?_, ?_⟩⟩
    · refine wipe_same ?_ ks
      rw [ks', wipe_length]
    · refine yesT ?_
      refine ⟨δ2, es, src, p, B, G2, i31.nxt n12, en2, fun J1 es' G3 H3 ees n3 yl1 => ?_⟩
      subst ees
      have n13 := n12.trans n3
      have gd3 : G3 Dl = none := n3.st.2 Dl (nn hd2) gd2
      have hd3 : H3 Dl = some (.lst acc) := n3.ex Dl _ (by rw [del_ne pD]; exact hd2) (fun _ z => by cases z)
      have ha3 := dpAll_ex (n2.st.1.trans n3.st.1) _ _ ha
      have en3 := en2.nxt n3
      refine ⟨fun j m H' => m = es'.length - j ∧ j ≤ es'.length ∧ ∃ G' acc os, Nxt p G1 H1 G' H' ∧ Ex G3 G' ∧ (∀ a o, a ≠ Dl → p ≠ some a → (∀ ps, o ≠ .tbl ps) → H3 a = some o → H' a = some o) ∧ G' Dl = none ∧ H' Dl = some (.lst acc) ∧ DzAll X.K G' acc os ∧ Jv j os, ⟨_, rfl, Nat.zero_le _, G3, acc, os, n13, Ex.refl _, (fun a o _ _ _ h => h), gd3, hd3, ha3, j0⟩, ?_⟩
      rintro j k H4 ⟨ek, hj, G4, acc4, os4, n14, m4, k4, gd4, hd4, ha4, jv⟩
      have i34 := i31.nxt n14
      by_cases hlt1 : j < es'.length
      · obtain ⟨go1, yd1⟩ := (yl1 p B G4 H4 m4 i34 j).1 hlt1
        refine .inr ⟨go1, fun H'' => ∃ G' acc os, Nxt p G1 H1 G' H'' ∧ Ex G3 G' ∧ (∀ a o, a ≠ Dl → p ≠ some a → (∀ ps, o ≠ .tbl ps) → H3 a = some o → H'' a = some o) ∧ G' Dl = none ∧ H'' Dl = some (.lst acc) ∧ DzAll X.K G' acc os ∧ Jv (j + 1) os, fun H'' k => ⟨_, by omega, rfl, by omega, k⟩, fun x5 H5 hy5 => ?_⟩
        obtain ⟨G5, d1, e5, n5, hx5⟩ := yd1 x5 H5 hy5
        obtain ⟨small, δ3, t3⟩ := turn1 j d1 os4 e5 jv
        have n15 := n14.trans n5
        have m5 := m4.trans n5.st.1
        have k5 : ∀ a o, a ≠ Dl → p ≠ some a → (∀ ps, o ≠ .tbl ps) → H3 a = some o → H5 a = some o := fun a o h1 h2 hn h3 => n5.ex a o (by rw [del_ne h2]; exact k4 a o h1 h2 hn h3) hn
        have gd5 : G5 Dl = none := n5.st.2 Dl (nn hd4) gd4
        have hd5 : H5 Dl = some (.lst acc4) := n5.ex Dl _ (by rw [del_ne pD]; exact hd4) (fun _ z => by cases z)
        have ha5 := dpAll_ex n5.st.1 _ _ ha4
        refine ⟨d1, δ2, δ3, _, t3, p, B, G5, i31.nxt n15, (en3.flatEnv hpl m5 fun a lo hi hpa ha => k5 a _ (fun z => by subst z; rw [hd3] at ha; cases ha) hpa (fun _ z => by cases z) ha).wipes _, hx5, fun σ3 en6 ⟨ls', ls⟩ => ⟨?_, ?_⟩⟩
        · refine wipe_same ?_ ls
          rw [ls', wipe_length]
        · refine yesT ?_
          refine ⟨d1, δ2, δ3, _, t3, p, B, G5, i31.nxt n15, en6, fun y dy G6 H6 ry n6 hy6 => ?_⟩
          have gd6 : G6 Dl = none := n6.st.2 Dl (nn hd5) gd5
          have hd6 : H6 Dl = some (.lst acc4) := n6.ex Dl _ (by rw [del_ne pD]; exact hd5) (fun _ z => by cases z)
          have ha6 := dpAll_ex n6.st.1 _ _ ha5
          have n16 := n15.trans n6
          have m6 := m5.trans n6.st.1
          have put : ∀ {G0 H0 : Hp}, Nxt p G0 H0 G6 H6 → (∀ a o, del p H0 a = some o → a ≠ Dl) → Nxt p G0 H0 G6 (upd H6 Dl (.lst (acc4 ++ [y]))) := fun {G0 H0} nn0 hne => ⟨nn0.st, fun a o h hn => by
            rw [upd_ne (hne a o h)]; exact nn0.ex a o h hn, nn0.gh.mut gd6, fun z hz => by
            have : z ≠ Dl := fun w => pD (by rw [hz, w])
            rw [upd_ne this]; exact nn0.pot z hz, fun b hb => upd_dom b (nn0.dom b hb), fun t => tabs_lst hd6 (nn0.tb t)⟩
          refine ⟨acc4, hd6, ?_, G6, acc4 ++ [y], os4 ++ [dy], put n16 (fun a o h => ne_of_none (del_le h).1 hD), m6, (fun a o h1 h2 hn h3 => by rw [upd_ne h1]; exact n6.ex a o (by rw [del_ne h2]; exact k5 a o h1 h2 hn h3) hn), gd6, upd_same, dpAll_append ha6 (.cons hy6 .nil), ry⟩
          · rw [dpAll_length ha6]
            exact Nat.lt_of_lt_of_le small (by decide)
      · have e : j = es'.length := by omega
        subst e
        exact .inl ⟨(yl1 p B G4 H4 m4 i34 _).2 rfl, G4, acc4, os4, n14, gd4, hd4, ha4, fin1 os4 jv⟩
  · have e : i = ds.length := by omega
    subst e
    exact .inl ⟨(yl p B G' H' n'.st.1 i3' _).2 rfl, q Dl acc os G' H' (hR os iv) (n.trans n') (back_none n hD) gd pD hd ha⟩
end
section
variable {X : Cx} {elt tg iter tg1 iter1 : Expr} {scope : Scope} {own : List (Str × Nat)} {pos p : Pos} {δ : De} {R : Dt → Prop}
theorem c_allOk2 {p2 : Pos} (own : List (Str × Nat)) (vs1 : List Nat) (ok : BlkOk X.N X.env.scope scope own) (hi : XI X tg iter δ fun ds => ds.length ≤ 200 ∧
      (∀ (i : Nat) d, ds[i]? = some d → ∃ δ2 es, (∀ s H C cl fp, TgD (bX X scope s H C cl fp) tg (own.map (·.2)) d (wipeD δ (own.map (·.2))) δ2) ∧ δ2.all En.plain = true ∧ (∀ s H C cl fp, XI (bX X scope s H C cl fp) tg1 iter1 δ2 fun x => x = es) ∧ es.length ≤ 200 ∧
        ∀ (j : Nat) d1, es[j]? = some d1 → ∃ δ3, Turn2 X elt tg1 scope δ2 δ3 vs1 d1 fun y => y = .bool true) ∧ R (.bool true))
    (hN : X.N.Nodup := by assumption) (F : Free X.mg := by assumption) (hv : ∀ i ∈ vs1, i ∈ own.map (·.2) := by decide) (hg : Gl X "all" := by rfl) (hc : X.calm = true := by rfl) (hs : ∀ x, foldedSetIterable iter X.env x = pure x := by intro _; rfl) (hs1 : ∀ env x, foldedSetIterable iter1 env x = pure x := by intro _ _; rfl)
    (h1 : starEach [.ListComp elt [⟨tg, iter, [], 0⟩, ⟨tg1, iter1, [], 0⟩] scope pos] X.env = (false, eval (.ListComp elt [⟨tg, iter, [], 0⟩, ⟨tg1, iter1, [], 0⟩] scope pos) X.env) :: starEach [] X.env := by rfl) (h2 : starEach [.ListComp elt [⟨tg, iter, [], 0⟩, ⟨tg1, iter1, [], 0⟩] scope pos] X.env = [.ListComp elt [⟨tg, iter, [], 0⟩, ⟨tg1, iter1, [], 0⟩] scope pos].map fun e => (false, eval e X.env) := by rfl) :
    XD X (.Call (.Name "all" p) [.ListComp elt [⟨tg, iter, [], 0⟩, ⟨tg1, iter1, [], 0⟩] scope pos] [] p2) δ R :=
  c_all (c_o (xo_comp2 own vs1 ok (PI.imp hi fun σ H Q ⟨p, B, G, i3, en, q⟩ => ⟨p, B, G, i3, en, fun J ds G' H' ⟨hl, turn, fin⟩ => q J ds G' H' ⟨by omega, fun i out => out.length ≤ 200 * i ∧ ∀ d ∈ out, d = .bool true, ⟨by simp, by simp⟩, fun i d out hd iv => by
    obtain ⟨δ2, es, t1, t2, t3, t4, t5⟩ := turn i d hd
    have hi : i < ds.length := (List.getElem?_eq_some_iff.mp hd).1
    refine ⟨δ2, es, t1, t2, t3, fun j out => out.length ≤ 200 * i + j ∧ ∀ d ∈ out, d = .bool true, ⟨by omega, iv.2⟩, fun j d1 out1 hd1 jv => ?_, fun out1 jv => ⟨by omega, jv.2⟩⟩
    have hj : j < es.length := (List.getElem?_eq_some_iff.mp hd1).1
    obtain ⟨δ3, u⟩ := t5 j d1 hd1
    exact ⟨by omega, δ3, u.g, fun s H C cl fp => (u.e s H C cl fp).mono fun y hy => ⟨by rw [List.length_append, List.length_singleton]; omega, fun d hd => by
      rcases List.mem_append.mp hd with h | h
      · exact jv.2 d h
      · rw [List.mem_singleton.mp h]; exact hy⟩⟩, fun out iv => f_allT iv.2 fin hc⟩⟩) hN hv hc hs hs1)) F hg h1 h2
end
theorem g_sub {X : Cx} {tg : Expr} {js ks : List Nat} {d : Dt} {δ δ1 : De} (h : TgD X tg js d δ δ1) (hs : js.all (fun i => ks.contains i) = true) : TgD X tg ks d δ δ1 :=
  PG.imp h fun v σ H Q ⟨p, B, G, i3, en, hv, q⟩ => ⟨p, B, G, i3, en, hv, fun σ' e ⟨l, k⟩ => q σ' e ⟨l, fun i hi => k i fun z => hi (by simpa using List.all_eq_true.mp hs i z)⟩⟩
/-! ### a range in a name -/
section
variable {X : Cx} {tg e a b : Expr} {rest : List Stmt} {δ : De} {o : Out} {p pos spos pos' xp : Pos} {S : List Dt → Prop} {x : Str} {i : Nat}
theorem s_rng1 {F : Int → De} (hi : Nx X.N x i) (hF : ∀ j, SetR δ i (.rng 0 j) (F j)) (h : XD X e δ fun d => ∃ j : Int, d = .int j ∧ SsD X rest (F j) o) (Fr : Free X.mg := by assumption) (hN : X.N.Nodup := by assumption) (hx : Loc X.env.scope x := by first | exact Or.inl rfl | exact Or.inr rfl)
    (hs : swapsWith (.Call (.Name "range" p) [e] [] pos) (some (.Name x pos')) spos.line X.env = pure false := by rfl) (hf : X.fn x = true ∨ X.env.scope.names.lookup x = some .local := by first | exact .inl rfl | exact .inr rfl | assumption) (hg : Gl X "range" := by rfl) (h1 : starEach [e] X.env = (false, eval e X.env) :: starEach [] X.env := by rfl) :
    SsD X (.Assign [.Name x pos'] (.Call (.Name "range" p) [e] [] pos) spos :: rest) δ o := by
  have hc : CallR X (.type "range") (fun vs H Q => ∃ j, vs = [V.int j] ∧ ∀ q, H q = none → Q (.ref q) (upd H q (.rng 0 j))) := by
    intro pins s σ H vs us Q I r h
    obtain ⟨j, rfl, q⟩ := h
    obtain ⟨u, rfl, ru⟩ := r.one
    obtain ⟨t, rfl⟩ := ru
    refine call_range_1 ⟨.ref s.heap.objs.size, upd H s.heap.objs.size (.rng 0 j), I.laid (fun b o e => Heap.get?_push_of_some _ e) (Nat.le_refl _) ?_, rfl, q _ (I.hok.fresh (Nat.le_refl _))⟩
    exact ⟨_, _, _, Heap.get?_push_size _ rfl⟩
  refine ss_seq (N := fun δ' => SsD X rest δ' o) ?_ fun δ' h => h
  refine PS.imp (ps_set hN hi.eq hx (pe_callTy hc hg (Fr "range" (by decide +kernel)) (by decide +kernel) (pa_cons h pa_nil h1) (he := h1)) hs hf) fun D σ H ⟨p, B, G, i3, en, q⟩ => ⟨p, B, G, i3, en, fun v d G' H' ⟨j, r, k⟩ n hv => ?_⟩
  subst r
  cases hv
  refine ⟨j, rfl, fun l hl => ?_⟩
  have i3' := i3.nxt n
  have n2 := n.trans (Nxt.newH i3' (.rng 0 j) hl)
  refine q.nx _ _ G' _ k (n2.stepB i3) (i3.nxt n2) ?_
  rw [← (hF j).eq]
  exact (en.nxt n2).put (en := .rng 0 j) ⟨l, rfl, pot_ne i3' hl, upd_same⟩ fun a z => by rcases z with ⟨z, _⟩ | z <;> cases z
theorem i_rngV {lo hi : Int} (hN : Nx X.N x i) (hs : δ[i]? = some (.rng lo hi)) (hb : -(2 ^ 62) ≤ lo ∧ lo < 2 ^ 62 ∧ -(2 ^ 62) ≤ hi ∧ hi < 2 ^ 62) (k : S (rngD lo (hi - lo).toNat))
    (hv : Vis X.env.scope x := by first | exact Or.inl rfl | exact Or.inr (Or.inl rfl) | exact Or.inr (Or.inr rfl)) (hd : (x == ("__debug__" : Str)) = false := by decide) (hcd : (x == ("__classdict__" : Str)) = false := by decide) : XI X tg (.Name x xp) δ S := by
  have hp : PI X tg (.Name x xp) (fun σ H R => (∃ v, σ[i]? = some (some v) ∧ (fun v H1 => ∃ a, v = .ref a ∧ H1 a = some (.rng lo hi) ∧ R (Itr lo (hi - lo).toNat) H1) v H)) := by
    refine ⟨fun pins s σ H R I h => ?_⟩
    refine thn ((pe_var (pos := xp) hN.eq hv hd hcd).run pins s σ H (fun v H1 => ∃ a, v = .ref a ∧ H1 a = some (.rng lo hi) ∧ R (Itr lo (hi - lo).toNat) H1) I h) fun v s1 ⟨x, H1, I1, r1, q1⟩ => ?_
    obtain ⟨a, e, hq, q⟩ := q1
    subst e
    cases r1
    obtain ⟨t, u, w, rec⟩ : ∃ t u v, s1.heap.get? a = some { cls := .type "range", data := .fields #[.int lo t, .int hi u, .int 1 v] } := I1.hok a _ hq
    refine wpAny_pyIter_range (show IsRange s1.heap a lo hi 1 t u w from rec) (small_one hb.1 hb.2.1 hb.2.2.1 hb.2.2.2) ?_
    refine ⟨s1.heap.objs.size, [s1.heap.objs.size], _, _, H1, rfl, I1.kept (t' := s1.toks) fun b o e => Heap.get?_push_of_some _ e, turn_range _ lo (hi - lo).toNat, ?_, fun b hb => ?_, q⟩
    · have e1 : lo + ((0 : Nat) : Int) * 1 = lo := by simp
      have e2 : (((hi - lo).toNat : Nat) : Int) - ((0 : Nat) : Int) = Builtin.Range.rangeSize lo hi 1 := by rw [rangeSize_one]; split <;> omega
      show IsRangeIter _ _ (lo + ((0 : Nat) : Int) * 1) ((((hi - lo).toNat : Nat) : Int) - ((0 : Nat) : Int)) 1
      rw [e1, e2]
      exact Heap.get?_push_size _ rfl
    · have e : b = s1.heap.objs.size := by simpa using hb
      subst e
      exact I1.fpOk (Nat.le_refl _) (I1.hok.fresh (Nat.le_refl _))
  exact PI.imp hp fun σ H Q ⟨p, B, G, i3, en, q⟩ => by
    obtain ⟨o, h1, a, rfl, h2, h3⟩ := en.slot i _ hs
    exact ⟨_, h1, a, rfl, h3, q _ _ G H k (.refl i3) yld_rng⟩
theorem is_rng (h : SsD X (.Assign [.Name x pos'] (.Call (.Name "range" p) [e] [] pos) spos :: rest) δ o) : SsD X (.Assign [.Name x pos'] (.Call (.Name "range" p) [e] [] pos) spos :: rest) δ o := h
theorem is_src (h : XI X tg (.Name x xp) δ S) : XI X tg (.Name x xp) δ S := h
end
end Dv

set_option linter.all false
set_option maxRecDepth 100000
set_option maxHeartbeats 2000000
namespace Dv
open PySem PySem.Spec PyProof.Rows L2 RZ
variable [Tbl]
/-! ### sum of a tuple -/
theorem sum_rawT {prog : Program} {w : World} {A : Around} {E : Value → Shared → Prop} {s : Shared} {Q : Value → Shared → Prop} {l : Addr} {its : List Value} {ns : List Int} (hh : A.handled = none) (hl : s.heap.IsTuple l its.toArray) (hi : IntsAre its ns)
    (h : ∀ h' tk t', (∀ b o, s.heap.get? b = some o → h'.get? b = some o) → Q (.int ns.sum t') { s with heap := h', toks := tk }) : wpAny (model prog w) A (call (.builtin "sum") [.ref l]) Q E s := by
  obtain ⟨xs, e⟩ := hi.allInts.items
  have hn : numsOf (intItems xs).toList = ns := by rw [← e]; exact hi.numsOf
  rw [nums_intItems] at hn
  rw [e] at hl
  have hlt : l < s.heap.objs.size := by obtain ⟨_, z, _⟩ := hl; exact Heap.lt_size z
  refine call_sum_walkG (wpAny_pyIter_tuple hl ⟨_, _, _, _, _, _, numAt xs, rfl, Walks.tuple (A := A.in1) hh _ l (Nat.ne_of_lt hlt) (intItems xs), ⟨⟨_, Heap.get?_push_size _ rfl, rfl, rfl⟩, hl.push _⟩, fun b hb => ?_, (fun _ _ => intItems_at), fun h' tk t' hk => ?_⟩)
  · rw [Heap.size_push]
    simp at hb
    rcases hb with e | e
    · rw [e]; exact Nat.lt_succ_self _
    · rw [e]; exact Nat.lt_succ_of_lt hlt
  · have := h h' tk t' fun b o q => hk b o (by simp; exact Nat.ne_of_lt (Heap.lt_size q)) (Heap.get?_push_of_some _ q)
    rw [preSum_eq, List.take_of_length_le (by simp [intItems]), hn]
    exact this
section
variable {X : Cx} {R : Dt → Prop}
theorem f_sumT {ns : List Int} (k : R (.int ns.sum)) (hc : X.calm = true := by rfl) : CallP X (.builtin "sum") [.tuple (ns.map PyData.int)] R :=
  ⟨fun vs H Q => ∃ (a : Addr) (ns : List Int), vs = [V.ref a] ∧ SqT X.K H a (ns.map V.int) ∧ Q (.int ns.sum) H, fun pins s σ H vs us Q I r h => by
    obtain ⟨a, ns, rfl, hs, q⟩ := h
    obtain ⟨its, rv, hl, _⟩ := I.tuple hs
    rw [Vals.ref1 r]
    exact sum_rawT (I.ok.hd hc) hl rv.ints fun h' tk t' hk => ⟨.int _, H, I.kept hk, ⟨_, rfl⟩, q⟩, fun p B G H vs i3 hv Q q => by
    obtain ⟨v, rfl, h⟩ := one_of hv
    cases h with
    | tup hs ha =>
      have e := dpAll_ints ha
      subst e
      exact ⟨_, ns, rfl, ex_t i3.gh hs, q _ _ G H k (.refl i3) (.int _)⟩⟩
end
end Dv

set_option linter.all false
set_option maxRecDepth 100000
set_option maxHeartbeats 8000000
namespace K19
open PySem PySem.Spec PyProof.Rows L2 Dv
variable [Tbl]
/-! ### the text -/
def top (i : Nat) : Stmt := PySem.Challenge.pw_citylines_k19_bounds_on_both_sides.main.body.getD i (.Pass ⟨0, 0, 0, 0⟩)
def at_def (x : Str) : Stmt := (PySem.Challenge.pw_citylines_k19_bounds_on_both_sides.main.body.find? fun s => match s with | .FunctionDef n .. => n == x | _ => false).getD (.Pass ⟨0, 0, 0, 0⟩)
abbrev sLDraw : Stmt := at_def "_law_draw"
abbrev sLPick : Stmt := at_def "_law_pick"
structure T0 (K : Fg) (mg : Str → Option Value) : Prop where
  isi : mg "isinstance" = none
  int : mg "int" = none
  bool : mg "bool" = none
  tuple : mg "tuple" = none
  list : mg "list" = none
  str : mg "str" = none
  len : mg "len" = none
  all : mg "all" = none
  any : mg "any" = none
  max : mg "max" = none
  min : mg "min" = none
  abs : mg "abs" = none
  sorted : mg "sorted" = none
  repr : mg "repr" = none
  range : mg "range" = none
  enumerate : mg "enumerate" = none
  divmod : mg "divmod" = none
  set : mg "set" = none
section
variable {X : Cx} {a b e : Expr} {δ : De} {pos p : Pos} {R : Dt → Prop}
end
/-! ### square tables -/
def rowD (n : Nat) (T : Nat → Nat → Int) (i : Nat) : List Dt := (List.range n).map fun j => PyData.int (T i j)
def matD (n : Nat) (T : Nat → Nat → Int) : List (List Dt) := (List.range n).map (rowD n T)
def upT (T : Nat → Nat → Int) (m k : Nat) (v : Int) : Nat → Nat → Int := fun i j => if i = m ∧ j = k then v else T i j
theorem matD_len {n : Nat} {T : Nat → Nat → Int} : (matD n T).length = n := by unfold matD; rw [List.length_map, List.length_range]
theorem matD_row {n m : Nat} {T : Nat → Nat → Int} (h : m < n) : (matD n T)[m]? = some (rowD n T m) := by unfold matD; rw [List.getElem?_map, List.getElem?_range h]; rfl
theorem rowD_len {n i : Nat} {T : Nat → Nat → Int} : (rowD n T i).length = n := by unfold rowD; rw [List.length_map, List.length_range]
theorem mat_set {n m k : Nat} {T : Nat → Nat → Int} {v : Int} (hm : m < n) (hk : k < n) : (matD n T).set m ((rowD n T m).set k (.int v)) = matD n (upT T m k v) := by
  refine List.ext_getElem? fun i => ?_
  by_cases hi : i < n
  · rw [matD_row hi]
    by_cases e : m = i
    · subst e
      rw [List.getElem?_set_self (by rw [matD_len]; exact hm)]
      congr 1
      refine List.ext_getElem? fun j => ?_
      by_cases hj : j < n
      · have r : ∀ T, (rowD n T m)[j]? = some (.int (T m j)) := fun T => by unfold rowD; rw [List.getElem?_map, List.getElem?_range hj]; rfl
        rw [r]
        by_cases e2 : k = j
        · subst e2
          rw [List.getElem?_set_self (by rw [rowD_len]; exact hk)]
          unfold upT; rw [if_pos ⟨rfl, rfl⟩]
        · rw [List.getElem?_set_ne e2, r]
          unfold upT; rw [if_neg fun z => e2 z.2.symm]
      · rw [List.getElem?_eq_none (by rw [List.length_set, rowD_len]; omega), List.getElem?_eq_none (by rw [rowD_len]; omega)]
    · rw [List.getElem?_set_ne e, matD_row hi]
      congr 1
      unfold rowD
      refine List.map_congr_left fun j _ => ?_
      unfold upT
      rw [if_neg fun z => e z.1.symm]
  · rw [List.getElem?_eq_none (by rw [List.length_set, matD_len]; omega), List.getElem?_eq_none (by rw [matD_len]; omega)]
theorem rep_zero (n : Nat) : (List.replicate n [PyData.int 0]).flatten = (List.range n).map fun _ => PyData.int 0 := by
  rw [List.map_const', List.length_range]
  induction n with
  | zero => rfl
  | succ m ih => rw [List.replicate_succ, List.flatten_cons, ih, List.replicate_succ]; rfl
def Seen (one other i j : Nat) : Prop := (i < one ∧ j < one ∧ i ≠ j) ∨ (i = one ∧ j < other) ∨ (j = one ∧ i < other)
structure Tab (n : Nat) (h : Int) (one other : Nat) (T : Nat → Nat → Int) : Prop where
  sym : ∀ i j, T i j = T j i
  dia : ∀ i, T i i = 0
  see : ∀ i j, i < n → j < n → Seen one other i j → 1 ≤ T i j ∧ T i j ≤ h
theorem Tab.step {n : Nat} {h : Int} {one other : Nat} {T : Nat → Nat → Int} (t : Tab n h one other T) (lt : other < one) {v : Int} (v0 : 1 ≤ v) (v1 : v ≤ h) : Tab n h one (other + 1) (upT (upT T one other v) other one v) := by
  refine ⟨fun i j => ?_, fun i => ?_, fun i j hi hj s => ?_⟩
  · have := t.sym i j
    unfold upT
    by_cases a : i = other ∧ j = one
    · rw [if_pos a, if_neg (by omega), if_pos (by omega)]
    · by_cases b : j = other ∧ i = one
      · rw [if_neg a, if_pos (by omega), if_pos b]
      · rw [if_neg a, if_neg (by omega), if_neg b, if_neg (by omega)]; exact this
  · unfold upT
    rw [if_neg (by omega), if_neg (by omega)]
    exact t.dia i
  · unfold upT
    by_cases a : i = other ∧ j = one
    · rw [if_pos a]; exact ⟨v0, v1⟩
    · by_cases b : i = one ∧ j = other
      · rw [if_neg a, if_pos b]; exact ⟨v0, v1⟩
      · rw [if_neg a, if_neg b]
        refine t.see i j hi hj ?_
        rcases s with s | s | s
        · exact .inl s
        · exact .inr (.inl ⟨s.1, by omega⟩)
        · exact .inr (.inr ⟨s.1, by omega⟩)
theorem Tab.next {n : Nat} {h : Int} {one : Nat} {T : Nat → Nat → Int} (t : Tab n h one one T) : Tab n h (one + 1) 0 T := ⟨t.sym, t.dia, fun i j hi hj s => t.see i j hi hj (by unfold Seen at *; omega)⟩
section
variable {P : Program} {w : World} {K : Fg} {mg : Str → Option Value} {base : Heap} {f : Addr} {fd : FuncData}
theorem scLDraw : FnScope ["pot", "many", "digit"] ["pot", "many"] (defScope sLDraw) := ⟨rfl, rfl, rfl, by decide +kernel, rfl, by decide +kernel, by decide +kernel⟩
def Lo (n : Int) (i : Int) : Prop := 0 ≤ i ∧ i < n
def rLDraw (ds : List Dt) (T : Dt → Prop) : Prop := ∃ n : Int, 0 < n ∧ n < 1073741824 ∧ ds = [.int n] ∧ T = IntP (Lo n)
theorem f_ldraw (T : T0 K mg) (F : Fun K "_law_draw" "_law_draw" sLDraw f fd) : FnG P w K mg base 1 f fd ["pot", "many"] (spP K rLDraw) := by
  refine fn_pot F scLDraw (fun ds T ⟨n, _, _, e, _⟩ => by subst e; rfl) fun cdv A outer s H E hr hgd hu ds U h => ?_
  obtain ⟨n, n0, n1, rfl, rfl⟩ := h
  refine ss_seq (N := fun x => x = stD ["pot", "many", "digit"] (.pot :: [PyData.int n].map .d)) (sd_if (S := fun _ => True) (xt_gt (S := fun _ => True) (T := fun _ => True) ((xd_potAt 0 (.inl rfl)).mono fun d ⟨i, e, _⟩ => ⟨i, e, trivial⟩) (xi_of pd_int trivial)) (fun _ => ?_) (fun _ => ss_nil rfl)) (fun δ' e => ?_)
  · refine ss_seq (sd_potDiv (N := fun x => ∃ i, x = [.pot, .d (.int n), .d (.int i)] ∧ Lo n i) (S := Lo n) 0 2 scLDraw.nd ((xd_divmod (S := fun i j => 0 ≤ i ∧ j = n) T.divmod (xa_cons (xd_potAt 0 (.inl rfl)) (pa_c (pd_v 1) pa_n) fun d ds ⟨i, e, h1, _⟩ h2 => ⟨i, n, by rw [e, h2], ⟨n0, n1⟩, h1, rfl⟩)).mono fun d ⟨i, j, e, h1, h2⟩ => ?_) (fun w hw => ⟨w, rfl, hw⟩)) (fun δ' ⟨i, e, hi⟩ => ?_)
    · subst h2
      exact ⟨_, _, e, Int.ediv_nonneg h1 (by omega), Int.emod_nonneg i (by omega), Int.emod_lt_of_pos i n0⟩
    · subst e
      exact s_ret (pd_v 2) ⟨i, rfl, hi⟩
  · subst e
    refine ss_to (sd_potSet 0 (xi_mod (S := fun _ => True) (T := fun j => j = 2147483587) (U := fun i => 0 ≤ i ∧ i ≤ 2147483588) (xi_int T.int (xi_add (S := fun _ => True) (T := fun _ => True) (xi_mul (S := fun _ => True) (T := fun j => j = 40031) (U := fun _ => True) ((xd_potAt 0 (.inr rfl)).mono fun d ⟨i, e, _⟩ => ⟨i, e, trivial⟩) (xi_of pd_int rfl) fun i j _ e => ⟨.inr (by subst e; omega), trivial⟩) (xi_of pd_int trivial) fun _ _ _ _ => trivial)) (xi_of pd_int rfl) fun i j _ e => ⟨by omega, by subst e; have := Int.emod_nonneg i (b := 2147483587) (by omega); have := Int.emod_lt_of_pos i (b := 2147483587) (by omega); omega⟩)) ?_
    refine ss_end (sd_ret (xi_mod (S := fun _ => True) (T := fun j => j = n) (U := Lo n) (xi_int T.int (xi_fdiv (S := fun _ => True) (T := fun j => j = 23) (U := fun _ => True) (xi_mod (S := fun _ => True) (T := fun j => j = 2147483549) (U := fun _ => True) (xi_int T.int (xi_mul (S := fun i => 0 ≤ i ∧ i ≤ 2147483588) (T := fun _ => True) (U := fun _ => True) ((xd_potAt 0 (.inr rfl)).mono fun d ⟨i, e, h1, h2⟩ => ⟨i, e, h1, h2 rfl⟩) ((xd_potAt 0 (.inr rfl)).mono fun d ⟨i, e, _⟩ => ⟨i, e, trivial⟩) fun i j h _ => ⟨.inl (by omega), trivial⟩)) (xi_of pd_int rfl) fun i j _ e => ⟨by omega, trivial⟩) (xi_of pd_int rfl) fun i j _ e => ⟨⟨by omega, by omega⟩, trivial⟩)) (xi_of (pd_v 1) rfl) fun i j _ e => by subst e; exact ⟨n0, Int.emod_nonneg i (by omega), Int.emod_lt_of_pos i n0⟩) fun d h => h)
theorem scLPick : FnScope ["pot", "some"] ["pot", "some"] (defScope sLPick) := ⟨rfl, rfl, rfl, by decide +kernel, rfl, by decide +kernel, by decide +kernel⟩
def rLPick (ds : List Dt) (T : Dt → Prop) : Prop := ∃ es : List Dt, 0 < es.length ∧ es.length < 1000 ∧ ds = [.list es] ∧ ∀ d ∈ es, T d
theorem f_lpick (T : T0 K mg) (C1 : Cal P w K mg base 1 "_law_draw" ["pot", "many"] sLDraw (spP K rLDraw)) (F : Fun K "_law_pick" "_law_pick" sLPick f fd) : FnG P w K mg base 2 f fd ["pot", "some"] (spP K rLPick) := by
  refine fn_pot F scLPick (fun ds T ⟨n, _, _, e, _⟩ => by subst e; rfl) fun cdv A outer s H E hr hgd hu ds U h => ?_
  obtain ⟨es, n0, n1, rfl, hU⟩ := h
  refine ss_end (sd_ret (xd_ixLP (S := Lo es.length) (ds := es) (T := U) (pd_v 1) (xd_pot C1 0 (pa_c (pd_len_list T.len (pa_c (pd_v 1) pa_n)) pa_n) fun ds e => ⟨es.length, by omega, by omega, e, rfl⟩) fun i hi => ?_) fun d h => h)
  obtain ⟨h1, h2⟩ := hi
  obtain ⟨k, rfl⟩ := Int.eq_ofNat_of_zero_le h1
  have hk : k < es.length := by omega
  exact ⟨es[k], atI_nat (List.getElem?_eq_getElem hk), hU _ (List.getElem_mem hk)⟩
abbrev NT : List Str := ["pot", "many", "high", "found", "one", "other", "number", "place", "row"]
def tabD (n : Nat) (T : Nat → Nat → Int) : Dt := .tuple ((List.range n).map fun i => .tuple (rowD n T i))
theorem at_row {n m : Nat} {T : Nat → Nat → Int} (hm : m < n) : ∀ α (ys : List α), ys.length = (matD n T).length → ∃ y, atI ys ((m : Nat) : Int) = some y ∧ ys[m]? = some y := fun α ys hl => by
  have hy : m < ys.length := by rw [hl, matD_len]; exact hm
  exact ⟨ys[m], atI_nat (List.getElem?_eq_getElem hy), List.getElem?_eq_getElem hy⟩
theorem ix_row {n m k : Nat} {T : Nat → Nat → Int} (hk : k < n) : ixN (rowD n T m).length ((k : Nat) : Int) = some k := by
  rw [rowD_len]
  unfold ixN
  simp
  omega
end
end K19

set_option linter.all false
set_option maxRecDepth 100000
set_option maxHeartbeats 8000000
namespace Dv
open PySem PySem.Spec PyProof.Rows L2
variable [Tbl]
section
variable {X : Cx} {sts : List Stmt} {a b c e : Expr} {δ : De} {o : Out} {d2 d3 : Dt} {pos : Pos} {N : De → Prop}
/-- x, y, z = [[..] for ..], b, c where one of the names is captured -/
theorem sd_asg3 (i j l : Nat) {x y z : Str} {px py pz pt : Pos} {kt k2 pt2} {R : List (List Dt) → Prop} (hX : X.N.Nodup) (ha : XO2 X a δ R) (hb : PAD X [b, c] δ [d2, d3]) (hR : ∀ as dss, R dss → N (((δ.set i (.own2 as dss)).set j (.d d2)).set l (.d d3))) (hc : X.calm = true := by rfl) (hi : X.N[i]? = some x := by rfl) (hj : X.N[j]? = some y := by rfl) (hl : X.N[l]? = some z := by rfl)
    (hx : Loc X.env.scope x := by first | exact Or.inl rfl | exact Or.inr rfl) (hy : Loc X.env.scope y := by first | exact Or.inl rfl | exact Or.inr rfl) (hz : Loc X.env.scope z := by first | exact Or.inl rfl | exact Or.inr rfl)
    (hfx : X.fn x = true ∨ X.env.scope.names.lookup x = some .local := by first | exact .inl rfl | exact .inr rfl | assumption) (hfy : X.fn y = true ∨ X.env.scope.names.lookup y = some .local := by first | exact .inl rfl | exact .inr rfl | assumption) (hfz : X.fn z = true ∨ X.env.scope.names.lookup z = some .local := by first | exact .inl rfl | exact .inr rfl | assumption)
    (h1 : starEach [a, b, c] X.env = (false, eval a X.env) :: starEach [b, c] X.env := by rfl)
    (hw : swappedStores [.Tuple [.Name x px, .Name y py, .Name z pz] kt pt] (.Tuple [a, b, c] k2 pt2) X.env = pure none := by rfl) (hs : swapsWithSole [.Tuple [.Name x px, .Name y py, .Name z pz] kt pt] (.Tuple [a, b, c] k2 pt2) pos.line X.env = pure false := by rfl)
    (h2 : (assignEach [.Tuple [.Name x px, .Name y py, .Name z pz] kt pt] X.env).map (·.2) = [assign (.Tuple [.Name x px, .Name y py, .Name z pz] kt pt) X.env] := by rfl)
    (e1 : (assignEach [.Name x px, .Name y py, .Name z pz] X.env).map (·.2) = assign (.Name x px) X.env :: (assignEach [.Name y py, .Name z pz] X.env).map (·.2) := by rfl) (e2 : (assignEach [.Name y py, .Name z pz] X.env).map (·.2) = assign (.Name y py) X.env :: (assignEach [.Name z pz] X.env).map (·.2) := by rfl)
    (e3 : (assignEach [.Name z pz] X.env).map (·.2) = assign (.Name z pz) X.env :: (assignEach [] X.env).map (·.2) := by rfl) (e4 : (assignEach [.Name x px, .Name y py, .Name z pz] X.env).length = 3 := by rfl) (e5 : (assignEach [.Name x px, .Name y py, .Name z pz] X.env).findIdx? (·.1) = none := by rfl) :
    SD X (.Assign [.Tuple [.Name x px, .Name y py, .Name z pz] kt pt] (.Tuple [a, b, c] k2 pt2) pos) δ { o with nx := N } :=
  PS.imp (ps_asg (pe_tup (pa_cons ha hb.pa h1)) (pg_tup hc (pgs_cons (pg_name hX hi hx hfx) (pgs_cons (pg_name hX hj hy hfy) (pgs_cons (pg_name hX hl hz hfz) pgs_nil e3) e2) e1) e4 e5) hs hw h2) fun D σ H ⟨p, B, G, i3, en, q⟩ => ⟨p, B, G, i3, en, fun la as dss G1 H1 r n h0 sl => ⟨p, B, G1, i3.nxt n, en.nxt n, fun vs dd G2 H2 r2 n2 hv => by
    subst r2
    obtain ⟨v, w, rfl, b1, b2⟩ := two_of hv
    refine ⟨by show 3 ≤ sizeLine; decide, fun t ht => ?_⟩
    have i31 := i3.nxt n
    have i32 := i31.nxt n2
    have n3 := Nxt.newH i32 (.tup [.ref la, v, w]) ht
    have n23 := n2.trans n3
    have nn3 := n.trans n23
    refine ⟨t, _, rfl, .inl (.inl upd_same), rfl, .ref la, [v, w], rfl, v, [w], rfl, w, [], rfl, rfl, ?_⟩
    have en1 := ((put2 en n h0 sl i).nxt n23)
    exact q.nx _ _ G2 _ (hR as dss r) (nn3.stepB i3) (i3.nxt nn3) ((en1.set b1).set b2)⟩⟩
end
end Dv
namespace K19
open PySem PySem.Spec PyProof.Rows L2 Dv
variable [Tbl]
abbrev sLClosed : Stmt := at_def "_law_closed"
/-! ### walks -/
inductive Wk (n : Nat) (A : Nat → Nat → Int) : Nat → Nat → Int → Prop
  | nil (i : Nat) : Wk n A i i 0
  | snoc {i k j : Nat} {v : Int} : k < n → j < n → Wk n A i k v → Wk n A i j (v + A k j)
theorem Wk.cat {n : Nat} {A : Nat → Nat → Int} {i k j : Nat} {v u : Int} (a : Wk n A i k v) (b : Wk n A k j u) : Wk n A i j (v + u) := by
  induction b with
  | nil => rw [Int.add_zero]; exact a
  | snoc h1 h2 _ ih => rw [← Int.add_assoc]; exact .snoc h1 h2 ih
theorem Wk.rev {n : Nat} {A : Nat → Nat → Int} (sym : ∀ i j, A i j = A j i) {i j : Nat} {v : Int} (hi : i < n) (a : Wk n A i j v) : Wk n A j i v := by
  induction a with
  | nil => exact .nil i
  | @snoc k j v h1 h2 a ih =>
    have one : Wk n A j k (0 + A j k) := .snoc h2 h1 (.nil j)
    have e : 0 + A j k + v = v + A k j := by rw [sym j k]; omega
    exact e ▸ one.cat ih
structure Good (n : Nat) (A C : Nat → Nat → Int) : Prop where
  le : ∀ i j, i < n → j < n → C i j ≤ A i j
  dia : ∀ i, i < n → C i i = 0
  pos : ∀ i j, i < n → j < n → i ≠ j → 1 ≤ C i j
  wk : ∀ i j, i < n → j < n → Wk n A i j (C i j)
structure Way (n : Nat) (h : Int) (A : Nat → Nat → Int) : Prop where
  sym : ∀ i j, i < n → j < n → A i j = A j i
  dia : ∀ i, i < n → A i i = 0
  pos : ∀ i j, i < n → j < n → i ≠ j → 1 ≤ A i j ∧ A i j ≤ h
theorem Tab.way {n : Nat} {h : Int} {T : Nat → Nat → Int} (t : Tab n h n 0 T) : Way n h T := ⟨fun i j _ _ => t.sym i j, fun i _ => t.dia i, fun i j hi hj ne => t.see i j hi hj (.inl ⟨hi, hj, ne⟩)⟩
def Fin1 (n : Nat) (A C : Nat → Nat → Int) : Prop := ∀ i j k, i < n → j < n → k < n → C i j ≤ C i k + A k j
theorem least_walk {n : Nat} {A C : Nat → Nat → Int} (g : Good n A C) (f : Fin1 n A C) {i j : Nat} {v : Int} (hi : i < n) (a : Wk n A i j v) : C i j ≤ v := by
  induction a with
  | nil => rw [g.dia i hi]; exact Int.le_refl _
  | snoc h1 h2 _ ih =>
    have := f _ _ _ hi h2 h1
    have := ih
    omega
structure Closed (n : Nat) (h : Int) (C : Nat → Nat → Int) : Prop where
  way : Way n h C
  tri : ∀ i j k, i < n → j < n → k < n → C i j ≤ C i k + C k j
theorem closed_of {n : Nat} {h : Int} {A C : Nat → Nat → Int} (hA : ∀ i j, A i j = A j i) (w : Way n h A) (g : Good n A C) (f : Fin1 n A C) : Closed n h C :=
  ⟨⟨fun i j hi hj => Int.le_antisymm (least_walk g f hi ((g.wk j i hj hi).rev hA hj)) (least_walk g f hj ((g.wk i j hi hj).rev hA hi)), g.dia, fun i j hi hj ne => ⟨g.pos i j hi hj ne, Int.le_trans (g.le i j hi hj) (w.pos i j hi hj ne).2⟩⟩,
    fun i j k hi hj hk => least_walk g f hi ((g.wk i k hi hk).cat (g.wk k j hk hj))⟩
/-! ### the sum of all -/
def sumN (f : Nat → Int) : Nat → Int
  | 0 => 0
  | m + 1 => sumN f m + f m
theorem sumN_le {f g : Nat → Int} : ∀ {m : Nat}, (∀ i, i < m → f i ≤ g i) → sumN f m ≤ sumN g m
  | 0, _ => Int.le_refl _
  | m + 1, h => by
    have := sumN_le (m := m) fun i hi => h i (by omega)
    have := h m (by omega)
    show sumN f m + f m ≤ sumN g m + g m
    omega
theorem sumN_lt {f g : Nat → Int} {k : Nat} : ∀ {m : Nat}, (∀ i, i < m → f i ≤ g i) → k < m → f k < g k → sumN f m < sumN g m
  | m + 1, h, hk, lt => by
    show sumN f m + f m < sumN g m + g m
    by_cases e : k = m
    · subst e
      have := sumN_le (m := k) fun i hi => h i (by omega)
      omega
    · have := sumN_lt (m := m) (fun i hi => h i (by omega)) (by omega) lt
      have := h m (by omega)
      omega
def total (n : Nat) (C : Nat → Nat → Int) : Int := sumN (fun i => sumN (C i) n) n
theorem total_nn {n : Nat} {C : Nat → Nat → Int} (h : ∀ i j, i < n → j < n → 0 ≤ C i j) : 0 ≤ total n C := by
  have z : ∀ m, sumN (fun _ => 0) m = 0 := fun m => by induction m with
    | zero => rfl
    | succ m ih => show sumN (fun _ => 0) m + 0 = 0; rw [ih]; rfl
  have := sumN_le (f := fun _ => 0) (g := fun i => sumN (C i) n) (m := n) fun i hi => by
    have := sumN_le (f := fun _ => 0) (g := C i) (m := n) fun j hj => h i j hi hj
    rw [z] at this
    exact this
  rw [z] at this
  exact this
theorem total_lt {n i j : Nat} {C : Nat → Nat → Int} {v : Int} (hi : i < n) (hj : j < n) (lt : v < C i j) : total n (upT C i j v) < total n C := by
  have row : ∀ a b, upT C i j v a b ≤ C a b := fun a b => by
    unfold upT
    split
    · rename_i h; rw [h.1, h.2]; omega
    · exact Int.le_refl _
  refine sumN_lt (k := i) (fun a _ => sumN_le fun b _ => row a b) hi (sumN_lt (k := j) (fun b _ => row i b) hj ?_)
  unfold upT
  rw [if_pos ⟨rfl, rfl⟩]; exact lt
theorem Good.step {n i j k : Nat} {h : Int} {A C : Nat → Nat → Int} (w : Way n h A) (g : Good n A C) (hi : i < n) (hj : j < n) (hk : k < n) (lt : C i k + A k j < C i j) : Good n A (upT C i j (C i k + A k j)) := by
  have ne : i ≠ j := fun e => by
    subst e
    have h1 := g.dia i hi
    by_cases e2 : i = k
    · subst e2; have := w.dia i hi; omega
    · have := g.pos i k hi hk e2
      have := (w.pos k i hk hi (fun z => e2 z.symm)).1
      omega
  refine ⟨fun a b ha hb => ?_, fun a ha => ?_, fun a b ha hb nab => ?_, fun a b ha hb => ?_⟩
  · unfold upT
    split
    · rename_i z; have := g.le a b ha hb; rw [z.1, z.2] at *; omega
    · exact g.le a b ha hb
  · unfold upT
    rw [if_neg fun z => ne (z.1.symm.trans z.2)]
    exact g.dia a ha
  · unfold upT
    split
    · by_cases e2 : i = k
      · subst e2; have := g.dia i hi; have := (w.pos i j hi hj ne).1; omega
      · have := g.pos i k hi hk e2
        by_cases e3 : k = j
        · subst e3; have := w.dia k hk; omega
        · have := (w.pos k j hk hj e3).1; omega
    · exact g.pos a b ha hb nab
  · unfold upT
    split
    · rename_i z
      rw [z.1, z.2]
      exact .snoc hk hj (g.wk i k hi hk)
    · exact g.wk a b ha hb
theorem least_of : ∀ (ns : List Int), ns ≠ [] → ∃ m ∈ ns, ∀ y ∈ ns, m ≤ y
  | [], h => absurd rfl h
  | [x], _ => ⟨x, by simp, by simp⟩
  | x :: y :: r, _ => by
    obtain ⟨m, h1, h2⟩ := least_of (y :: r) (by simp)
    by_cases h : x ≤ m
    · exact ⟨x, by simp, fun z hz => by
        rcases List.mem_cons.mp hz with e | e
        · rw [e]; exact Int.le_refl _
        · have := h2 z e; omega⟩
    · exact ⟨m, List.mem_cons_of_mem _ h1, fun z hz => by
        rcases List.mem_cons.mp hz with e | e
        · rw [e]; omega
        · exact h2 z e⟩
end K19

set_option linter.all false
set_option maxRecDepth 100000
set_option maxHeartbeats 20000000
namespace K19
open PySem PySem.Spec PyProof.Rows L2 Dv
variable [Tbl]
/-! ### the least weight of all walks -/
def Least (n : Nat) (A : Nat → Nat → Int) (i j : Nat) (v : Int) : Prop := Wk n A i j v ∧ ∀ u, Wk n A i j u → v ≤ u
open Classical in
noncomputable def closeL (n : Nat) (A : Nat → Nat → Int) (i j : Nat) : Int := if h : ∃ v, Least n A i j v then h.choose else 0
theorem close_eq {n : Nat} {A : Nat → Nat → Int} {i j : Nat} {v : Int} (h : Least n A i j v) : closeL n A i j = v := by
  have e : ∃ v, Least n A i j v := ⟨v, h⟩
  unfold closeL
  rw [dif_pos e]
  exact Int.le_antisymm (e.choose_spec.2 v h.1) (h.2 _ e.choose_spec.1)
theorem matD_congr {n : Nat} {C D : Nat → Nat → Int} (h : ∀ i j, i < n → j < n → C i j = D i j) : matD n C = matD n D := by
  unfold matD rowD
  exact List.map_congr_left fun i hi => List.map_congr_left fun j hj => by rw [h i j (List.mem_range.mp hi) (List.mem_range.mp hj)]
theorem tabD_congr {n : Nat} {C D : Nat → Nat → Int} (h : ∀ i j, i < n → j < n → C i j = D i j) : tabD n C = tabD n D := by
  unfold tabD rowD
  congr 1
  exact List.map_congr_left fun i hi => by
    congr 1
    exact List.map_congr_left fun j hj => by rw [h i j (List.mem_range.mp hi) (List.mem_range.mp hj)]
theorem at_rowD {n m k : Nat} {T : Nat → Nat → Int} (hk : k < n) : atI (rowD n T m) ((k : Nat) : Int) = some (.int (T m k)) := at_map (F := fun j => PyData.int (T m j)) (List.getElem?_range hk)
theorem at_tabD {n k : Nat} {T : Nat → Nat → Int} (hk : k < n) : atI ((List.range n).map fun i => PyData.tuple (rowD n T i)) ((k : Nat) : Int) = some (.tuple (rowD n T k)) := at_map (List.getElem?_range hk)
section
variable {P : Program} {w : World} {K : Fg} {mg : Str → Option Value} {base : Heap} {f : Addr} {fd : FuncData}
abbrev NC : List Str := ["table", "found", "many", "is_less", "one", "other", "least", "row", "over"]
end
end K19

set_option linter.all false
set_option maxRecDepth 100000
set_option maxHeartbeats 8000000
namespace K19
open PySem PySem.Spec PyProof.Rows L2 Dv
variable [Tbl]
section
variable {X : Cx} {a b e : Expr} {δ : De} {pos p : Pos} {R : Dt → Prop}
theorem xd_tuple_of {S : List Dt → Prop} (hm : X.mg "tuple" = none) (ha : XD X e δ fun d => ∃ ds, d = .list ds ∧ S ds) (hR : ∀ ds, S ds → R (.tuple ds)) (hg : Gl X "tuple" := by rfl) (hs : starEach [e] X.env = (false, eval e X.env) :: starEach [] X.env := by rfl) : XD X (.Call (.Name "tuple" p) [e] [] pos) δ R :=
  xd_ct call_tuple_of hg hm (by decide +kernel) (xa_xc ha xa_nil hs) fun ds' ⟨d, y, e1, ⟨ds, e2, s⟩, e3⟩ p B G H vs i3 hv Q q => by
    subst e3; subst e2; subst e1
    obtain ⟨v, rfl, h⟩ := one_of hv
    cases h with
    | lst hs ha => exact ⟨_, _, rfl, .inl ⟨exl i3.gh hs, fun l hl => q _ _ _ _ (hR ds s) (.new i3 _ hl) (.tup (.inl (.inl upd_same)) (dpAll_ex (Ex.new (i3.gh.free hl)) _ _ ha))⟩⟩
end
/-- a list that is made number by number, each one drawn -/
def Made (S : Int → Prop) (i : Nat) (out : List Dt) : Prop := ∃ ns : List Int, out = ns.map PyData.int ∧ ns.length = i ∧ ∀ t ∈ ns, S t
theorem Made.nil {S : Int → Prop} : Made S 0 [] := ⟨[], rfl, rfl, by simp⟩
theorem Made.snoc {S : Int → Prop} {i : Nat} {out : List Dt} {y : Dt} (h : Made S i out) (hy : IntP S y) : Made S (i + 1) (out ++ [y]) := by
  obtain ⟨ns, e1, e2, e3⟩ := h
  obtain ⟨k, ek, hk⟩ := hy
  refine ⟨ns ++ [k], by rw [e1, ek, List.map_append]; rfl, by rw [List.length_append, e2]; rfl, fun t ht => ?_⟩
  rcases List.mem_append.mp ht with h | h
  · exact e3 t h
  · rw [List.mem_singleton.mp h]; exact hk
theorem walk_nn {n : Nat} {h : Int} {A : Nat → Nat → Int} (w : Way n h A) {i j : Nat} {v : Int} (a : Wk n A i j v) : 0 ≤ v := by
  induction a with
  | nil => exact Int.le_refl _
  | @snoc k j v h1 h2 _ ih =>
    by_cases e : k = j
    · subst e; have := w.dia k h1; omega
    · have := (w.pos k j h1 h2 e).1; omega
theorem walk_pos {n : Nat} {h : Int} {A : Nat → Nat → Int} (w : Way n h A) {i j : Nat} {v : Int} (a : Wk n A i j v) : i ≠ j → 1 ≤ v := by
  induction a with
  | nil => exact fun z => absurd rfl z
  | @snoc k j v h1 h2 a ih =>
    intro ne
    have v0 := walk_nn w a
    by_cases e : k = j
    · subst e; have := w.dia k h1; have := ih ne; omega
    · have := (w.pos k j h1 h2 e).1; omega
theorem least_ex {n : Nat} {h : Int} {A : Nat → Nat → Int} (w : Way n h A) {i j : Nat} : ∀ (m : Nat) (v : Int), v ≤ m → Wk n A i j v → ∃ v, Least n A i j v
  | 0, v, hv, a => ⟨v, a, fun u b => by have := walk_nn w b; omega⟩
  | m + 1, v, hv, a => by
    by_cases h : ∃ u, Wk n A i j u ∧ u < v
    · obtain ⟨u, b, lt⟩ := h
      exact least_ex w m u (by omega) b
    · exact ⟨v, a, fun u b => by
        by_cases z : v ≤ u
        · exact z
        · exact absurd ⟨u, b, by omega⟩ h⟩
theorem close_spec {n : Nat} {h : Int} {A : Nat → Nat → Int} (w : Way n h A) {i j : Nat} (hi : i < n) (hj : j < n) : Least n A i j (closeL n A i j) := by
  have one := Wk.snoc hi hj (Wk.nil (n := n) (A := A) i)
  obtain ⟨v, hv⟩ := least_ex w (0 + A i j).toNat _ (by omega) one
  rw [close_eq hv]; exact hv
theorem close_closed {n : Nat} {h : Int} {A : Nat → Nat → Int} (hA : ∀ i j, A i j = A j i) (w : Way n h A) : Closed n h (closeL n A) := by
  have sp := fun {i j : Nat} (hi : i < n) (hj : j < n) => close_spec w hi hj
  refine ⟨⟨fun i j hi hj => Int.le_antisymm ((sp hi hj).2 _ ((sp hj hi).1.rev hA hj)) ((sp hj hi).2 _ ((sp hi hj).1.rev hA hi)), fun i hi => Int.le_antisymm ((sp hi hi).2 0 (.nil i)) (walk_nn w (sp hi hi).1), fun i j hi hj ne => ⟨walk_pos w (sp hi hj).1 ne, ?_⟩⟩, fun i j k hi hj hk => (sp hi hj).2 _ ((sp hi hk).1.cat (sp hk hj).1)⟩
  have one := Wk.snoc hi hj (Wk.nil (n := n) (A := A) i)
  rw [Int.zero_add] at one
  exact Int.le_trans ((sp hi hj).2 _ one) (w.pos i j hi hj ne).2
structure City where
  n : Nat
  zones : List Int
  changes : List Int
  walk : Nat → Nat → Int
  drive : Nat → Nat → Int
abbrev intsT (ns : List Int) : Dt := .tuple (ns.map PyData.int)
def City.d (c : City) : Dt := .tuple [.str "city", intsT c.zones, intsT c.changes, tabD c.n c.walk, tabD c.n c.drive]
structure City.ok (c : City) : Prop where
  n1 : 1 ≤ c.n
  n2 : c.n ≤ 12
  zl : c.zones.length = c.n
  zb : ∀ z ∈ c.zones, 1 ≤ z ∧ z ≤ 4
  cl : c.changes.length = c.n
  cb : ∀ z ∈ c.changes, 0 ≤ z ∧ z ≤ 9
  wk : Closed c.n 120 c.walk
  dr : Closed c.n 120 c.drive
theorem Closed.le {n : Nat} {h k : Int} {C : Nat → Nat → Int} (c : Closed n h C) (hk : h ≤ k) : Closed n k C := ⟨⟨c.way.sym, c.way.dia, fun i j hi hj ne => ⟨(c.way.pos i j hi hj ne).1, Int.le_trans (c.way.pos i j hi hj ne).2 hk⟩⟩, c.tri⟩
section
variable {P : Program} {w : World} {K : Fg} {mg : Str → Option Value} {base : Heap} {f : Addr} {fd : FuncData}
abbrev NY : List Str := ["pot", "many", "zones", "changes", "stop"]
def CityP (n : Nat) (d : Dt) : Prop := ∃ c : City, c.ok ∧ c.n = n ∧ Closed c.n 20 c.drive ∧ d = c.d
end
end K19

set_option linter.all false
set_option maxRecDepth 100000
set_option maxHeartbeats 8000000
namespace K19
open PySem PySem.Spec PyProof.Rows L2 Dv
variable [Tbl]
structure Line where
  stops : List Int
  leasts : List Int
  stands : List Int
  apart : Int
def Line.d (l : Line) : Dt := .tuple [.str "line", intsT l.stops, intsT l.leasts, intsT l.stands, .int l.apart]
structure Line.ok (c : City) (hops : Nat) (top : Int) (l : Line) : Prop where
  sl : l.stops.length = hops + 1
  sb : ∀ s ∈ l.stops, 0 ≤ s ∧ s < c.n
  ll : l.leasts.length = hops
  step : ∀ (i : Nat) s t v, l.stops[i]? = some s → l.stops[i + 1]? = some t → l.leasts[i]? = some v → s ≠ t ∧ c.drive s.toNat t.toNat ≤ v ∧ v ≤ c.drive s.toNat t.toNat + top
  tl : l.stands.length = hops - 1
  tb : ∀ s ∈ l.stands, 0 ≤ s ∧ s ≤ 3
  a1 : 1 ≤ l.apart
  a2 : l.apart ≤ 5
theorem zip_ints {ns ms : List Int} {i : Nat} {d : Dt} (h : (zipD (ns.map PyData.int) (ms.map PyData.int))[i]? = some d) : ∃ s t, ns[i]? = some s ∧ ms[i]? = some t ∧ d = .tuple [.int s, .int t] := by
  unfold zipD at h
  rw [List.getElem?_map] at h
  cases z : ((ns.map PyData.int).zip (ms.map PyData.int))[i]? with
  | none => rw [z] at h; cases h
  | some q =>
    rw [z] at h
    cases h
    obtain ⟨h1, h2⟩ := List.getElem?_zip_eq_some.mp z
    rw [List.getElem?_map] at h1 h2
    cases z1 : ns[i]? with
    | none => rw [z1] at h1; cases h1
    | some s =>
      cases z2 : ms[i]? with
      | none => rw [z2] at h2; cases h2
      | some t =>
        rw [z1] at h1
        rw [z2] at h2
        simp at h1 h2
        exact ⟨s, t, rfl, rfl, by show PyData.tuple [q.fst, q.snd] = _; rw [← h1, ← h2]⟩
section
variable {P : Program} {w : World} {K : Fg} {mg : Str → Option Value} {base : Heap} {f : Addr} {fd : FuncData}
abbrev NLn : List Str := ["pot", "city", "hops", "slow", "many", "stops", "hop", "leasts", "near", "far"]
def LineP (c : City) (hops : Nat) (top : Int) (d : Dt) : Prop := ∃ l : Line, l.ok c hops top ∧ d = l.d
end
end K19

set_option linter.all false
set_option maxRecDepth 100000
set_option maxHeartbeats 4000000
namespace Dv
open PySem PySem.Spec PyProof.Rows L2 RZ
variable [Tbl]
section
variable {X : Cx} {δ : De} {e : Expr} {o : Out} {pos : Pos} {ds : List Dt} {R : List Dt → Prop} {N : De → Prop} {rest : List Stmt} {x : Str} {i : Nat}
/-- x.extend(e), e a new list -/
theorem sd_ext (i : Nat) {x : Str} {apos cpos np : Pos} (hs : δ[i]? = some (.own ds)) (he : XO X e δ R) (hR : ∀ es, R es → ds.length + es.length ≤ 100000 ∧ N (δ.set i (.own (ds ++ es)))) (hN : X.N[i]? = some x := by rfl)
    (hv : Vis X.env.scope x := by first | exact Or.inl rfl | exact Or.inr (Or.inl rfl) | exact Or.inr (Or.inr rfl)) (hd : (x == ("__debug__" : Str)) = false := by decide) (hcd : (x == ("__classdict__" : Str)) = false := by decide)
    (hbase : attributeBase (.Name x np) "extend" X.env (eval (.Name x np) X.env) = eval (.Name x np) X.env := by rfl)
    (hfew : ((backTo cpos (starEach [e] X.env)).all (fun x => !x.1) && (backToKw cpos (keywordEach [] X.env)).all (fun x => x.1.isSome) && decide (([e] : List Expr).length + ([] : List Keyword).length + (if ([] : List Keyword).isEmpty then 0 else 1) < 30)) = true := by rfl)
    (hline : (apos.endLine == cpos.line) = true := by rfl) (hst : starEach [e] X.env = [(false, eval e X.env)] := by rfl) (hsw : swapsWith (.Call (.Attribute (.Name x np) "extend" apos) [e] [] cpos) none pos.line X.env = pure false := by rfl) :
    SD X (.Expr (.Call (.Attribute (.Name x np) "extend" apos) [e] [] cpos) pos) δ { o with nx := N } := by
  refine PS.imp (ps_expr (pe_bm PySem.F.plainAttrs_list PySem.F.slot_list_extend PySem.F.type_list_extend mt_extend (pe_var hN hv hd hcd) (pa_cons he pa_nil (by rw [hst]; rfl)) hbase hfew hline hst rfl) hsw) fun D σ H ⟨p, B, G, i3, en, q⟩ => ?_
  obtain ⟨o', h1, l, xs, rfl, h2, h3, h4, h5, h6⟩ := en.slot i _ hs
  refine ⟨_, h1, .inl ⟨rfl, xs, .inl (.inl h5)⟩, p, B, G, i3, en, fun l2 zs es G' H' r n h0 g pl hl ha => ?_⟩
  have en' := en.nxt n
  have i3' := i3.nxt n
  have g' : G' l = none := n.st.2 l (nn h5) h3
  have h5' : H' l = some (.lst xs) := n.ex _ _ (by rw [del_ne h4]; exact h5) (fun _ z => by cases z)
  have rr := hR es r
  refine ⟨l, l2, xs, zs, rfl, rfl, h5', hl, by rw [dpAll_length h6, dpAll_length ha]; exact Nat.le_trans rr.1 (by decide), q.nx _ σ G' _ rr.2 (n.stepB i3) ⟨i3'.bh.mut h2 h5', i3'.gh.mut g', (fun z hz' => ?_), i3'.tz.mut h5'⟩ (en'.app hs h1 (dpAll_append (dpAll_ex n.st.1 _ _ h6) ha))⟩
  obtain ⟨a1, a2, a3, a4, a5, a6⟩ := i3'.pot z hz'
  have : z ≠ l := fun w => h4 (by rw [hz', w])
  exact ⟨a1, a2, a3, a4, by rw [upd_ne this]; exact a5, a6⟩
theorem s_extend {apos cpos np : Pos} {F : List Dt → De} (hi : Nx X.N x i) (hs : δ[i]? = some (.own ds)) (hF : ∀ es, SetR δ i (.own (ds ++ es)) (F es)) (h : XO X e δ fun es => ds.length + es.length ≤ 100000 ∧ SsD X rest (F es) o)
    (hv : Vis X.env.scope x := by first | exact Or.inl rfl | exact Or.inr (Or.inl rfl) | exact Or.inr (Or.inr rfl)) (hd : (x == ("__debug__" : Str)) = false := by decide) (hcd : (x == ("__classdict__" : Str)) = false := by decide)
    (hbase : attributeBase (.Name x np) "extend" X.env (eval (.Name x np) X.env) = eval (.Name x np) X.env := by rfl)
    (hfew : ((backTo cpos (starEach [e] X.env)).all (fun x => !x.1) && (backToKw cpos (keywordEach [] X.env)).all (fun x => x.1.isSome) && decide (([e] : List Expr).length + ([] : List Keyword).length + (if ([] : List Keyword).isEmpty then 0 else 1) < 30)) = true := by rfl)
    (hline : (apos.endLine == cpos.line) = true := by rfl) (hst : starEach [e] X.env = [(false, eval e X.env)] := by rfl) (hsw : swapsWith (.Call (.Attribute (.Name x np) "extend" apos) [e] [] cpos) none pos.line X.env = pure false := by rfl) :
    SsD X (.Expr (.Call (.Attribute (.Name x np) "extend" apos) [e] [] cpos) pos :: rest) δ o :=
  ss_seq (N := fun δ' => SsD X rest δ' o) (sd_ext i hs h (fun es k => ⟨k.1, by rw [(hF es).eq]; exact k.2⟩) hi.eq hv hd hcd hbase hfew hline hst hsw) fun δ' h => h
end
end Dv

set_option linter.all false
set_option maxRecDepth 100000
set_option maxHeartbeats 4000000
namespace Dv
open PySem PySem.Spec PyProof.Rows L2 RZ
variable [Tbl]
section
variable {X : Cx} {ds : List Dt} {R : Dt → Prop} {K : Fg} {H : Hp}
theorem dzAll_rep {vs : List V} (h : DzAll K H vs ds) : ∀ n : Nat, DzAll K H (List.replicate n vs).flatten (List.replicate n ds).flatten
  | 0 => .nil
  | n + 1 => by
    rw [List.replicate_succ, List.replicate_succ, List.flatten_cons, List.flatten_cons]
    exact dpAll_append h (dzAll_rep h n)
theorem bp_repT {k : Int} (h0 : ds ≠ []) (hl : ds.length ≤ 1000) (k2 : 2 ≤ k) (k1 : k ≤ 1000) (r : R (.tuple (List.replicate k.toNat ds).flatten)) : BinP X .Mult (.tuple ds) (.int k) R := ⟨_, op_repT, by
  intro p B G H v w i3 h1 h2 Q q
  cases h2
  cases h1 with
  | tup hs ha => exact ⟨_, _, _, rfl, rfl, ex_t i3.gh hs, fun e => h0 (by subst e; cases ha; rfl), k2, k1, by rw [dpAll_length ha]; exact hl, fun l hl => q _ _ _ _ r (.new i3 _ hl) (.tup (.inl (.inl upd_same)) (dpAll_ex (Ex.new (i3.gh.free hl)) _ _ (dzAll_rep ha _)))⟩⟩
end
end Dv

set_option linter.all false
set_option maxRecDepth 100000
set_option maxHeartbeats 4000000
namespace Dv
open PySem PySem.Spec PyProof.Rows L2 RZ
variable [Tbl]
section
variable {X : Cx} {δ : De} {e : Expr} {S : Bool → Prop}
/-- a list as a test -/
theorem t_list (h : XD X e δ fun d => ∃ ds, d = .list ds ∧ S (!ds.isEmpty)) (he : ∀ whole, isTrue e X.env whole = (do let v ← whole; standAt e.pos; holding [v] (truthy v)) := by intro _; rfl) : XT X e δ S := PT.imp (pt_truth h he) fun σ H Q ⟨p, B, G, i3, en, q⟩ =>
  ⟨p, B, G, i3, en, fun v d G' H' ⟨ds, r, k⟩ n hv => by
    subst r
    cases hv with
    | lst hs ha => exact ⟨!ds.isEmpty, .inl ⟨_, exl (i3.nxt n).gh hs, by cases ha <;> rfl⟩, q _ G' H' k n⟩⟩
end
end Dv

set_option linter.all false
set_option maxRecDepth 100000
set_option maxHeartbeats 4000000
namespace Dv
open PySem PySem.Spec PyProof.Rows L2 RZ
variable [Tbl]
section
variable {X : Cx} {sts rest : List Stmt} {a b c e : Expr} {δ δ' : De} {o : Out} {d : Dt} {ds : List Dt} {pos p sp np : Pos} {k j : Int} {x y : Str} {i : Nat} {R S : List Dt → Prop}
/-- x[b] = v, x a list of the def's own -/
theorem tx_own {jj : Nat} (hi : Nx X.N x i) (hs : δ[i]? = some (.own ds)) (hb : PD X b δ (.int j)) (hj : ixN ds.length j = some jj) (hS : SetR δ i (.own (ds.set jj d)) δ') (hv : Vis X.env.scope x := by first | exact Or.inl rfl | exact Or.inr (Or.inl rfl) | exact Or.inr (Or.inr rfl)) (hd : (x == ("__debug__" : Str)) = false := by decide)
    (hcd : (x == ("__classdict__" : Str)) = false := by decide)
    (hasg : ∀ v, assign (.Subscript (.Name x np) b pos) X.env v = (do
      let ov ← holding [v] (eval (.Name x np) X.env)
      let iv ← holding [v, ov] (eval b X.env)
      standAt pos
      holding [v, ov, iv] (setItem ov iv v)
      release [v, ov, iv] []) := by intro _; rfl) : TgX X (.Subscript (.Name x np) b pos) d δ δ' := by
  rw [← hS.eq]
  exact PG.imp (pg_sub (pe_var hi.eq hv hd hcd) hb set_list hasg) fun v σ H Q ⟨p, B, G, i3, en, hv', q⟩ => by
    obtain ⟨o', h1, l, xs, rfl, h2, h3, h4, h5, h6⟩ := en.slot i _ hs
    refine ⟨_, h1, p, B, G, i3, en, fun u dd G1 H1 r1 n1 hv1 => ?_⟩
    subst r1
    cases hv1
    have h51 : H1 l = some (.lst xs) := n1.ex _ _ (by rw [del_ne h4]; exact h5) (fun _ z => by cases z)
    have g1 : G1 l = none := n1.st.2 l (nn h5) h3
    have i31 := i3.nxt n1
    have h61 := dpAll_ex n1.st.1 _ _ h6
    have hset : DzAll X.K G1 (xs.set jj v) (ds.set jj d) := dzAll_of_get (by rw [List.length_set, List.length_set]; exact dpAll_length h6) fun t x' d' k1 k2 => by
      by_cases ht : jj = t
      · subst ht
        have hl : jj < xs.length := by have := (List.getElem?_eq_some_iff.mp k1).1; rwa [List.length_set] at this
        have hl2 : jj < ds.length := by have := (List.getElem?_eq_some_iff.mp k2).1; rwa [List.length_set] at this
        rw [List.getElem?_set_self hl] at k1
        rw [List.getElem?_set_self hl2] at k2
        cases k1; cases k2
        exact dp_ex n1.st.1 _ _ hv'
      · rw [List.getElem?_set_ne ht] at k1 k2
        obtain ⟨d3, e1, e2⟩ := dpAll_get' h61 k1
        rw [e1] at k2
        cases k2
        exact e2
    refine ⟨l, xs, j, jj, rfl, rfl, h51, by rw [dpAll_length h6]; exact hj, q σ G1 _ (n1.stepB i3) ⟨i31.bh.mut h2 h51, i31.gh.mut g1, (fun z hz => ?_), i31.tz.mut h51⟩ ((en.nxt n1).app hs h1 hset)⟩
    obtain ⟨a1, a2, a3, a4, a5, a6⟩ := i31.pot z hz
    have : z ≠ l := fun w => h4 (by rw [hz, w])
    exact ⟨a1, a2, a3, a4, by rw [upd_ne this]; exact a5, a6⟩
theorem SetR.lt {δ δ' : De} {i : Nat} {en : En} (h : SetR δ i en δ') : i < δ.length := by
  induction h with
  | z => simp
  | s _ ih => simpa using ih
/-- targets that write into own lists -/
theorem s_unpX {tg : Expr} (h : XD X e δ fun d => ∃ δ', TgX X tg d δ δ' ∧ SsD X rest δ' o) (hs : swapsWithSole [tg] e pos.line X.env = pure false := by rfl) (hw : swappedStores [tg] e X.env = pure none := by rfl)
    (h1 : (assignEach [tg] X.env).map (·.2) = [assign tg X.env] := by rfl) : SsD X (.Assign [tg] e pos :: rest) δ o := by
  have pg : PG X tg (fun v σ H Q => ∃ d δ', TgX X tg d δ δ' ∧ SsD X rest δ' o ∧ rGX X.K d δ δ' v σ H Q) := ⟨fun pins s σ H v u Q I r ⟨d, δ', a, _, q⟩ => PG.run a pins s σ H v u Q I r q⟩
  refine ss_seq (N := fun δ' => SsD X rest δ' o) ?_ fun δ' h => h
  exact PS.imp (ps_asg h pg hs hw h1) fun D σ H ⟨p, B, G, i3, en, q⟩ => ⟨p, B, G, i3, en, fun v d G' H' ⟨δ', t, k⟩ n hv => ⟨d, δ', t, k, p, B, G', i3.nxt n, en.nxt n, hv, fun σ' G2 H2 s2 i2 en2 => q.nx _ _ G2 H2 k ((n.stepB i3).trans s2) i2 en2⟩⟩
/-- x, y = a, b, both new lists -/
theorem s_twoO {j : Nat} {px py pt : Pos} {kt k2 pt2} {F : List Dt → De} {G : List Dt → List Dt → De} (hi : Nx X.N x i) (hj : Nx X.N y j) (hF : ∀ d, SetR δ i (.own d) (F d)) (hG : ∀ d d2, SetR (F d) j (.own d2) (G d d2)) (ha : XO X a δ R) (hb : XO X b δ S) (k : ∀ d d2, R d → S d2 → SsD X rest (G d d2) o)
    (hij : i ≠ j := by decide) (hN : X.N.Nodup := by assumption) (hc : X.calm = true := by rfl) (hx : X.env.scope.names.lookup x = some .local := by rfl) (hy : X.env.scope.names.lookup y = some .local := by rfl)
    (hw : swappedStores [.Tuple [.Name x px, .Name y py] kt pt] (.Tuple [a, b] k2 pt2) X.env = pure (some [x, y]) := by rfl) (hs : swapsWithSole [.Tuple [.Name x px, .Name y py] kt pt] (.Tuple [a, b] k2 pt2) pos.line X.env = pure false := by rfl)
    (h1 : starEach [a, b] X.env = (false, eval a X.env) :: starEach [b] X.env := by rfl) (h2 : starEach [b] X.env = (false, eval b X.env) :: starEach [] X.env := by rfl) :
    SsD X (.Assign [.Tuple [.Name x px, .Name y py] kt pt] (.Tuple [a, b] k2 pt2) pos :: rest) δ o := by
  refine ss_seq (N := fun δ' => SsD X rest δ' o) ?_ fun δ' h => h
  exact PS.imp (ps_par hc hN hi.eq hj.eq hij hx hy (pa_cons ha (pa_cons hb pa_nil h2) h1) hw hs) fun D σ H ⟨p, B, G0, i3, en, q⟩ => ⟨p, B, G0, i3, en, fun l xs ds G1 H1 r1 n1 h0 g pl hl ha1 => ⟨p, B, G1, i3.nxt n1, en.nxt n1, fun l2 xs2 ds2 G2 H2 r2 n2 h02 g2 pl2 hl2 ha2 => by
    refine ⟨.ref l, .ref l2, rfl, q.nx _ _ G2 H2 (k ds ds2 r1 r2) ((n1.trans n2).stepB i3) (i3.nxt (n1.trans n2)) ?_⟩
    have e0 := en.putOwn i3 n1 h0 g pl hl ha1 i
    have e1 := e0.putOwn (i3.nxt n1) n2 h02 g2 pl2 hl2 ha2 j
    rw [(hF ds).eq, (hG ds ds2).eq] at e1
    exact e1⟩⟩
end
/-- a promise of a new list is one of data -/
theorem new_data {K : Fg} {H G G' H' : Hp} {l : Addr} {xs : List V} {ds : List Dt} (hg : Ex G H) (s1 : Step H G G') (e2 : Ex G' H') (h1 : H l = none) (h2 : G' l = none) (h3 : H' l = some (.lst xs)) (h4 : DzAll K G' xs ds) : Step H G (upd G' l (.lst xs)) ∧ Ex (upd G' l (.lst xs)) H' ∧ Dz K (upd G' l (.lst xs)) (.ref l) (.list ds) :=
  ⟨⟨s1.1.trans (Ex.new h2), fun a k1 k2 => by
    have : a ≠ l := fun z => k1 (z ▸ h1)
    rw [upd_ne this]; exact s1.2 a k1 k2⟩, fun a o ho => by
    by_cases z : a = l
    · subst z; rw [upd_same] at ho; cases ho; exact h3
    · rw [upd_ne z] at ho; exact e2 a o ho, .lst (.inl (.inl upd_same)) (dpAll_ex (Ex.new h2) _ _ h4)⟩
theorem Cal.ofO {P : Program} {w : World} {K : Fg} {mg : Str → Option Value} {base : Heap} {k : Nat} {x : Str} {ps : List Str} {st : Stmt} {R : List Dt → List Dt → Prop} (C : Cal P w K mg base k x ps st (spO K R)) : Cal P w K mg base k x ps st (spD K fun ds d => ∃ es, R ds es ∧ d = .list es) := by
  obtain ⟨f, fd, F, h⟩ := C.ex
  have go : ∀ vs H Q E, spD K (fun ds d => ∃ es, R ds es ∧ d = .list es) vs H Q E → spO K R vs H Q E := fun vs H Q E ⟨G, ds, d, eg, hv, ⟨es, r, e⟩, q⟩ => ⟨G, ds, es, eg, hv, r, fun l xs G' H' s1 e1 e2 h1 h2 h3 h4 => by
    subst e
    obtain ⟨q1, q2, q3⟩ := new_data eg.1 s1 e2 h1 h2 h3 h4
    exact q _ _ H' q1 e1 q2 q3⟩
  exact ⟨f, fd, ⟨fun vs H Q E z => F.len vs H Q E (go vs H Q E z), fun A outer s H args us vs Q E hr hg en bt va z => F.run A outer s H args us vs Q E hr hg en bt va (go vs H Q E z)⟩, h⟩
/-! ### a list of data, and one list in it that is written to at the end -/
section
variable {X : Cx} {δ δ1 δ2 : De} {o : Out} {i : Nat} {x : Str}
inductive MidS (X : Cx) (δ : De) : List Stmt → List Stmt → Prop
  | done {sts} : MidS X δ sts sts
  | step {c bod pos sts rest} : XT X c δ (fun k => k = false) → MidS X δ sts rest → MidS X δ (.If c bod [] pos :: sts) rest
structure MidI (K : Fg) (p : Option Addr) (B G H0 G' H : Hp) (σ0 σ : L2.St) (δ : De) (i : Nat) (a l : Addr) (xs vs : List V) (ds1 ds2 : List Dt) : Prop where
  i3 : I3 p B G H0
  en : EnvD K p B G H0 σ0 δ
  eq : σ = σ0.set i (some (.ref l))
  n : Nxt p G H0 G' H
  a0 : H0 a = none
  ga : G' a = some (.lst xs)
  gl : G' l = some (.lst (.ref a :: vs))
  da : DzAll K G' xs ds1
  dl : Dz K G' (.ref l) (.list (.list ds1 :: ds2))
def rM (K : Fg) (δ : De) (i : Nat) (ds1 ds2 : List Dt) (o : Out) : TS := fun D σ H => ∃ p B G H0 G' σ0 a l xs vs, MidI K p B G H0 G' H σ0 σ δ i a l xs vs ds1 ds2 ∧ Post K p B G D o
theorem MidI.env {K : Fg} {p : Option Addr} {B G H0 G' H : Hp} {σ0 σ : L2.St} {a l : Addr} {xs vs : List V} {ds1 ds2 : List Dt} (h : MidI K p B G H0 G' H σ0 σ δ i a l xs vs ds1 ds2) : EnvD K p B G' H σ (δ.set i (.d (.list (.list ds1 :: ds2)))) := by
  rw [h.eq]
  exact (h.en.nxt h.n).set h.dl
theorem MidI.go {K : Fg} {p : Option Addr} {B G H0 G' H G2 H2 : Hp} {σ0 σ : L2.St} {a l : Addr} {xs vs : List V} {ds1 ds2 : List Dt} (h : MidI K p B G H0 G' H σ0 σ δ i a l xs vs ds1 ds2) (n : Nxt p G' H G2 H2) : MidI K p B G H0 G2 H2 σ0 σ δ i a l xs vs ds1 ds2 :=
  ⟨h.i3, h.en, h.eq, h.n.trans n, h.a0, n.st.1 _ _ h.ga, n.st.1 _ _ h.gl, dpAll_ex n.st.1 _ _ h.da, dp_ex n.st.1 _ _ h.dl⟩
theorem mid_ps {ds1 ds2 : List Dt} (hF : SetR δ i (.d (.list (.list ds1 :: ds2))) δ1) {mid fin : List Stmt} (m : MidS X δ1 mid fin) (hfin : PSs X fin (rM X.K δ i ds1 ds2 o)) : PSs X mid (rM X.K δ i ds1 ds2 o) := by
  induction m with
  | done => exact hfin
  | @step c bod pos sts fin hc _ ih =>
    have ih := ih hfin
    have z1 : PSs X bod (fun _ _ _ => False) := ⟨fun pins s σ H D I h => h.elim⟩
    refine PSs.imp (pss_cons (ps_if hc z1 pss_nil) ih) fun D σ H ⟨p, B, G, H0, G', σ0, a, l, xs, vs, h, q⟩ => ?_
    have en := h.env
    rw [hF.eq] at en
    refine ⟨p, B, G', h.i3.nxt h.n, en, fun c G2 H2 hc2 n2 => ?_⟩
    subst hc2
    exact iteF ⟨p, B, G, H0, G2, σ0, a, l, xs, vs, h.go n2, q⟩
theorem s_heard {e1 ea : Expr} {es : List Expr} {mid rest : List Stmt} {ds1 ds2 : List Dt} {d : Dt} {lp pos pos' np sp kp apos cpos pos2 : Pos} {jj} (hi : Nx X.N x i) (hF : SetR δ i (.d (.list (.list ds1 :: ds2))) δ1) (hG : SetR δ i .no δ2) (h1 : XO X e1 δ (fun y => y = ds1)) (h2 : PAD X es δ ds2)
    (m : MidS X δ1 mid (.Expr (.Call (.Attribute (.Subscript (.Name x np) (.Constant (.int 0) jj kp) sp) "append" apos) [ea] [] cpos) pos2 :: rest)) (he : PD X ea δ1 d) (hl1 : ds1.length ≤ 10000) (hl2 : ds2.length ≤ 10000) (k : SsD X rest δ2 o)
    (hN : X.N.Nodup := by assumption) (hx : Loc X.env.scope x := by first | exact Or.inl rfl | exact Or.inr rfl) (hs : swapsWith (.List (e1 :: es) lp) (some (.Name x pos')) pos.line X.env = pure false := by rfl) (hf : X.fn x = true ∨ X.env.scope.names.lookup x = some .local := by first | exact .inl rfl | exact .inr rfl | assumption)
    (hst1 : starEach (e1 :: es) X.env = (false, eval e1 X.env) :: starEach es X.env := by rfl)
    (hv : Vis X.env.scope x := by first | exact Or.inl rfl | exact Or.inr (Or.inl rfl) | exact Or.inr (Or.inr rfl)) (hd : (x == ("__debug__" : Str)) = false := by decide) (hcd : (x == ("__classdict__" : Str)) = false := by decide)
    (hbase : attributeBase (.Subscript (.Name x np) (.Constant (.int 0) jj kp) sp) "append" X.env (eval (.Subscript (.Name x np) (.Constant (.int 0) jj kp) sp) X.env) = eval (.Subscript (.Name x np) (.Constant (.int 0) jj kp) sp) X.env := by rfl)
    (hfew : ((backTo cpos (starEach [ea] X.env)).all (fun x => !x.1) && (backToKw cpos (keywordEach [] X.env)).all (fun x => x.1.isSome) && decide (([ea] : List Expr).length + ([] : List Keyword).length + (if ([] : List Keyword).isEmpty then 0 else 1) < 30)) = true := by rfl)
    (hline : (apos.endLine == cpos.line) = true := by rfl) (hst : starEach [ea] X.env = [(false, eval ea X.env)] := by rfl) (hsw : swapsWith (.Call (.Attribute (.Subscript (.Name x np) (.Constant (.int 0) jj kp) sp) "append" apos) [ea] [] cpos) none pos2.line X.env = pure false := by rfl) :
    SsD X (.Assign [.Name x pos'] (.List (e1 :: es) lp) pos :: mid) δ o := by
  have hfin : PSs X (.Expr (.Call (.Attribute (.Subscript (.Name x np) (.Constant (.int 0) jj kp) sp) "append" apos) [ea] [] cpos) pos2 :: rest) (rM X.K δ i ds1 ds2 o) := by
    refine PSs.imp (pss_cons (ps_expr (pe_bm PySem.F.plainAttrs_list PySem.F.slot_list_append PySem.F.type_list_append mt_append (pe_ix ix_list (pe_var hi.eq hv hd hcd) pe_int (fun _ _ => rfl)) (pa_cons he pa_nil (by rw [hst]; rfl)) hbase hfew hline hst rfl) hsw) k) fun D σ H ⟨p, B, G, H0, G', σ0, a, l, xs, vs, h, q⟩ => ?_
    have en := h.env
    obtain ⟨o', k1, v1, rfl, k2⟩ := en.slot i (.d (.list (.list ds1 :: ds2))) (List.getElem?_set_self hF.lt)
    have ev : v1 = .ref l := by
      have hl : i < σ0.length := by
        have := (List.getElem?_eq_some_iff.mp k1).1
        rw [h.eq, List.length_set] at this
        exact this
      rw [h.eq, List.getElem?_set_self hl] at k1
      cases k1; rfl
    subst ev
    have i3' := h.i3.nxt h.n
    have hH : H l = some (.lst (.ref a :: vs)) := i3'.gh _ _ h.gl
    have hA : H a = some (.lst xs) := i3'.gh _ _ h.ga
    rw [hF.eq] at en
    refine ⟨_, k1, l, _, 0, .ref a, rfl, rfl, .inl (.inl hH), atI_nat (j := 0) rfl, .inl ⟨rfl, xs, .inl (.inl hA)⟩, p, B, G', i3', en, fun v d' G2 H2 r n2 hv' => ?_⟩
    have h2 := h.go n2
    have i32 := h.i3.nxt h2.n
    refine ⟨a, xs, v, rfl, rfl, i32.gh _ _ h2.ga, by rw [dpAll_length h.da]; exact Nat.lt_of_le_of_lt hl1 (by decide), ?_⟩
    have ga0 : G a = none := h.i3.gh.free h.a0
    have n3 : Nxt p G H0 G (upd H2 a (.lst (xs ++ [v]))) := by
      refine ⟨Step.refl _ _, fun b u hb hn => ?_, fun b u hb => ?_, fun z hz => ?_, fun b hb => upd_dom b (h2.n.dom b hb), fun t => tabs_lst (i32.gh _ _ h2.ga) (h2.n.tb t)⟩
      · have : b ≠ a := ne_of_none (del_le hb).1 h.a0
        rw [upd_ne this]; exact h2.n.ex b u hb hn
      · have : b ≠ a := ne_of_none hb ga0
        rw [upd_ne this]; exact i32.gh b u (h2.n.st.1 b u hb)
      · obtain ⟨_, _, u, u', h3, h4⟩ := h.i3.pot z hz
        have : z ≠ a := ne_of_none h3 h.a0
        rw [upd_ne this]; exact h2.n.pot z hz
    refine ⟨p, B, G, h.i3.nxt n3, ?_, q⟩
    have e3 := (h.en.nxt n3).put (i := i) (o := some (.ref l)) (en := .no) trivial fun b f => by rcases f with ⟨z, _⟩ | z <;> cases z
    rw [← h.eq, hG.eq] at e3
    exact e3
  refine PSs.imp (pss_cons (ps_set hN hi.eq hx (pe_lst (pa_cons h1 h2.pa hst1)) hs hf) (mid_ps hF m hfin)) fun D σ H ⟨p, B, G, i3, en, q⟩ => ⟨p, B, G, i3, en, fun a xs ds G1 H1 r n h0 g pl hla ha => ⟨p, B, G1, i3.nxt n, en.nxt n, fun vs dd G2 H2 r2 n2 hv2 => ?_⟩⟩
  subst r
  subst r2
  refine ⟨by show vs.length + 1 ≤ _; rw [dpAll_length hv2]; exact Nat.le_trans (Nat.succ_le_succ hl2) (by decide), fun l hl => ?_⟩
  have n12 := n.trans n2
  have a2 : G2 a = none := n2.st.2 a (nn hla) g
  have hla2 : H2 a = some (.lst xs) := n2.ex _ _ (by rw [del_ne pl]; exact hla) (fun _ z => by cases z)
  obtain ⟨m1, d1⟩ := own_data i3 n12 h0 a2 pl hla2 (dpAll_ex n2.st.1 _ _ ha)
  have i31 := i3.nxt m1
  have gl : upd G2 a (.lst xs) l = none := i31.gh.free hl
  have m2 : Nxt p (upd G2 a (.lst xs)) H2 (upd G2 a (.lst xs)) (upd H2 l (.lst (.ref a :: vs))) := .newH i31 _ hl
  obtain ⟨m3, d2⟩ := own_data (K := X.K) (ds := .list ds :: dd) i31 m2 hl gl (pot_ne i31 hl) upd_same (.cons d1 (dpAll_ex (Ex.new a2) _ _ hv2))
  have al : a ≠ l := fun z => by subst z; rw [hla2] at hl; cases hl
  exact ⟨p, B, G, H, upd (upd G2 a (.lst xs)) l (.lst (.ref a :: vs)), σ, a, l, xs, vs, ⟨i3, en, rfl, m1.trans m3, h0, by rw [upd_ne al, upd_same], upd_same, dpAll_ex (Ex.new gl) _ _ (dpAll_ex (Ex.new a2) _ _ (dpAll_ex n2.st.1 _ _ ha)), d2⟩, q⟩
end
end Dv

set_option linter.all false
set_option maxRecDepth 100000
set_option maxHeartbeats 4000000
namespace Dv
open PySem PySem.Spec PyProof.Rows L2 RZ HT
variable [Tbl]
section
variable {prog : Program} {w : World} {A : Around} {E : Value → Shared → Prop} {s : Shared}
theorem adj_rev (n : Nat) : Builtin.Slice.sliceAdjust none none (-1) (n : Int) = ((n : Int) - 1, -1) := rfl
theorem places_rev (n : Nat) : Builtin.Slice.slicePlaces ((n : Int) - 1) (-1) (-1) = n := by
  unfold Builtin.Slice.slicePlaces
  rw [if_neg (by decide), show (- -1 : Int) = 1 by decide, Int.ediv_one]
  by_cases h : (n : Int) - 1 > -1
  · rw [if_pos h]; omega
  · rw [if_neg h]; omega
theorem applied_rev {sl : Addr} {vl vu vs : Value} {n : Nat} {Q : Int × Int × Nat → Shared → Prop} (hs : s.heap.IsSliceOf sl vl vu vs) (pl : IsPart vl none) (pu : IsPart vu none) (ps : IsPart vs (some (-1))) (h : Q ((n : Int) - 1, -1, n) s) : wpAny (model prog w) A (Builtin.Slice.sliceApplied (.ref sl) (pure (n : Int))) Q E s := by
  obtain ⟨o1, g1, g2, g3⟩ := id hs
  unfold Builtin.Slice.sliceApplied
  unfold Builtin.Slice.sliceFields
  refine wpAny_bind (wpAny_bind (wpAny_field g1 g3 (x := vl) rfl (wpAny_bind (wpAny_field g1 g3 (x := vu) rfl (wpAny_bind (wpAny_field g1 g3 (x := vs) rfl (wpAny_pure (wpAny_bind (slicePart_ ps ?_)))))))))
  show wpAny _ _ (if ((-1 : Int) == 0) = true then _ else _) _ _ s
  rw [if_neg (by decide : ¬ ((-1 : Int) == 0) = true)]
  refine wpAny_bind (slicePart_ pl (wpAny_bind (slicePart_ pu (wpAny_bind (wpAny_pure (?_ : wpAny _ _ (match Builtin.Slice.sliceAdjust none none (-1) (n : Int) with | (lo, hi) => pure (lo, (-1 : Int), Builtin.Slice.slicePlaces lo hi (-1))) _ _ s))))))
  rw [adj_rev]
  show wpAny _ _ (pure ((n : Int) - 1, (-1 : Int), Builtin.Slice.slicePlaces ((n : Int) - 1) (-1) (-1))) _ _ s
  rw [places_rev]
  exact wpAny_pure h
theorem fm_congr {α β : Type} {f g : α → Option β} : ∀ {l : List α}, (∀ x ∈ l, f x = g x) → l.filterMap f = l.filterMap g
  | [], _ => rfl
  | a :: l, h => by rw [List.filterMap_cons, List.filterMap_cons, h a (List.mem_cons_self ..), fm_congr fun x hx => h x (List.mem_cons_of_mem _ hx)]
theorem pick_rev (xs : Array Value) : ((List.range xs.size).filterMap fun (m : Nat) => xs[((xs.size : Int) - 1 + (m : Int) * -1).toNat]?).toArray = xs.toList.reverse.toArray := by
  have h : ((List.range xs.size).filterMap fun (m : Nat) => xs[((xs.size : Int) - 1 + (m : Int) * -1).toNat]?) = ((List.range xs.size).map fun k => xs.size - 1 - k).filterMap (xs[·]?) := by
    rw [List.filterMap_map]
    apply fm_congr
    intro m hm
    have := List.mem_range.mp hm
    show _ = xs[xs.size - 1 - m]?
    rw [show ((xs.size : Int) - 1 + (m : Int) * -1).toNat = xs.size - 1 - m by omega]
  rw [h, PySem.W.krv_range, List.filterMap_reverse, PySem.W.krv_all]
theorem get_rev {t sl : Addr} {xs : Array Value} {vl vu vs : Value} {Q : Value → Shared → Prop} (ht : IsTup s.heap t xs) (hs : s.heap.IsSliceOf sl vl vu vs) (pl : IsPart vl none) (pu : IsPart vu none) (ps : IsPart vs (some (-1)))
    (h : Q (.ref s.heap.objs.size) { s with heap := s.heap.push { cls := .type "tuple", data := .seq xs.toList.reverse.toArray } }) (hz : xs.size ≤ sizeLine) : wpAny (model prog w) A (getItem (.ref t) (.ref sl)) Q E s := by
  have hk : sizeOk (.seq xs.toList.reverse.toArray) := by
    show xs.toList.reverse.toArray.size ≤ sizeLine
    rw [List.size_toArray, List.length_reverse, Array.length_toList]; exact hz
  obtain ⟨o1, g1, g2, g3⟩ := id hs
  have hT : s.TypeIs (.ref sl) "slice" := ⟨o1, g1, g2⟩
  unfold getItem
  try with_reducible refine wpAny_holding ?_
  (try refine wpAny_bind (wpAny_pure ?_))
  refine wpAny_bind (wpAny_sequenceKey ht.typeIs (by decide) (wpAny_bind (wpAny_callSpecial?_slot (name := Str.ofString "__getitem__") ht.typeIs PyProof.Rows.slot_tuple_getitem (wpAny_call_entry PyProof.Rows.slot_tuple_getitem ht.typeIs entry_tuple_getitem ?_ (args_tuple_getitem _ _)))))
  show wpAny _ _ (Builtin.Tuple.tupleItemsOf (Value.ref t) >>= _) _ _ s
  refine wpAny_bind (tupleItemsOf_ ht (wpAny_bind (wpAny_typeOf hT ?_)))
  rw [if_pos (by decide)]
  refine wpAny_bind (applied_rev hs pl pu ps ?_)
  have no : ¬ ((((xs.size : Int) - 1) == 0 && (-1 : Int) == 1 && xs.size == xs.size) = true) := by
    rw [show ((-1 : Int) == 1) = false by decide, Bool.and_false, Bool.false_and]; decide
  show wpAny _ _ (if (((xs.size : Int) - 1) == 0 && (-1 : Int) == 1 && xs.size == xs.size) = true then _ else _) _ _ s
  rw [if_neg no, pick_rev]
  first
    | exact wpAny_bind (m := Builtin.Tuple.tupleExact _) (wpAny_newObj_type (wpAny_pure ⟨_, rfl, wpAny_pure h⟩) hk)
    | exact wpAny_bind (m := Builtin.Tuple.tupleExact _) (wpAny_newObj_type (wpAny_bind (wpAny_pure (wpAny_pure ⟨_, rfl, wpAny_pure h⟩))) hk)
    | exact wpAny_bind (wpAny_bind (m := Builtin.Tuple.tupleExact _) (wpAny_newObj_type (wpAny_pure (wpAny_pure ⟨_, rfl, wpAny_pure h⟩)) hk))
    | exact wpAny_bind (wpAny_bind (m := Builtin.Tuple.tupleExact _) (wpAny_newObj_type (wpAny_pure ⟨_, rfl, wpAny_pure h⟩) hk))
end
/-- t[::-1] of a tuple -/
def tRevT (K : PySem.W.Frag) (te : TE) : TE := fun σ H Q => te σ H fun x H1 => ∃ a xs, x = .ref a ∧ SqT K H1 a xs ∧ ∀ p, H1 p = none → Q (.ref p) (upd H1 p (.tup xs.reverse))
section
variable {X : Cx}
theorem pe_revT {e : Expr} {te : TE} {k : Nat} {p1 p2 p3 pos : Pos} (he : PE X e te) : PE X (.Subscript e (.Slice none none (some (.UnaryOp .USub (.Constant (.int 1) k p1) p2)) p3) pos) (tRevT X.K te) := by
  constructor
  intro pins s σ H Q I h
  refine Subscript_ (thn (he.run pins s σ H _ I h) fun v s1 ⟨x, H1, I1, r1, a, xs, ex, hx, q⟩ => ?_)
  subst ex
  cases r1
  have st : PO X (some (.UnaryOp .USub (.Constant (.int 1) k p1) p2)) (tPart (tUn (rU fun i => .int (-i)) (tC (.int 1)))) := po_some (pe_un un_neg pe_int)
  refine wpAny_Slice (thn (po_none.run pins s1 σ H1 (fun o H2 => o = none ∧ H2 = H1) I1 ⟨rfl, rfl⟩) fun vl s2 ⟨_, _, I2, pl, el, e2⟩ => thn (po_none.run pins s2 σ H1 (fun o H3 => o = none ∧ H3 = H1) (e2 ▸ I2) ⟨rfl, rfl⟩) fun vu s3 ⟨_, _, I3, pu, eu, e3⟩ => thn (st.run pins s3 σ H1 (fun o H4 => o = some (-1) ∧ H4 = H1) (e3 ▸ I3) ⟨1, rfl, -1, rfl, rfl, rfl⟩) fun vs s4 ⟨_, _, I4, ps, eo, e4⟩ => ?_)
  subst el eu eo e2 e3 e4
  have I5 : Inv X pins σ _ { s4 with heap := s4.heap.push { cls := .type "slice", data := .fields #[vl, vu, vs] } } := I4.kept (t' := s4.toks) fun b ob q => Heap.get?_push_of_some _ q
  obtain ⟨its, r, ht, hz⟩ := I5.tuple hx
  have hlen := r.length
  show wpAny (model X.prog X.w) X.A (subscriptTail e (.Slice none none (some (.UnaryOp .USub (.Constant (.int 1) k p1) p2)) p3) (.ref a) (.ref s4.heap.objs.size)) (EP X pins σ Q) X.xe _
  refine tail_any (ops := [.ref a, .ref s4.heap.objs.size]) ht.typeIs (PyProof.Rows.slot_tuple_getitem.lookup) ?_ (by with_unfolding_all rfl)
  refine get_rev ht (Heap.IsSliceOf.new _ vl vu vs) pl pu ps ?_ (by rw [List.size_toArray]; omega)
  refine ⟨.ref _, _, I5.laid (t' := s4.toks) (o := .tup xs.reverse) (fun b ob q => Heap.get?_push_of_some _ q) (Nat.le_refl _) ?_, rfl, q _ (I5.hok.fresh (Nat.le_refl _))⟩
  exact ⟨by rw [List.length_reverse]; exact hz, _, r.reverse, IsTup.new _ _⟩
theorem c_revT {e : Expr} {δ : De} {R : Dt → Prop} {k : Nat} {p1 p2 p3 pos : Pos} (h : XD X e δ fun d => ∃ ds, d = .tuple ds ∧ R (.tuple ds.reverse)) : XD X (.Subscript e (.Slice none none (some (.UnaryOp .USub (.Constant (.int 1) k p1) p2)) p3) pos) δ R :=
  PE.imp (pe_revT h) fun σ H Q ⟨p, B, G, i3, en, q⟩ => ⟨p, B, G, i3, en, fun v d G' H' ⟨ds, e, r⟩ n hv => by
    subst e
    cases hv with
    | tup hs ha =>
      have i3' := i3.nxt n
      exact ⟨_, _, rfl, ex_t i3'.gh hs, fun l hl => q _ _ _ _ r (n.trans (.new i3' _ hl)) (.tup (.inl (.inl upd_same)) (dpAll_ex (Ex.new (i3'.gh.free hl)) _ _ (dpAll_reverse ha)))⟩⟩
end
end Dv

set_option linter.all false
set_option maxRecDepth 100000
set_option maxHeartbeats 4000000
/-! own errors: class C(..): def __init__(self, value): self.value = value -/
namespace Dv
open PySem PySem.Spec PyProof.Rows L2 RZ PySem.W PySem.Calls PySem.HandSPX
variable [Tbl]
def iA (p1 p2 : Pos) : Arguments := ⟨[], [⟨"self", none, p1⟩, ⟨"value", none, p2⟩], none, [], [], none, []⟩
def iB (q1 q2 q3 q4 : Pos) : List Stmt := [.Assign [.Attribute (.Name "self" q1) "value" q2] (.Name "value" q3) q4]
def iS : Scope := { kind := .function, names := [("self", .local), ("value", .local)], isGenerator := false, isCoroutine := false, more := [] }
/-- what the text says of the class cn, at C, and of its __init__, at fI -/
structure ErrTxt (K : Frag) (mg : Str → Option Value) (cn qn : Str) (C fI : Addr) : Prop where
  gC : mg cn = some (.ref C)
  cls : ∃ nm q N bs bm sn sub ab col dd k0 k1 k2 k3 k5, K.lookup C = some (excClassObj nm q C N bs bm true sn sub ab col dd k0 k1 k2 k3 k5 "ValueError.__new__") ∧ refsVE bm = true
  sa : findIn K (.ref C) "__setattr__" = some (some (.builtin "object.__setattr__"))
  ga : findIn K (.ref C) "__getattribute__" = some (some (.builtin "BaseException.__getattribute__"))
  gg : findIn K (.ref C) "__getattr__" = some none
  noN : findIn K (.ref C) "value" = some none
  iC : findIn K (.ref C) "__init__" = some (some (.ref fI))
  tC : typeIn K (.ref fI) = some (.type "function")
  kC : keepIn K (.ref C) = true
  exC : subIn K (.ref C) (.type "BaseException") = some true
  tyC : typeIn K (.ref C) = some (.type "type")
  hdC : hasDictIn K C = true
  te : exmOne K (.ref C) (.ref C) = some true
  fn : ∃ (oc : Value) (od : Option Addr) (doc pm : Value) (an : Option Addr) (cdv ct : Value) (osl : Array (Option Value)) (p1 p2 q1 q2 q3 q4 : Pos),
    K.lookup fI = some ⟨oc, od, .func (fnOf "__init__" qn (iA p1 p2) (iB q1 q2 q3 q4) iS .none .none doc pm an cdv ct), osl⟩ ∧ codeIn K cdv qn = true
theorem ldL {M : Model} {s : Shared} {name : Str} {scope : Scope} {L a : Addr} {cd : Value} {m : Str → Option Value} {x : Str} {pos : Pos} {v : Value} {Q : Value → Shared → Prop} {A : Around} {E : Value → Shared → Prop} (hn : s.heap.Ns L m) (hv : m x = some v) (h : Q v s)
    (hk : scope.kind = .function := by rfl) (hl : (envOfC name scope L a cd).kindOf x = some .local := by rfl) (hd : (x == ("__debug__" : Str)) = false := by decide) :
    wpAny M A (eval (.Name x pos) (envOfC name scope L a cd)) Q E s := wpAny_Name (wpAny_loadName_local hk hl hn hv h) hd
/-- what __init__ leaves of a new error at x -/
structure InitD (h h' : Heap) (x C dx t1 : Addr) (v : Value) : Prop where
  keep : ∀ b o, b ≠ x → h.get? b = some o → h'.get? b = some o
  obj : h'.get? x = some { cls := .ref C, dict := some dx, data := .fields #[.ref t1, .none, .none, .none, .bool false, .none] }
  dbig : h.objs.size ≤ dx
  dne : dx ≠ x
  ns : h'.Ns1 dx (fun y => if y = "value" then some v else none)
/-- a made error -/
structure MadeE (h h' : Heap) (e C d : Addr) (v : Value) : Prop where
  keep : ∀ b o, h.get? b = some o → h'.get? b = some o
  new : h.objs.size ≤ e
  obj : ∃ oe vs, h'.get? e = some oe ∧ oe.cls = .ref C ∧ oe.dict = some d ∧ oe.data = .fields vs ∧ vs[1]? = some .none
  dbig : h.objs.size ≤ d
  dne : d ≠ e
  ns : h'.Ns1 d (fun y => if y = "value" then some v else none)
section
variable {prog : Program} {w : World} {A : Around} {E : Value → Shared → Prop} {R : Result → Shared → Prop} {s : Shared} {K : Frag} {mg : Str → Option Value} {cn qn : Str} {C fI : Addr}
theorem err_init (T : ErrTxt K mg cn qn C fI) {x t0 : Addr} {v : Value} (X : K.In s.heap) (hlim : s.heap.NoLimit) (hx : s.heap.get? x = some (excO C t0)) (hnx : K.lookup x = none) (hroom : A.depth < recursionLimit)
    (hq : ∀ h' tk dx, InitD s.heap h' x C dx t0 v → R (.ok (.ret .none)) { s with heap := h', toks := tk }) :
    codeAny (model prog w) A (.call (.ref fI) ⟨[.ref x, v], []⟩) R s := by
  obtain ⟨oc, od, doc, pm, an, cdv, ct, osl, p1, p2, q1, q2, q3, q4, ho, hcd⟩ := T.fn
  obtain ⟨nm, q, N, bs, bm, sn, sub, ab, col, dd, k0, k1, k2, k3, k5, hC, hbm⟩ := T.cls
  have hcl : clsIn K C = some { name := nm, bases := bs, mro := .ref C :: bm, ns := N, qualname := q, hasDict := true, slotNames := sn, subclasses := sub, abstract := ab, collection := col, hasDel := false } := by unfold clsIn; rw [hC] <;> rfl
  refine Att.call_fn (binds := [("self", .ref x), ("value", v)]) X hlim ho hcd hroom (BindsTo.of_eq (by first | rfl | with_unfolding_all rfl)) (by first | rfl | decide | with_unfolding_all rfl) (fun s₁ IC => ?_) rfl rfl rfl
  obtain ⟨h₁, tk₁, rfl⟩ := IC.toInCall.same
  have k : ∀ b o, s.heap.get? b = some o → h₁.get? b = some o := IC.toInCall.keep
  have hn := IC.toInCall.ns
  have hxL : s.heap.objs.size ≠ x := Nat.ne_of_gt (Heap.lt_size hx)
  have X₁ : K.In h₁ := X.keeps k
  have hx₁ := k _ _ hx
  show wpAny _ _ (execs _ _) _ _ _
  refine wpAny_execs_cons (plainObj_wpAny_Assign_Attribute ?_)
  refine ldL (v := v) hn (by first | rfl | with_unfolding_all rfl | kernel_rfl) (ldL (v := .ref x) hn (by first | rfl | with_unfolding_all rfl | kernel_rfl) ?_)
  refine set_plain X₁ (ox := excO C t0) (od := none) ⟨hx₁, rfl, rfl, trivial⟩ T.sa ?_
  refine exc_osa X₁ hx₁ hcl (show refsVE (.ref C :: bm) = true from hbm) rfl T.noN (fun h₃ tk₃ dx k₃ dn dne hx₃ hn₃ => ?_)
  show wpAny _ _ (execs _ _) _ _ _
  have z : s.heap.objs.size < h₁.objs.size := hn.lt
  exact wpAny_execs_nil (hq h₃ tk₃ dx ⟨fun b o hb e => k₃ b o hb (k b o e), hx₃, Nat.le_of_lt (Nat.lt_of_lt_of_le z dn), dne, hn₃⟩)
theorem err_made (T : ErrTxt K mg cn qn C fI) {v : Value} (X : K.In s.heap) (hlim : s.heap.NoLimit) (hroom : A.depth + 1 < recursionLimit)
    (hq : ∀ h' tk e d, MadeE s.heap h' e C d v → R (.ok (.ret (.ref e))) { s with heap := h', toks := tk }) :
    codeAny (model prog w) A (.call (.ref C) ⟨[v], []⟩) R s := by
  obtain ⟨nm, q, N, bs, bm, sn, sub, ab, col, dd, k0, k1, k2, k3, k5, hC, hbm⟩ := T.cls
  obtain ⟨hp, g, dr, tk, os⟩ := s
  have k : ∀ b o, hp.get? b = some o → ((hp.push (kdv_tup [v])).push (excO C hp.objs.size)).get? b = some o := fun b o e => Heap.get?_push_of_some _ (Heap.get?_push_of_some _ e)
  have hget : ((hp.push (kdv_tup [v])).push (excO C hp.objs.size)).get? (hp.objs.size + 1) = some (excO C hp.objs.size) := by heap_get
  have hnx : K.lookup (hp.objs.size + 1) = none := by
    cases e : K.lookup (hp.objs.size + 1) with
    | none => rfl
    | some o =>
      have z : hp.get? (hp.objs.size + 1) = some o := X _ _ e
      exact absurd (Nat.lt_of_succ_lt (Heap.lt_size z)) (Nat.lt_irrefl _)
  refine call_own F.excBase_ValueError (fun X => refsVE_contains X bm hbm) (X _ _ hC) (looks_findIn X T.iC) (fun self => bind_fn X self T.tC) (by rw [sizeLine_eq]; exact (by decide : 1 ≤ 16777216)) ?_
  refine err_init (s := ⟨(hp.push (kdv_tup [v])).push (excO C hp.objs.size), g, dr, tk, os⟩) T (X.keeps k) (hlim.keeps k) hget hnx ?_ fun h' tk' dx ⟨k', hx, dn, dne, hns⟩ => ?_
  · show A.depth + 1 < recursionLimit
    exact hroom
  · have old : ∀ b o, hp.get? b = some o → h'.get? b = some o := fun b o e => k' b o (Nat.ne_of_lt (Nat.lt_succ_of_lt (Heap.lt_size e))) (k b o e)
    have z : hp.objs.size + 1 + 1 ≤ dx := by
      first
        | (simpa only [Heap.size_push] using dn)
        | exact dn
        | (have q := dn; rw [Heap.size_push, Heap.size_push] at q; exact q)
    exact ⟨rfl, hq h' tk' (hp.objs.size + 1) dx ⟨old, Nat.le_succ _, ⟨_, _, hx, rfl, rfl, rfl, rfl⟩, Nat.le_trans (Nat.le_trans (Nat.le_succ _) (Nat.le_succ _)) z, dne, hns⟩⟩
end
def vF (v : V) : List (Str × V) := [(("value" : Str), v)]
theorem relO_v {v : V} {v' : Value} (r : RelV v v') (f : Str) : RelO (List.lookup f (vF v)) (if f = "value" then some v' else none) := by
  by_cases hw : f = "value"
  · subst hw
    rw [if_pos rfl, show List.lookup ("value" : Str) (vF v) = some v by simp [vF, List.lookup]]
    exact r
  · rw [if_neg hw]
    have qw : (f == ("value" : Str)) = false := by simpa using hw
    rw [show List.lookup f (vF v) = none by simp [vF, List.lookup, qw]]
    trivial
section
variable {X : Cx} {C fI : Addr} {cn qn : Str}
/-- C(e) -/
def tMkE (C : Addr) (ta : TA) : L2.St → Hp → L2.XK → Prop := fun σ H Q => ta σ H fun vs H1 => ∃ v, vs = [v] ∧ ∀ d, H1 d = none → Q (.ref C) (some d) (upd H1 d (.xd (vF v)))
theorem pmk_err {a : Expr} {ta : TA} {p pos : Pos} {k : Nat} (T : ErrTxt X.K X.mg cn qn C fI) (hr : Room k X.A) (ha : PA X [a] ta) (hg : Gl X cn := by rfl) (hdb : (cn == ("__debug__" : Str)) = false := by decide)
    (he : starEach (a :: []) X.env = (false, eval a X.env) :: starEach [] X.env := by rfl) (hpl : (backTo pos (starEach [] X.env)).any (·.1) = false := by rfl) :
    PMk X (.Call (.Name cn p) [a] [] pos) (tMkE C ta) := by
  intro pins s σ H Q I h
  refine wpAny_Call_Name_kw (ld_glob I hg T.gC ?_ hdb)
  refine callWith_K (h₀ := X.base) I.ok.mod.kin T.kC (thn (ha.run pos pins s σ H _ I h) fun us s1 hh => ?_) he hpl
  obtain ⟨vs, H1, I1, r1, v, ev, q1⟩ := hh
  subst ev
  refine ⟨I1.kIn, ?_⟩
  cases r1 with
  | cons rv rn =>
    rename_i v' us'
    cases rn
    show wpAny _ _ (call (.ref C) [v']) _ _ _
    have hlim := I1.nolimit
    obtain ⟨hp, g, dr, tk, os⟩ := s1
    refine wpAny_call (err_made T I1.kIn hlim (by have := hr.dp; omega) fun h' tk' e d M => ?_)
    show MkP X pins σ Q (.ref e) ⟨h', g, dr, tk', os⟩
    obtain ⟨oe, fv, hoe, hc, hd, hdat, h1⟩ := M.obj
    have hns := M.ns
    obtain ⟨G', g1, g2⟩ := restrict h' fun b => decide (b ≠ e)
    have gk : ∀ b, b ≠ e → G'.get? b = h'.get? b := fun b hb => g1 b (decide_eq_true hb)
    have ge : G'.get? e = none := g2 e (by simp)
    have old : ∀ b o, hp.get? b = some o → G'.get? b = some o := fun b o q => (gk b (Nat.ne_of_lt (Nat.lt_of_lt_of_le (Heap.lt_size q) M.new))).trans (M.keep b o q)
    have ob : ObjOk X.prog X.w (upd H1 d (.xd (vF v))) G' d (.xd (vF v)) :=
      ⟨_, hns.at (fun o q => (gk d M.dne).trans q), fun f => relO_v rv f⟩
    have J : Inv X pins σ (upd H1 d (.xd (vF v))) ⟨G', g, dr, tk', os⟩ := I1.laid (t' := tk') old M.dbig ob
    refine ⟨e, oe, fv, ⟨G', g, dr, tk', os⟩, _, .ref C, some d, rfl, J, fun b o q => ?_, ge, hoe, ⟨hc, hd⟩, hdat, h1, ?_, rfl, I1.bare, raises_own T.exC T.tyC, q1 d (I1.hok.fresh M.dbig)⟩
    · by_cases hb : b = e
      · have q' : G'.get? b = some o := q
        rw [hb, ge] at q'; cases q'
      · exact (gk b hb).symm.trans q
    · rw [upd_ne (Ne.symm M.dne)]
      exact I1.hok.fresh M.new
theorem ps_raiseE {a : Expr} {ta : TA} {W : WX} {p pos pos2 : Pos} {k : Nat} (hc : X.calm = true) (T : ErrTxt X.K X.mg cn qn C fI) (hr : Room k X.A) (tk : Takes X W) (ha : PA X [a] ta) (hg : Gl X cn := by rfl) (hdb : (cn == ("__debug__" : Str)) = false := by decide)
    (he : starEach (a :: []) X.env = (false, eval a X.env) :: starEach [] X.env := by rfl) (hpl : (backTo pos (starEach [] X.env)).any (·.1) = false := by rfl) :
    PS X (.Raise (some (.Call (.Name cn p) [a] [] pos)) none pos2) (fun _ σ H => tMkE C ta σ H fun cls d H' => W cls d σ H') := ps_raise hc tk (pmk_err T hr ha hg hdb he hpl)
end
end Dv

set_option linter.all false
set_option maxRecDepth 100000
namespace Dv
open PySem PySem.Spec PyProof.Rows L2 RZ PySem.W PySem.Calls PySem.HandSPX
abbrev aeTail : List Value := [.type "ArithmeticError", .type "Exception", .type "BaseException", .type "object"]
/-- ArithmeticError's mro refuses no field -/
theorem pass_ae (self : Value) : refuseLoop self "__setattr__" aeTail = pure () := by
  first
    | rfl
    | exact (show _ = _ from by with_unfolding_all rfl)
    | (have := F.store_Exception.passes self; simpa [refuseLoop] using this)
/-- own classes, then ArithmeticError's mro -/
def refsAE : List Value → Bool
  | .ref _ :: r => refsAE r
  | l => l == aeTail
theorem refsAE_or (a : Value) (r : List Value) (e : refsAE (a :: r) = true) : (∃ c, a = .ref c ∧ refsAE r = true) ∨ a :: r = aeTail := by
  cases a with
  | ref c => exact .inl ⟨c, rfl, e⟩
  | _ => exact .inr (beq_iff_eq.mp e)
theorem refsAE_all : ∀ l : List Value, refsAE l = true → (∀ z, refuseLoop z "__setattr__" l = pure ()) ∧ (∀ T : String, l.contains (.type T) = aeTail.contains (.type T)) ∧ l.isEmpty = false
  | [], e => absurd e (by decide)
  | a :: r, e => by
    rcases refsAE_or a r e with ⟨c, q, h⟩ | q
    · subst q
      obtain ⟨h1, h2, _⟩ := refsAE_all r h
      refine ⟨fun z => ?_, fun T => ?_, rfl⟩
      · rw [refuseLoop_ref]; exact h1 z
      · rw [List.contains_cons, h2]; rfl
    · rw [q]
      exact ⟨pass_ae, fun _ => rfl, rfl⟩
end Dv

set_option linter.all false
set_option maxRecDepth 100000
set_option maxHeartbeats 4000000
/-! a field of an error whatever its base: the walk to the dict of its own -/
namespace Dv
open PySem PySem.Spec PyProof.Rows L2 RZ PySem.W PySem.Calls PySem.HandSPX Builtin Builtin.ObjectAttr
section
variable {prog : Program} {w : World} {A : Around} {R : Result → Shared → Prop} {hp : Heap} {g : Array GenState} {d : Drawn} {t : Nat} {os : OsState}
theorem fld_walk {K : W.Frag} {name : Str} {tk : Tok} {v : Value} {x C : Addr} {ox : Obj} {od : Option Obj} {cd : ClassData}
    (X : K.In hp) (I : W.InstAt hp x ox C od) (hcd : W.clsIn K C = some cd) (pass : ∀ z, refuseLoop z "__setattr__" cd.mro = pure ()) (ob : cd.mro.contains (.type "object") = true) (ne : cd.mro.isEmpty = false) (ha : W.findIn K (.ref C) name = some none)
    (go : wpAny (model prog w) A.in1 (storeInOwnDict (.ref x) (.ref C) (.str name tk) name v false)
      (fun fl z => match fl with | .done u => R (.ok u) z | .again e => e.quiet = true ∧ codeAny (model prog w) A e R z) (fun e z => R (.error e) z) ⟨hp, g, d, t, os⟩) :
    codeAny (model prog w) A (.call (.builtin "object.__setattr__") ⟨[.ref x, .str name tk, v], []⟩) R ⟨hp, g, d, t, os⟩ := by
  have S0 := F.store_object
  have below : W.Looks (model prog w) hp (isInstance (.ref x) (.type "object")) true := I.type.andThen (W.looks_mroIn X (by
    unfold W.mroIn
    rw [hcd, Option.bind_some, if_neg (by rw [ne]; decide), ob]))
  refine codeAny_call_builtin S0.slot.plain S0.entry (@W.check_slot (model prog w) _ _ ⟨hp, g, d, t, os⟩ "object.__setattr__" "object" "__setattr__" (.ref x) [.str name tk, v] [] _ S0.kind S0.split below (S0.args (.ref x) (.str name tk) v) ?_)
  have its : W.Looks (model prog w) hp (mroOf (.ref C)) cd.mro := (W.looks_clsIn X hcd).andThen .now
  have none3 : W.Looks (model prog w) hp (storeTaker? none) none := .now
  rw [W.osa_eq, refuse_eq]
  refine wpAny_bind (wpAny_bind (I.type.at (wpAny_bind (its.at ?_))))
  rw [pass]
  exact wpAny_pure (wpAny_bind (I.type.at (wpAny_bind ((W.looks_findIn X ha).at (wpAny_bind (none3.at go))))))
/-- the first field: a dict of its own is made -/
theorem fld_new {K : W.Frag} {name : Str} {tk : Tok} {v : Value} {x C : Addr} {fv : Array Value} {cd : ClassData}
    (X : K.In hp) (hx : hp.get? x = some { cls := .ref C, data := .fields fv }) (hcd : W.clsIn K C = some cd) (pass : ∀ z, refuseLoop z "__setattr__" cd.mro = pure ()) (ob : cd.mro.contains (.type "object") = true) (ne : cd.mro.isEmpty = false) (hh : cd.hasDict = true) (ha : W.findIn K (.ref C) name = some none)
    (go : ∀ h2 tk2 dx, (∀ b o, b ≠ x → hp.get? b = some o → h2.get? b = some o) → hp.objs.size ≤ dx → dx ≠ x → h2.get? x = some { cls := .ref C, dict := some dx, data := .fields fv } → h2.Ns1 dx (fun y => if y = name then some v else none) → R (.ok (.ret .none)) ⟨h2, g, d, tk2, os⟩) :
    codeAny (model prog w) A (.call (.builtin "object.__setattr__") ⟨[.ref x, .str name tk, v], []⟩) R ⟨hp, g, d, t, os⟩ := by
  have far : x ≠ hp.objs.size := Nat.ne_of_lt (Heap.lt_size hx)
  refine fld_walk (ox := { cls := .ref C, data := .fields fv }) (od := none) X ⟨hx, rfl, rfl, trivial⟩ hcd pass ob ne ha ?_
  have kind : W.Looks (model prog w) hp (classData C) cd := W.looks_clsIn X hcd
  obtain ⟨a1, a2, a3, a4, a5, a6, a7, a8, a9, a10, a11⟩ := cd
  dsimp only at hh
  subst hh
  unfold storeInOwnDict ownDictForStores
  repeat (first | (with_reducible refine HandSPX.store_in_new ?_ ?_) | (with_reducible refine wpAny_loadPart_at hx ?_) | (with_reducible refine kind.at ?_) | wp_step)
  · exact ⟨_, #[], _, (Heap.get?_update_ne _ _ _ _ far.symm).trans (Heap.get?_push_at rfl rfl), rfl, (fun e he => absurd he (by simp)), fun _ => rfl⟩
  · intro h2 tk2 n2 s2
    have x1 : (hp.push { cls := .type "dict", data := .dict #[] }).get? x = some { cls := .ref C, data := .fields fv } := Heap.get?_push_of_some _ hx
    exact go h2 tk2 hp.objs.size (fun b o hb ho => (s2.2 b (Nat.ne_of_lt (Heap.lt_size ho))).trans ((Heap.get?_update_ne _ _ _ _ hb).trans (Heap.get?_push_of_some _ ho))) (Nat.le_refl _) far.symm ((s2.2 x far).trans (Heap.get?_update_self _ x1 rfl)) n2
/-- a further field -/
theorem fld_old {K : W.Frag} {name : Str} {tk : Tok} {v : Value} {x C dx : Addr} {fv : Array Value} {cd : ClassData} {m0 : Str → Option Value} {nl : List Str}
    (X : K.In hp) (hx : hp.get? x = some { cls := .ref C, dict := some dx, data := .fields fv }) (hns : hp.Ns1 dx m0) (hw : Within m0 nl) (hz : nl.length ≤ 1000) (hcd : W.clsIn K C = some cd) (pass : ∀ z, refuseLoop z "__setattr__" cd.mro = pure ()) (ob : cd.mro.contains (.type "object") = true) (ne : cd.mro.isEmpty = false) (hh : cd.hasDict = true) (ha : W.findIn K (.ref C) name = some none)
    (go : ∀ h2 tk2, (∀ b o, b ≠ dx → hp.get? b = some o → h2.get? b = some o) → h2.Ns1 dx (fun y => if y = name then some v else m0 y) → R (.ok (.ret .none)) ⟨h2, g, d, tk2, os⟩) :
    codeAny (model prog w) A (.call (.builtin "object.__setattr__") ⟨[.ref x, .str name tk, v], []⟩) R ⟨hp, g, d, t, os⟩ := by
  obtain ⟨oD, _, _, atD, _, _⟩ := hns.count hw
  refine fld_walk (ox := { cls := .ref C, dict := some dx, data := .fields fv }) (od := some oD) X ⟨hx, rfl, rfl, atD⟩ hcd pass ob ne ha ?_
  have kind : W.Looks (model prog w) hp (classData C) cd := W.looks_clsIn X hcd
  obtain ⟨a1, a2, a3, a4, a5, a6, a7, a8, a9, a10, a11⟩ := cd
  dsimp only at hh
  subst hh
  unfold storeInOwnDict ownDictForStores
  repeat (first | (with_reducible refine OEX.store_in_old hns hw hz ?_) | (with_reducible refine wpAny_loadPart_at hx ?_) | (with_reducible refine kind.at ?_) | wp_step)
  exact fun h2 tk2 n2 s2 => go h2 tk2 (fun b o hb ho => (s2.2 b hb).trans ho) n2
end
end Dv

set_option linter.all false
set_option maxRecDepth 100000
set_option maxHeartbeats 4000000
/-! own errors of two fields: class C(..): def __init__(self, what, limit): self.what = what; self.limit = limit -/
namespace Dv
open PySem PySem.Spec PyProof.Rows L2 RZ PySem.W PySem.Calls PySem.HandSPX
variable [Tbl]
def iA2 (p1 p2 p3 : Pos) : Arguments := ⟨[], [⟨"self", none, p1⟩, ⟨"what", none, p2⟩, ⟨"limit", none, p3⟩], none, [], [], none, []⟩
def iB2 (q1 q2 q3 q4 r1 r2 r3 r4 : Pos) : List Stmt := [.Assign [.Attribute (.Name "self" q1) "what" q2] (.Name "what" q3) q4, .Assign [.Attribute (.Name "self" r1) "limit" r2] (.Name "limit" r3) r4]
def iS2 : Scope := { kind := .function, names := [("self", .local), ("what", .local), ("limit", .local)], isGenerator := false, isCoroutine := false, more := [] }
structure ErrTxt2 (K : Frag) (mg : Str → Option Value) (cn qn : Str) (C fI : Addr) : Prop where
  gC : mg cn = some (.ref C)
  cls : ∃ nm q N bs bm sn sub ab col dd k0 k1 k2 k3 k5, K.lookup C = some (excClassObj nm q C N bs bm true sn sub ab col dd k0 k1 k2 k3 k5 "ArithmeticError.__new__") ∧ refsAE bm = true
  sa : findIn K (.ref C) "__setattr__" = some (some (.builtin "object.__setattr__"))
  ga : findIn K (.ref C) "__getattribute__" = some (some (.builtin "BaseException.__getattribute__"))
  gg : findIn K (.ref C) "__getattr__" = some none
  kC : keepIn K (.ref C) = true
  exC : subIn K (.ref C) (.type "BaseException") = some true
  tyC : typeIn K (.ref C) = some (.type "type")
  hdC : hasDictIn K C = true
  te : exmOne K (.ref C) (.ref C) = some true
  iC : findIn K (.ref C) "__init__" = some (some (.ref fI))
  tC : typeIn K (.ref fI) = some (.type "function")
  noW : findIn K (.ref C) "what" = some none
  noL : findIn K (.ref C) "limit" = some none
  fn : ∃ (oc : Value) (od : Option Addr) (doc pm : Value) (an : Option Addr) (cdv ct : Value) (osl : Array (Option Value)) (p1 p2 p3 q1 q2 q3 q4 r1 r2 r3 r4 : Pos),
    K.lookup fI = some ⟨oc, od, .func (fnOf "__init__" qn (iA2 p1 p2 p3) (iB2 q1 q2 q3 q4 r1 r2 r3 r4) iS2 .none .none doc pm an cdv ct), osl⟩ ∧ codeIn K cdv qn = true
structure InitD2 (h h' : Heap) (x C dx t1 : Addr) (v u : Value) : Prop where
  keep : ∀ b o, b ≠ x → h.get? b = some o → h'.get? b = some o
  obj : h'.get? x = some { cls := .ref C, dict := some dx, data := .fields #[.ref t1, .none, .none, .none, .bool false, .none] }
  dbig : h.objs.size ≤ dx
  dne : dx ≠ x
  ns : h'.Ns1 dx (fun y => if y = "limit" then some u else if y = "what" then some v else none)
section
variable {prog : Program} {w : World} {A : Around} {E : Value → Shared → Prop} {R : Result → Shared → Prop} {s : Shared} {K : Frag} {mg : Str → Option Value} {cn qn : Str} {C fI : Addr}
theorem err_init2 (T : ErrTxt2 K mg cn qn C fI) {x t0 : Addr} {v u : Value} (X : K.In s.heap) (hlim : s.heap.NoLimit) (hx : s.heap.get? x = some (excO C t0)) (hnx : K.lookup x = none) (hroom : A.depth < recursionLimit)
    (hq : ∀ h' tk dx, InitD2 s.heap h' x C dx t0 v u → R (.ok (.ret .none)) { s with heap := h', toks := tk }) :
    codeAny (model prog w) A (.call (.ref fI) ⟨[.ref x, v, u], []⟩) R s := by
  obtain ⟨oc, od, doc, pm, an, cdv, ct, osl, p1, p2, p3, q1, q2, q3, q4, r1, r2, r3, r4, ho, hcd⟩ := T.fn
  obtain ⟨nm, q, N, bs, bm, sn, sub, ab, col, dd, k0, k1, k2, k3, k5, hC, hbm⟩ := T.cls
  have hcl : clsIn K C = some { name := nm, bases := bs, mro := .ref C :: bm, ns := N, qualname := q, hasDict := true, slotNames := sn, subclasses := sub, abstract := ab, collection := col, hasDel := false } := by unfold clsIn; rw [hC] <;> rfl
  have al := refsAE_all (.ref C :: bm) (show refsAE (.ref C :: bm) = true from hbm)
  refine Att.call_fn (binds := [("self", .ref x), ("what", v), ("limit", u)]) X hlim ho hcd hroom (BindsTo.of_eq (by first | rfl | with_unfolding_all rfl)) (by first | rfl | decide | with_unfolding_all rfl) (fun s₁ IC => ?_) rfl rfl rfl
  obtain ⟨h₁, tk₁, rfl⟩ := IC.toInCall.same
  have k : ∀ b o, s.heap.get? b = some o → h₁.get? b = some o := IC.toInCall.keep
  have hn := IC.toInCall.ns
  have hxL : s.heap.objs.size ≠ x := Nat.ne_of_gt (Heap.lt_size hx)
  have X₁ : K.In h₁ := X.keeps k
  have hx₁ := k _ _ hx
  show wpAny _ _ (execs _ _) _ _ _
  refine wpAny_execs_cons (plainObj_wpAny_Assign_Attribute ?_)
  refine ldL (v := v) hn (by first | rfl | with_unfolding_all rfl | kernel_rfl) (ldL (v := .ref x) hn (by first | rfl | with_unfolding_all rfl | kernel_rfl) ?_)
  refine set_plain X₁ (ox := excO C t0) (od := none) ⟨hx₁, rfl, rfl, trivial⟩ T.sa ?_
  refine fld_new X₁ hx₁ hcl al.1 ((al.2.1 "object").trans (by decide +kernel)) al.2.2 rfl T.noW (fun h₃ tk₃ dx k₃ dn dne hx₃ hn₃ => ?_)
  show wpAny _ _ (execs _ _) _ _ _
  have z : s.heap.objs.size < h₁.objs.size := hn.lt
  have X₃ : K.In h₃ := fun b o e => k₃ b o (fun w => by rw [w, hnx] at e; cases e) (X₁ b o e)
  have hn2 := hn
  obtain ⟨on, en, pn, g1, g2, g3⟩ := hn2
  have hnn := (⟨on, en, pn, k₃ _ _ hxL g1, g2, g3⟩ : Heap.Ns h₃ s.heap.objs.size _)
  obtain ⟨oD, eD, pD, d1, d2, d3⟩ := id hn₃
  refine wpAny_execs_cons (plainObj_wpAny_Assign_Attribute ?_)
  refine ldL (v := u) hnn (by first | rfl | with_unfolding_all rfl | kernel_rfl) (ldL (v := .ref x) hnn (by first | rfl | with_unfolding_all rfl | kernel_rfl) ?_)
  refine set_plain X₃ (ox := { cls := .ref C, dict := some dx, data := .fields #[.ref t0, .none, .none, .none, .bool false, .none] }) (od := some oD) ⟨hx₃, rfl, rfl, d1⟩ T.sa ?_
  refine fld_old (nl := ["what"]) X₃ hx₃ hn₃ ?_ (by decide) hcl al.1 ((al.2.1 "object").trans (by decide +kernel)) al.2.2 rfl T.noL (fun h₄ tk₄ k₄ hn₄ => ?_)
  · exact PySem.Within.cons "what" v PySem.Within.nil
  show wpAny _ _ (execs _ _) _ _ _
  exact wpAny_execs_nil (hq h₄ tk₄ dx ⟨fun b o hb e => k₄ b o (fun w => by
    have l1 := Heap.lt_size e
    rw [w] at l1
    exact Nat.lt_irrefl _ (Nat.lt_trans l1 (Nat.lt_of_lt_of_le z dn))) (k₃ b o hb (k b o e)), k₄ _ _ (fun w => dne w.symm) hx₃, Nat.le_of_lt (Nat.lt_of_lt_of_le z dn), dne, hn₄⟩)
/-- a made error of two fields -/
structure MadeE2 (h h' : Heap) (e C d : Addr) (v u : Value) : Prop where
  keep : ∀ b o, h.get? b = some o → h'.get? b = some o
  new : h.objs.size ≤ e
  obj : ∃ oe vs, h'.get? e = some oe ∧ oe.cls = .ref C ∧ oe.dict = some d ∧ oe.data = .fields vs ∧ vs[1]? = some .none
  dbig : h.objs.size ≤ d
  dne : d ≠ e
  ns : h'.Ns1 d (fun y => if y = "limit" then some u else if y = "what" then some v else none)
theorem err_made2 (T : ErrTxt2 K mg cn qn C fI) {v u : Value} (X : K.In s.heap) (hlim : s.heap.NoLimit) (hroom : A.depth + 1 < recursionLimit)
    (hq : ∀ h' tk e d, MadeE2 s.heap h' e C d v u → R (.ok (.ret (.ref e))) { s with heap := h', toks := tk }) :
    codeAny (model prog w) A (.call (.ref C) ⟨[v, u], []⟩) R s := by
  obtain ⟨nm, q, N, bs, bm, sn, sub, ab, col, dd, k0, k1, k2, k3, k5, hC, hbm⟩ := T.cls
  obtain ⟨hp, g, dr, tk, os⟩ := s
  have k : ∀ b o, hp.get? b = some o → ((hp.push (kdv_tup [v, u])).push (excO C hp.objs.size)).get? b = some o := fun b o e => Heap.get?_push_of_some _ (Heap.get?_push_of_some _ e)
  have hget : ((hp.push (kdv_tup [v, u])).push (excO C hp.objs.size)).get? (hp.objs.size + 1) = some (excO C hp.objs.size) := by heap_get
  have hnx : K.lookup (hp.objs.size + 1) = none := by
    cases e : K.lookup (hp.objs.size + 1) with
    | none => rfl
    | some o =>
      have z : hp.get? (hp.objs.size + 1) = some o := X _ _ e
      exact absurd (Nat.lt_of_succ_lt (Heap.lt_size z)) (Nat.lt_irrefl _)
  refine call_own F.excBase_ArithmeticError (refsAE_all bm hbm).2.1 (X _ _ hC) (looks_findIn X T.iC) (fun self => bind_fn X self T.tC) (by rw [sizeLine_eq]; exact (by decide : 2 ≤ 16777216)) ?_
  refine err_init2 (s := ⟨(hp.push (kdv_tup [v, u])).push (excO C hp.objs.size), g, dr, tk, os⟩) T (X.keeps k) (hlim.keeps k) hget hnx ?_ fun h' tk' dx ⟨k', hx, dn, dne, hns⟩ => ?_
  · show A.depth + 1 < recursionLimit
    exact hroom
  · have old : ∀ b o, hp.get? b = some o → h'.get? b = some o := fun b o e => k' b o (Nat.ne_of_lt (Nat.lt_succ_of_lt (Heap.lt_size e))) (k b o e)
    have z : hp.objs.size + 1 + 1 ≤ dx := by
      first
        | (simpa only [Heap.size_push] using dn)
        | exact dn
        | (have q := dn; rw [Heap.size_push, Heap.size_push] at q; exact q)
    exact ⟨rfl, hq h' tk' (hp.objs.size + 1) dx ⟨old, Nat.le_succ _, ⟨_, _, hx, rfl, rfl, rfl, rfl⟩, Nat.le_trans (Nat.le_trans (Nat.le_succ _) (Nat.le_succ _)) z, dne, hns⟩⟩
end
end Dv

set_option linter.all false
set_option maxRecDepth 100000
set_option maxHeartbeats 4000000
/-! own errors of two fields, raised; what an error holds, by data: one value, or two told as a dict -/
namespace Dv
open PySem PySem.Spec PyProof.Rows L2 RZ PySem.W PySem.Calls PySem.HandSPX
variable [Tbl]
def vF2 (v u : V) : List (Str × V) := [(("limit" : Str), u), (("what" : Str), v)]
theorem relO_v2 {v u : V} {v' u' : Value} (r : RelV v v') (r2 : RelV u u') (f : Str) : RelO (List.lookup f (vF2 v u)) (if f = "limit" then some u' else if f = "what" then some v' else none) := by
  by_cases hl : f = "limit"
  · subst hl
    rw [if_pos rfl, show List.lookup ("limit" : Str) (vF2 v u) = some u by simp [vF2, List.lookup]]
    exact r2
  · rw [if_neg hl]
    have ql : (f == ("limit" : Str)) = false := by simpa using hl
    by_cases hw : f = "what"
    · subst hw
      rw [if_pos rfl, show List.lookup ("what" : Str) (vF2 v u) = some v by simp [vF2, List.lookup, ql]]
      exact r
    · rw [if_neg hw]
      have qw : (f == ("what" : Str)) = false := by simpa using hw
      rw [show List.lookup f (vF2 v u) = none by simp [vF2, List.lookup, qw, ql]]
      trivial
/-- an error of two fields as a datum -/
def err2 (a b : Dt) : Dt := .dict [(.str "what", a), (.str "limit", b)]
def one : Dt → Bool
  | .dict [] => true
  | .dict _ => false
  | _ => true
/-- the fields of an error, by data -/
def FR (K : Fg) (G : Hp) (fs : List (Str × V)) (x : Dt) : Prop := (∃ v, fs = vF v ∧ Dz K G v x) ∨ (∃ v u a b, fs = vF2 v u ∧ x = err2 a b ∧ Dz K G v a ∧ Dz K G u b)
theorem FR.ex {K : Fg} {G G' : Hp} {fs : List (Str × V)} {x : Dt} (e : Ex G G') (h : FR K G fs x) : FR K G' fs x := by
  rcases h with ⟨v, e1, e2⟩ | ⟨v, u, a, b, e1, e2, e3, e4⟩
  · exact .inl ⟨v, e1, dp_ex e _ _ e2⟩
  · exact .inr ⟨v, u, a, b, e1, e2, dp_ex e _ _ e3, dp_ex e _ _ e4⟩
theorem FR.one {K : Fg} {G : Hp} {v : V} {x : Dt} (h : Dz K G v x) : FR K G (vF v) x := .inl ⟨v, rfl, h⟩
theorem FR.two {K : Fg} {G : Hp} {v u : V} {a b : Dt} (h : Dz K G v a) (h2 : Dz K G u b) : FR K G (vF2 v u) (err2 a b) := .inr ⟨v, u, a, b, rfl, rfl, h, h2⟩
theorem FR.one_of {K : Fg} {G : Hp} {fs : List (Str × V)} {x : Dt} (h : FR K G fs x) (ho : Dv.one x = true) : ∃ v, fs = vF v ∧ Dz K G v x := by
  rcases h with h | ⟨v, u, a, b, e1, e2, e3, e4⟩
  · exact h
  · rw [e2] at ho; cases ho
theorem FR.two_of {K : Fg} {G : Hp} {fs : List (Str × V)} {a b : Dt} (h : FR K G fs (err2 a b)) : ∃ v u, fs = vF2 v u ∧ Dz K G v a ∧ Dz K G u b := by
  rcases h with ⟨v, e1, e2⟩ | ⟨v, u, a', b', e1, e2, e3, e4⟩
  · cases e2
  · unfold err2 at e2
    injection e2 with e2
    injection e2 with e2 e5
    injection e5 with e5
    injection e2 with _ e2
    injection e5 with _ e5
    subst e2 e5
    exact ⟨v, u, e1, e3, e4⟩
section
variable {X : Cx} {C fI : Addr} {cn qn : Str}
/-- C(e, f) -/
def tMkE2 (C : Addr) (ta : TA) : L2.St → Hp → L2.XK → Prop := fun σ H Q => ta σ H fun vs H1 => ∃ v u, vs = [v, u] ∧ ∀ d, H1 d = none → Q (.ref C) (some d) (upd H1 d (.xd (vF2 v u)))
theorem pmk_err2 {a b : Expr} {ta : TA} {p pos : Pos} {k : Nat} (T : ErrTxt2 X.K X.mg cn qn C fI) (hr : Room k X.A) (ha : PA X [a, b] ta) (hg : Gl X cn := by rfl) (hdb : (cn == ("__debug__" : Str)) = false := by decide)
    (he : starEach (a :: [b]) X.env = (false, eval a X.env) :: starEach [b] X.env := by rfl) (hpl : (backTo pos (starEach [b] X.env)).any (·.1) = false := by rfl) :
    PMk X (.Call (.Name cn p) [a, b] [] pos) (tMkE2 C ta) := by
  intro pins s σ H Q I h
  refine wpAny_Call_Name_kw (ld_glob I hg T.gC ?_ hdb)
  refine callWith_K (h₀ := X.base) I.ok.mod.kin T.kC (thn (ha.run pos pins s σ H _ I h) fun us s1 hh => ?_) he hpl
  obtain ⟨vs, H1, I1, r1, v, w2, ev, q1⟩ := hh
  subst ev
  refine ⟨I1.kIn, ?_⟩
  cases r1 with
  | cons rv rn =>
    cases rn with
    | cons rw rn =>
    cases rn
    show wpAny _ _ (call (.ref C) [_, _]) _ _ _
    have hlim := I1.nolimit
    obtain ⟨hp, g, dr, tk, os⟩ := s1
    refine wpAny_call (err_made2 T I1.kIn hlim (by have := hr.dp; omega) fun h' tk' e d M => ?_)
    show MkP X pins σ Q (.ref e) ⟨h', g, dr, tk', os⟩
    obtain ⟨oe, fv, hoe, hc, hd, hdat, h1⟩ := M.obj
    have hns := M.ns
    obtain ⟨G', g1, g2⟩ := restrict h' fun b => decide (b ≠ e)
    have gk : ∀ b, b ≠ e → G'.get? b = h'.get? b := fun b hb => g1 b (decide_eq_true hb)
    have ge : G'.get? e = none := g2 e (by simp)
    have old : ∀ b o, hp.get? b = some o → G'.get? b = some o := fun b o q => (gk b (Nat.ne_of_lt (Nat.lt_of_lt_of_le (Heap.lt_size q) M.new))).trans (M.keep b o q)
    have ob : ObjOk X.prog X.w (upd H1 d (.xd (vF2 v w2))) G' d (.xd (vF2 v w2)) :=
      ⟨_, hns.at (fun o q => (gk d M.dne).trans q), fun f => relO_v2 rv rw f⟩
    have J : Inv X pins σ (upd H1 d (.xd (vF2 v w2))) ⟨G', g, dr, tk', os⟩ := I1.laid (t' := tk') old M.dbig ob
    refine ⟨e, oe, fv, ⟨G', g, dr, tk', os⟩, _, .ref C, some d, rfl, J, fun b o q => ?_, ge, hoe, ⟨hc, hd⟩, hdat, h1, ?_, rfl, I1.bare, raises_own T.exC T.tyC, q1 d (I1.hok.fresh M.dbig)⟩
    · by_cases hb : b = e
      · have q' : G'.get? b = some o := q
        rw [hb, ge] at q'; cases q'
      · exact (gk b hb).symm.trans q
    · rw [upd_ne (Ne.symm M.dne)]
      exact I1.hok.fresh M.new
theorem ps_raiseE2 {a b : Expr} {ta : TA} {W : WX} {p pos pos2 : Pos} {k : Nat} (hc : X.calm = true) (T : ErrTxt2 X.K X.mg cn qn C fI) (hr : Room k X.A) (tk : Takes X W) (ha : PA X [a, b] ta) (hg : Gl X cn := by rfl) (hdb : (cn == ("__debug__" : Str)) = false := by decide)
    (he : starEach (a :: [b]) X.env = (false, eval a X.env) :: starEach [b] X.env := by rfl) (hpl : (backTo pos (starEach [b] X.env)).any (·.1) = false := by rfl) :
    PS X (.Raise (some (.Call (.Name cn p) [a, b] [] pos)) none pos2) (fun _ σ H => tMkE2 C ta σ H fun cls d H' => W cls d σ H') := ps_raise hc tk (pmk_err2 T hr ha hg hdb he hpl)
end
end Dv

set_option linter.all false
set_option maxRecDepth 100000
set_option maxHeartbeats 4000000
/-! defs that raise; try -/
namespace Dv
open PySem PySem.Spec PyProof.Rows L2 RZ
variable [Tbl]
structure FnX (P : Program) (w : World) (K : Fg) (mg : Str → Option Value) (base : Heap) (k : Nat) (f : Addr) (fd : FuncData) (ps : List Str) (sp : Sp) : Prop where
  len : ∀ vs H Q E, sp vs H Q E → vs.length = ps.length
  run : ∀ (A : Around) (outer : List Env) (s : Shared) (H : Hp) (args : Args) (us : List Value) (vs : List V) (Q : VK) (E : L2.XK),
    Room k A → A.guards = some [] → Env0 P w K mg base A outer s H → BindsTo s fd args (ps.zip us) → Vals vs us → sp vs H Q E →
      codeAny (model P w) A (.call (.ref f) args) (CR (L2.CX P w) outer P w H s Q E) s
structure CalX (P : Program) (w : World) (K : Fg) (mg : Str → Option Value) (base : Heap) (k : Nat) (x : Str) (ps : List Str) (st : Stmt) (sp : Sp) : Prop where
  ex : ∃ f fd, FnX P w K mg base k f fd ps sp ∧ mg x = some (.ref f) ∧ PySem.W.keepIn K (.ref f) = true ∧ Binds K fd ps [] ∧ Fun K x x st f fd
section
variable {P : Program} {w : World} {K : Fg} {mg : Str → Option Value} {base : Heap}
abbrev xcx (P : Program) (w : World) (K : Fg) (mg : Str → Option Value) (base : Heap) (N : List Str) (x : Str) (st : Stmt) (f : Addr) (cdv : Value) (A : Around) (outer : List Env) (s : Shared) (H : Hp) (E : L2.XK) : Cx :=
  cxOf (L2.CX P w) P w K mg base N x (defScope st) f cdv A outer s H E
theorem fnX_of {x : Str} {st : Stmt} {f : Addr} {fd : FuncData} {N ps : List Str} {k : Nat} {sp : Sp} (F : Fun K x x st f fd) (S : FnScope N ps (defScope st)) (len : ∀ vs H Q E, sp vs H Q E → vs.length = ps.length)
    (body : ∀ (cdv : Value) (A : Around) (outer : List Env) (s : Shared) (H : Hp) (vs : List V) (Q : VK) (E : L2.XK), Room k (A.deeper (envOfC x (defScope st) s.heap.objs.size f cdv)) → A.guards = some [] → sp vs H Q E →
      ∃ t, PSs (xcx P w K mg base N x st f cdv A outer s H E) (defBody st) t ∧ t { nx := fun _ H' => Q .non H', rt := Q } (start N vs) H) : FnX P w K mg base (k + 1) f fd ps sp := by
  obtain ⟨oc, od, kV, doc, pm, an, cdv, ct, osl, rfl, lk, hcd⟩ := F.ex
  refine ⟨len, fun A outer s H args us vs Q E hr hg e0 hb r hsp => ?_⟩
  have hl := len _ _ _ _ hsp
  have KX : K.In s.heap := e0.mod.kin.keeps fun b o e => (e0.bs b o e).1
  have lim : s.heap.NoLimit := e0.mod.nolimit.keeps fun b o e => (e0.bs b o e).1
  refine codeAny_call_function hr.depth (KX _ _ lk) rfl S.co S.gen rfl (PySem.W.codeRec_of KX hcd) (hb _ _ _ _ ?_)
  refine wpAny_newFunctionEnv_cells S.kind (fun ⟨n, v⟩ hy => ?_) fun env he s1 z => ?_
  · rcases S.par n (List.of_mem_zip hy).1 with q | q
    · exact .inl q
    · exact .inr ⟨q, PySem.W.cellsFrom_some _ _ _ (.inl q)⟩
  · subst he
    refine ⟨lim.keeps z.toInCall.keep, codeAny_func ?_⟩
    obtain ⟨t, ht, hq⟩ := body cdv A outer s H vs Q E (hr.deeper _) hg hsp
    have I : Inv (cxOf (L2.CX P w) P w K mg base N x (defScope st) f cdv A outer s H E) [] (start N vs) H s1 := inv_start S hr.hd e0 hl r z
    refine wpAny_mono (ht.run [] s1 (start N vs) H _ I hq) (fun fl s' hs => ?_) fun e s' hs => hs
    cases fl with
    | ret u => obtain ⟨v, σ', H', J, rv, q⟩ := hs; exact ⟨v, H', J.os, J.bare, J.base, J.hok, rv, q⟩
    | next => obtain ⟨σ', H', J, q⟩ := hs; exact ⟨V.non, H', J.os, J.bare, J.base, J.hok, rfl, q⟩
    | brk => obtain ⟨_, _, _, q⟩ := hs; exact False.elim q
    | cont => obtain ⟨_, _, _, q⟩ := hs; exact False.elim q
end
/-- the def raises: class cn, its value x -/
def spX (K : Fg) (mg : Str → Option Value) (R : List Dt → Str → Dt → Prop) : Sp := fun vs H _ E => ∃ G ds cn x, (Ex G H ∧ TZ G H) ∧ DzAll K G vs ds ∧ R ds cn x ∧
  ∀ C d fs G' H', mg cn = some (.ref C) → Step H G G' → Exd H H' → Ex G' H' → H d = none → H' d = some (.xd fs) → FR K G' fs x → E (.ref C) (some d) H'
def PostX (K : Fg) (mg : Str → Option Value) (p : Option Addr) (B G : Hp) (W : WX) (ox : Str → Dt → Prop) : Prop := ∀ (C : Addr) (cn : Str) (d : Addr) (fs : List (Str × V)) (x : Dt) (σ : L2.St) (G' H' : Hp), ox cn x → mg cn = some (.ref C) → Step B G G' → I3 p B G' H' → B d = none → H' d = some (.xd fs) → FR K G' fs x → W (.ref C) (some d) σ H'
theorem PostX.step {K : Fg} {mg : Str → Option Value} {p : Option Addr} {B G G' : Hp} {W : WX} {ox : Str → Dt → Prop} (h : PostX K mg p B G W ox) (s : Step B G G') : PostX K mg p B G' W ox := fun C cn d v x σ G2 H2 a b c => h C cn d v x σ G2 H2 a b (s.trans c)
def rRX (X : Cx) (δ : De) (W : WX) (ox : Str → Dt → Prop) : TS := fun _ σ H => ∃ p B G, I3 p B G H ∧ EnvD X.K p B G H σ δ ∧ PostX X.K X.mg p B G W ox
/-- the block raises -/
def RsX (X : Cx) (sts : List Stmt) (δ : De) (ox : Str → Dt → Prop) : Prop := ∀ W, Takes X W → PSs X sts (rRX X δ W ox)
section
variable {X : Cx} {δ δ' : De} {sts tss rest : List Stmt} {a c e : Expr} {es : List Expr} {p pos pos2 : Pos} {ox : Str → Dt → Prop} {cn qn x : Str} {C fI : Addr} {k : Nat} {ps : List Str} {st : Stmt}
theorem never {sts : List Stmt} : PSs X sts (fun _ _ _ => False) := ⟨fun pins s σ H D I h => h.elim⟩
theorem s_start {N : List Str} {es : List En} (h : StR N es δ) (k : RsX X sts δ ox) : RsX X sts (stD N es) ox := h.eq ▸ k
theorem x_eq {sts' : List Stmt} (h : sts = sts') (k : RsX X sts' δ ox) : RsX X sts δ ox := h ▸ k
theorem x_raise (T : ErrTxt X.K X.mg cn qn C fI) (h : XD X a δ (fun d => ox cn d)) (hr : Room k X.A := by first | assumption | (refine Room.mono (by assumption) ?_; decide)) (hc : X.calm = true := by rfl) (hg : Gl X cn := by rfl) (hdb : (cn == ("__debug__" : Str)) = false := by decide)
    (he : starEach (a :: []) X.env = (false, eval a X.env) :: starEach [] X.env := by rfl) (h2 : starEach [a] X.env = [a].map fun e => (false, eval e X.env) := by rfl) (hpl : (backTo pos (starEach [] X.env)).any (·.1) = false := by rfl) :
    RsX X (.Raise (some (.Call (.Name cn p) [a] [] pos)) none pos2 :: rest) δ ox := fun W tk =>
  PSs.imp (pss_cons (ps_raiseE hc T hr tk (a_c (T := fun ds => ∃ d, ds = [d] ∧ ox cn d) (h.mono fun d k => a_n ⟨d, rfl, k⟩) he h2).pa hg hdb he hpl) never) fun D σ H ⟨p, B, G, i3, en, q⟩ => ⟨p, B, G, i3, en, fun vs ds G1 H1 ⟨d, e, r⟩ n hv => by
    subst e
    obtain ⟨v, rfl, hw⟩ := one_of hv
    have i31 := i3.nxt n
    refine ⟨v, rfl, fun dd hd => q C cn dd (vF v) d σ G1 _ r T.gC (n.stepB i3) (i31.nxt (.newH i31 _ hd)) (i31.bh.free hd) upd_same (FR.one hw)⟩⟩
theorem x_raise2 {b : Expr} (T : ErrTxt2 X.K X.mg cn qn C fI) (h : XA X [a, b] δ (fun ds => ∃ d e, ds = [d, e] ∧ ox cn (err2 d e))) (hr : Room k X.A := by first | assumption | (refine Room.mono (by assumption) ?_; decide)) (hc : X.calm = true := by rfl) (hg : Gl X cn := by rfl) (hdb : (cn == ("__debug__" : Str)) = false := by decide)
    (he : starEach (a :: [b]) X.env = (false, eval a X.env) :: starEach [b] X.env := by rfl) (hpl : (backTo pos (starEach [b] X.env)).any (·.1) = false := by rfl) :
    RsX X (.Raise (some (.Call (.Name cn p) [a, b] [] pos)) none pos2 :: rest) δ ox := fun W tk =>
  PSs.imp (pss_cons (ps_raiseE2 hc T hr tk h.pa hg hdb he hpl) never) fun D σ H ⟨p, B, G, i3, en, q⟩ => ⟨p, B, G, i3, en, fun vs ds G1 H1 ⟨d, e2, e, r⟩ n hv => by
    subst e
    cases hv with
    | cons h1 hv =>
      cases hv with
      | cons h2 hv =>
        cases hv
        have i31 := i3.nxt n
        exact ⟨_, _, rfl, fun dd hd => q C cn dd _ (err2 d e2) σ G1 _ r T.gC (n.stepB i3) (i31.nxt (.newH i31 _ hd)) (i31.bh.free hd) upd_same (FR.two h1 h2)⟩⟩
theorem x_if (h : XT X c δ (fun k => k = true)) (hr : RsX X sts δ ox) : RsX X (.If c sts tss pos :: rest) δ ox := fun W tk =>
  PSs.imp (pss_cons (ps_if h (hr W tk) (never (sts := tss))) never) fun D σ H ⟨p, B, G, i3, en, q⟩ => ⟨p, B, G, i3, en, fun k G1 H1 r n => by
    subst r
    exact iteT ⟨p, B, G1, i3.nxt n, en.nxt n, q.step (n.stepB i3)⟩⟩
theorem x_skip (h : XT X c δ (fun k => k = false)) (hr : RsX X rest δ ox) : RsX X (.If c sts [] pos :: rest) δ ox := fun W tk =>
  PSs.imp (pss_cons (ps_if h (never (sts := sts)) pss_nil) (hr W tk)) fun D σ H ⟨p, B, G, i3, en, q⟩ => ⟨p, B, G, i3, en, fun k G1 H1 r n => by
    subst r
    exact iteF ⟨p, B, G1, i3.nxt n, en.nxt n, q.step (n.stepB i3)⟩⟩
/-- a statement that goes on -/
theorem x_seq {st : Stmt} {N : De → Prop} (h : SD X st δ { nx := N }) (hk : ∀ δ', N δ' → RsX X rest δ' ox) : RsX X (st :: rest) δ ox := fun W tk => by
  have z : PSs X rest (fun D σ H => ∃ δ', N δ' ∧ rRX X δ' W ox D σ H) := ⟨fun pins s σ H D I ⟨δ', n, q⟩ => (hk δ' n W tk).run pins s σ H D I q⟩
  exact PSs.imp (pss_cons h z) fun D σ H ⟨p, B, G, i3, en, q⟩ => ⟨p, B, G, i3, en, fun δ1 σ1 G1 H1 a s i en1 => ⟨δ1, a, p, B, G1, i, en1, q.step s⟩, fun _ _ _ _ z => z.elim, fun _ _ _ _ z => z.elim, fun _ _ _ _ z => z.elim, fun _ _ _ _ _ z => z.elim⟩
theorem x_do (h : XD X e δ fun _ => True) (hr : RsX X rest δ ox) (hs : swapsWith e none pos.line X.env = pure false := by rfl) : RsX X (.Expr e pos :: rest) δ ox := x_seq (N := fun δ' => δ' = δ) (sd_expr (o := {}) (N := fun δ' => δ' = δ) h (fun d _ => rfl) hs) fun δ' e => e ▸ hr
theorem x_let {pos' : Pos} {y : Str} {i : Nat} {F : Dt → De} (hi : Nx X.N y i) (hF : ∀ d, SetR δ i (.d d) (F d)) (h : XD X e δ fun d => RsX X rest (F d) ox) (hN : X.N.Nodup := by assumption) (hx : Loc X.env.scope y := by first | exact Or.inl rfl | exact Or.inr rfl)
    (hs : swapsWith e (some (.Name y pos')) pos.line X.env = pure false := by rfl) (hf : X.fn y = true ∨ X.env.scope.names.lookup y = some .local := by first | exact .inl rfl | exact .inr rfl | assumption) : RsX X (.Assign [.Name y pos'] e pos :: rest) δ ox :=
  x_seq (N := fun δ' => RsX X rest δ' ox) (sd_set (o := {}) (N := fun δ' => RsX X rest δ' ox) i hN h (fun d k => by rw [(hF d).eq]; exact k) hi.eq hx hs hf) fun δ' h => h
/-- a call that raises -/
theorem run_x {f : Addr} {fd : FuncData} {sp : Sp} {W : WX} {pins : List (Addr × Obj)} {σ : L2.St} {H : Hp} {s : Shared} {Q : VK} {us : List Value} {vs : List V} (F : FnX X.prog X.w X.K X.mg X.base k f fd ps sp) (hr : Room k X.A) (hgd : X.A.guards = some []) (hb : Binds X.K fd ps []) (tk : Takes X W)
    (I : Inv X pins σ H s) (r : Vals vs us) (h : sp vs H Q (WE W σ)) : wpAny (model X.prog X.w) X.A (call (.ref f) us) (EP X pins σ Q) X.xe s := by
  have hl : (us ++ []).length = ps.length := by rw [List.append_nil, ← r.length]; exact F.len _ _ _ _ h
  have hb' := hb s us I.kIn hl
  rw [List.append_nil] at hb'
  refine wpAny_call (codeAny_mono (F.run X.A X.stack s H ⟨us, []⟩ us vs Q (WE W σ) hr hgd I.env0 hb' r h) fun r s' hq => ?_)
  cases r with
  | error e => exact passAt tk σ pins H s e s' I hq
  | ok fl =>
    cases fl with
    | ret u => exact I.after hq
    | next => exact False.elim hq
    | brk => exact False.elim hq
    | cont => exact False.elim hq
def PostE (K : Fg) (mg : Str → Option Value) (p : Option Addr) (G H : Hp) (W : WX) (ox : Str → Dt → Prop) (σ : L2.St) : Prop := ∀ (C : Addr) (cn : Str) (d : Addr) (fs : List (Str × V)) (x : Dt) (G' H' : Hp), ox cn x → mg cn = some (.ref C) → Nxt p G H G' H' → H d = none → H' d = some (.xd fs) → FR K G' fs x → W (.ref C) (some d) σ H'
theorem PostX.at' {K : Fg} {mg : Str → Option Value} {p : Option Addr} {B G H : Hp} {W : WX} {ox : Str → Dt → Prop} {σ : L2.St} (i3 : I3 p B G H) (h : PostX K mg p B G W ox) : PostE K mg p G H W ox σ := fun C cn d v x G' H' r gC n hd hd2 hv => h C cn d v x σ G' H' r gC (n.stepB i3) (i3.nxt n) (i3.bh.free hd) hd2 hv
def rEX (X : Cx) (δ : De) (W : WX) (ox : Str → Dt → Prop) : TE := fun σ H _ => ∃ p B G, I3 p B G H ∧ EnvD X.K p B G H σ δ ∧ PostE X.K X.mg p G H W ox σ
/-- an expression that raises -/
def XR (X : Cx) (e : Expr) (δ : De) (ox : Str → Dt → Prop) : Prop := ∀ W, Takes X W → PE X e (rEX X δ W ox)
theorem r_call {R : List Dt → Str → Dt → Prop} (Cl : CalX X.prog X.w X.K X.mg X.base k x ps st (spX X.K X.mg R)) (ha : XA X (e :: es) δ fun ds => ∃ cn y, R ds cn y ∧ ox cn y) (hr : Room k X.A := by first | assumption | (refine Room.mono (by assumption) ?_; decide)) (hgd : X.A.guards = some [] := by assumption) (hg : Gl X x := by rfl)
    (hpl : starEach es X.env = es.map fun e => (false, eval e X.env) := by rfl) (hdb : (x == ("__debug__" : Str)) = false := by decide) : XR X (.Call (.Name x p) (e :: es) [] pos) δ ox := fun W tk => by
  obtain ⟨f, fd, F, hm, hk, hb, _⟩ := Cl.ex
  refine ⟨fun pins s σ H Q I ⟨p, B, G, i3, en, q⟩ => ?_⟩
  refine wpAny_Call_Name_kw (ld_glob I hg hm ?_ hdb)
  refine PySem.W.callWith_K (h₀ := X.base) I.ok.mod.kin hk (thn (ha.pa.run pos pins s σ H (fun vs H1 => ∃ ds G1, (∃ cn y, R ds cn y ∧ ox cn y) ∧ Nxt p G H G1 H1 ∧ DzAll X.K G1 vs ds) I ⟨p, B, G, i3, en, fun vs ds G1 H1 r n hv => ⟨ds, G1, r, n, hv⟩⟩) fun us s1 ⟨vs, H1, I1, r, ds, G1, ⟨cn, y, h1, h2⟩, n, hv⟩ => ⟨I1.kIn, ?_⟩) (by rw [hpl]; exact ha.pl) (back_plain hpl)
  have i31 := i3.nxt n
  refine run_x F hr hgd hb tk I1 r ⟨G1, ds, cn, y, ⟨i31.gh, i31.tz⟩, hv, h1, fun C d v G' H' gC st e1 e2 hd hd2 hv2 => ?_⟩
  have n2 : Nxt p G1 H1 G' H' := .ofExd i31 st e1 e2
  exact q C cn d v y G' H' h2 gC (n.trans n2) (back_none n hd) hd2 hv2
theorem x_ret (h : XR X e δ ox) : RsX X (.Return (some e) pos :: rest) δ ox := fun W tk => PSs.imp (pss_cons (ps_ret (h W tk)) never) fun D σ H ⟨p, B, G, i3, en, q⟩ => ⟨p, B, G, i3, en, q.at' i3⟩
theorem x_exp (h : XR X e δ ox) (hs : swapsWith e none pos.line X.env = pure false := by rfl) : RsX X (.Expr e pos :: rest) δ ox := fun W tk => PSs.imp (pss_cons (ps_expr (h W tk) hs) never) fun D σ H ⟨p, B, G, i3, en, q⟩ => ⟨p, B, G, i3, en, q.at' i3⟩
end
section
variable {P : Program} {w : World} {K : Fg} {mg : Str → Option Value} {base : Heap} {x : Str} {st : Stmt} {f : Addr} {fd : FuncData} {N ps : List Str} {k : Nat} {R : List Dt → Str → Dt → Prop}
theorem fnX_data (F : Fun K x x st f fd) (S : FnScope N ps (defScope st)) (len : ∀ ds cn d, R ds cn d → ds.length = ps.length)
    (body : ∀ (cdv : Value) (A : Around) (outer : List Env) (s : Shared) (H : Hp) (E : L2.XK), Room k (xcx P w K mg base N x st f cdv A outer s H E).A → (xcx P w K mg base N x st f cdv A outer s H E).A.guards = some [] → (xcx P w K mg base N x st f cdv A outer s H E).A.units + 64 < cLine →
      ∀ ds cn d, R ds cn d → RsX (xcx P w K mg base N x st f cdv A outer s H E) (defBody st) (stD N (ds.map .d)) (fun c y => c = cn ∧ y = d)) : FnX P w K mg base (k + 1) f fd ps (spX K mg R) := by
  refine fnX_of F S (fun vs H Q E ⟨G, ds, cn, d, _, h, r, _⟩ => by rw [dpAll_length h]; exact len ds cn d r) fun cdv A outer s H vs Q E hr hg ⟨G, ds, cn, y, eg, h, r, q⟩ => ?_
  refine ⟨_, body cdv A outer s H E hr hg hr.units ds cn y r (fun cls d _ H => E cls d H) (takes_of rfl rfl rfl rfl), none, H, G, ⟨Exd.refl H, eg.1, (fun _ z => nomatch z), eg.2⟩, env_data h, ?_⟩
  intro C cn' d v y' σ G' H' e gC st i bd hd hv
  obtain ⟨rfl, rfl⟩ := e
  exact q C d v G' H' gC st i.bh i.gh bd hd hv
end
end Dv

set_option linter.all false
set_option maxRecDepth 100000
set_option maxHeartbeats 4000000
/-! isinstance of an error that has its dict; the suite of an except clause -/
namespace Dv
open PySem PySem.Spec PyProof.Rows L2 RZ PySem.W
variable [Tbl]
section
variable {prog : Program} {w : World} {A : Around} {E : Value → Shared → Prop} {s : Shared} {K : Fg} {x D : Addr} {ox : Obj} {od : Option Obj}
theorem find_cls (o : Option Obj) (hc : (clsIn K D).isSome = true) (ha : findIn K (.ref D) "__class__" = some (some (.builtin "object.__class__"))) (hg : specialIn K (.builtin "object.__class__") "__get__" = some (some (.builtin "getset_descriptor.__get__"))) (ht : takesIn K (.builtin "object.__class__") = some true) : findObj K D o "__class__" = some (.bind (.builtin "getset_descriptor.__get__") (.builtin "object.__class__")) := by
  obtain ⟨cd, hc⟩ := Option.isSome_iff_exists.mp hc
  unfold findObj
  rw [hc, Option.bind_some, ha, Option.bind_some]
  simp [hg, ht]
theorem err_class {Q : Option Value → Shared → Prop} (T : L2.ExcC K D) (X : K.In s.heap) (I : InstAt s.heap x ox D od) (h : Q (some (.ref D)) { s with toks := s.toks + 1 }) : wpAny (model prog w) A (getAttr? (.ref x) "__class__") Q E s := by
  obtain ⟨hga, hgt, hsub, hdct, ha, hn, htk, hm⟩ := T
  have hf := find_cls od (by obtain ⟨cd, hc, _⟩ := any_some hdct; rw [hc]; rfl) ha hn htk
  obtain ⟨hp, g, d, t, os⟩ := s
  have k0 := I.type (M := model prog w)
  have k1 := looks_findIn (M := model prog w) X hga
  have k2 := looks_findIn (M := model prog w) X hgt
  have k3 := looks_find (M := model prog w) X I hf
  have sub : Looks (model prog w) hp (isInstance (.ref x) (.type "BaseException")) true := k0.andThen (looks_subIn X hsub)
  have e0 : (false && onTheHeap (Value.builtin "BaseException.__getattribute__")) = false := rfl
  have e2 : (Value.builtin "BaseException.__getattribute__" == Value.builtin "object.__getattribute__") = false := by decide +kernel
  have e1 : (onTheHeap (Value.ref D) && Value.builtin "BaseException.__getattribute__" == Value.builtin "object.__getattribute__") = false := by rw [e2]; rfl
  unfold getAttr?
  unfold getAttrBy?
  unfold getAttrBy
  refine wpAny_bind (wpAny_mkText (wpAny_bind (wpAny_attempt (wpAny_holding (wpAny_bind (k0.at (wpAny_bind (k1.at (?_ : wpAny _ _ (if (onTheHeap (Value.ref D) && Value.builtin "BaseException.__getattribute__" == Value.builtin "object.__getattribute__") = true then _ else _) _ _ _)))))))))
  rw [e1, if_neg (by decide)]
  unfold getAttrByItsOwn
  unfold hookBefore
  refine wpAny_bind ?_
  rw [if_pos (show onTheHeap (Value.ref D) = true by rfl)]
  refine k2.at (wpAny_bind (wpAny_attempt (wpAny_holding ?_)))
  unfold callGetattribute
  rw [e0, if_neg (by decide)]
  unfold boundAndCalled
  rw [PySem.F.excAttr_ValueError.ga.bind (.ref x)]
  refine wpAny_bind (wpAny_pure (?_ : wpAny _ _ (call (.builtin "BaseException.__getattribute__") [.ref x, .str "__class__" t]) _ _ _))
  refine wpAny_call (codeAny_call_builtin PySem.F.excAttr_ValueError.ga.plain PySem.F.entry_bexc_ga (@check_slot (model prog w) _ _ ⟨hp, g, d, t + 1, os⟩ "BaseException.__getattribute__" "BaseException" "__getattribute__" (.ref x) [.str "__class__" t] [] _ (by decide +kernel) (by decide +kernel) sub (PySem.F.args_bexc_ga (.ref x) (.str "__class__" t)) ?_))
  unfold Builtin.«object.__getattribute__»
  refine wpAny_bind (wpAny_of_eq (a := ((Value.ref x : Value), [Value.str "__class__" t])) (by first | rfl | (simp only [slotArgs]; rfl)) (wpAny_bind (wpAny_pure (wpAny_bind (k0.at (wpAny_bind (k3.at ?_)))))))
  show wpAny _ _ (holding [Value.builtin "object.__class__"] (call (.builtin "getset_descriptor.__get__") [.builtin "object.__class__", .ref x, .ref D]) >>= ret) _ _ _
  refine wpAny_bind (wpAny_holding (wpAny_call (class_get (s := ⟨hp, g, d, t + 1, os⟩) (ox := ox) (od := od) X I hm (wpAny_pure ?_))))
  show wpAny _ _ (handedOut (.ref D)) _ _ _
  rw [handedOut_of (v := .ref D) rfl]
  first
    | exact wpAny_pure (wpAny_pure h)
    | exact wpAny_pure h
    | exact wpAny_pure (wpAny_bind (wpAny_pure (wpAny_pure h)))
theorem err_kit (T : L2.ExcC K D) : KitX K (.ref x) (.ref D) (fun h => InstAt h x ox D od) where
  ty := fun _ _ _ I => I.type
  it := fun _ _ X _ => by
    obtain ⟨c1, h1, _⟩ := any_some T.hd
    unfold clsIn at h1
    split at h1
    · rename_i c' d' cd' sl' ho
      intro A' Q' E' s' k q
      unfold isType
      unfold loadHead
      exact wpAny_bind (wpAny_loadPart (k _ _ (X _ _ ho)) (wpAny_pure q))
    · cases h1
  ne := fun h tp dd its n sl X htp => by
    obtain ⟨c1, h1, _⟩ := any_some T.hd
    refine Bool.eq_false_iff.mpr fun q => ?_
    have e : D = tp := Value.ref.inj (beq_iff_eq.mp q)
    subst e
    unfold clsIn at h1
    split at h1
    · rename_i c' d' cd' sl' ho
      have z := (X _ _ ho).symm.trans htp
      cases z
    · cases h1
  ca := fun X I k => err_class T X I k
end
/-- isinstance(e, c), e the error that the suite holds -/
def rIsR (K : Fg) (D a dd : Addr) : List V → Hp → VK → Prop := fun xs H Q => ∃ (c : V) (cv : Value) (b : Bool) (fs : List (Str × V)), xs = [.ref a, c] ∧ (∀ u, RelV c u → u = cv) ∧ kitOne K (.ref D) cv = some b ∧ H dd = some (.xd fs) ∧ Q (.bl b) H
theorem call_isR {X : Cx} {a D dd : Addr} {oe : Obj} {pn : List (Addr × Obj)} (C : L2.ExcC X.K D) (hz : Zc (.ref D) (some dd) oe) (hf : ∃ vs, oe.data = .fields vs) : CallR (X.suite a ((a, oe) :: pn)) (.builtin "isinstance") (rIsR X.K D a dd) := by
  intro pins s σ H xs us Q I r h
  obtain ⟨c, cv, b, fs, rfl, hcv, e, hd, q⟩ := h
  cases r with
  | cons rx rr =>
    cases rr with
    | cons rt rr =>
      cases rr
      cases rx
      have ec := hcv _ rt
      subst ec
      obtain ⟨hget, _⟩ := I.pin (a, oe) (List.mem_append.mpr (.inl List.mem_cons_self))
      obtain ⟨vs, hv⟩ := hf
      have hx : ObjOk X.prog X.w H s.heap dd (.xd fs) := I.hok dd _ hd
      obtain ⟨mA, hns, hr⟩ := hx
      obtain ⟨od, ho, hl⟩ := lookIn_ns hns
      have J : InstAt s.heap a oe D (some od) := ⟨hget, hz.1, by unfold notCls; rw [hv] <;> rfl, by rw [hz.2]; exact ho⟩
      exact kia_one (err_kit C) I.kIn J e (fun z => nomatch z) fun tk => ⟨.bl b, H, I.kept (t' := tk) fun _ _ z => z, rfl, q⟩
end Dv

set_option linter.all false
set_option maxRecDepth 100000
set_option maxHeartbeats 4000000
/-! try: a call that raises; except C as n: one statement over n.value -/
namespace Dv
open PySem PySem.Spec PyProof.Rows L2 RZ
variable [Tbl]
/-- the error at a in slot i, of the class at C, its dict d; x: its value -/
structure Held (K : Fg) (p : Option Addr) (B G H : Hp) (σ : L2.St) (δ : De) (i : Nat) (C a : Addr) (cls : Value) (d : Option Addr) (x : Dt) (dd : Addr) (fs : List (Str × V)) : Prop where
  i3 : I3 p B G H
  en : EnvD K p B G H σ δ
  at' : σ[i]? = some (some (.ref a))
  cl : cls = .ref C
  dc : d = some dd
  hd : H dd = some (.xd fs)
  hv : FR K G fs x
theorem Held.go {K : Fg} {p : Option Addr} {B G H G' H' : Hp} {σ : L2.St} {δ : De} {i : Nat} {C a : Addr} {cls : Value} {d : Option Addr} {x : Dt} {dd : Addr} {v : List (Str × V)} (h : Held K p B G H σ δ i C a cls d x dd v) (n : Nxt p G H G' H') : Held K p B G' H' σ δ i C a cls d x dd v :=
  ⟨h.i3.nxt n, h.en.nxt n, h.at', h.cl, h.dc, n.ex _ _ (by
    rw [del_ne]
    · exact h.hd
    · intro z
      obtain ⟨_, _, _, _, h3, _⟩ := h.i3.pot dd z
      rw [h.hd] at h3; cases h3) (fun _ z => by cases z), h.hv.ex n.st.1⟩
def rXE (K : Fg) (δ : De) (i : Nat) (C a : Addr) (cls : Value) (d : Option Addr) (x : Dt) (U : Dt → Prop) : TE := fun σ H Q => ∃ p B G dd v, Held K p B G H σ δ i C a cls d x dd v ∧ ∀ u y G' H', U y → Nxt p G H G' H' → Dz K G' u y → Q u H'
def rAE (K : Fg) (δ : De) (i : Nat) (C a : Addr) (cls : Value) (d : Option Addr) (x : Dt) (ds : List Dt) : TA := fun σ H Q => ∃ p B G dd v, Held K p B G H σ δ i C a cls d x dd v ∧ ∀ us G' H', Nxt p G H G' H' → DzAll K G' us ds → Q us H'
def rSE (K : Fg) (δ : De) (i : Nat) (C a : Addr) (cls : Value) (d : Option Addr) (x : Dt) (o : Out) : TS := fun D σ H => ∃ p B G dd v, Held K p B G H σ δ i C a cls d x dd v ∧ Post K p B G D o
/-- where the suite stands -/
structure Hold (X Y : Cx) (a : Addr) (cls : Value) (d : Option Addr) (i : Nat) (n : Str) (C : Addr) : Prop where
  ex : ∃ oe pn, Y = X.suite a ((a, oe) :: pn) ∧ Zc cls d oe ∧ ∃ vs, oe.data = .fields vs
  nm : X.N[i]? = some n
section
variable {X Y : Cx} {a C : Addr} {cls : Value} {d : Option Addr} {i : Nat} {n : Str} {δ : De} {x : Dt} {U : Dt → Prop} {e b : Expr} {es rest : List Expr} {ds : List Dt} {y : Dt} {pos p np : Pos}
def YE (Y : Cx) (δ : De) (i : Nat) (C a : Addr) (cls : Value) (d : Option Addr) (x : Dt) (e : Expr) (U : Dt → Prop) : Prop := PE Y e (rXE Y.K δ i C a cls d x U)
def YA (Y : Cx) (δ : De) (i : Nat) (C a : Addr) (cls : Value) (d : Option Addr) (x : Dt) (es : List Expr) (ds : List Dt) : Prop := PA Y es (rAE Y.K δ i C a cls d x ds)
theorem ye_of (h : XD Y e δ U) : YE Y δ i C a cls d x e U := PE.imp h fun σ H Q ⟨p, B, G, dd, v, hh, q⟩ => ⟨p, B, G, hh.i3, hh.en, q⟩
theorem ye_val (hh : Hold X Y a cls d i n C) (T : ∃ mg cn qn fI, ErrTxt X.K mg cn qn C fI) (k : U x) (ho : one x = true := by first | rfl | assumption) (hv : Vis X.env.scope n := by first | exact Or.inl rfl | exact Or.inr (Or.inl rfl) | exact Or.inr (Or.inr rfl)) (hd : (n == ("__debug__" : Str)) = false := by decide) (hcd : (n == ("__classdict__" : Str)) = false := by decide)
    (hb : attributeBase (.Name n np) "value" X.env (eval (.Name n np) X.env) = eval (.Name n np) X.env := by rfl) : YE Y δ i C a cls d x (.Attribute (.Name n np) "value" pos) U := by
  obtain ⟨oe, pn, rfl, hz, hf⟩ := hh.ex
  obtain ⟨mg, cn, qn, fI, T⟩ := T
  refine PE.imp (pe_xf (X := X) (C := C) ⟨T.ga, T.gg, T.exC, T.hdC⟩ T.noN hz hf (pe_var (X := X.suite a ((a, oe) :: pn)) hh.nm hv hd hcd) hb) fun σ H Q ⟨p, B, G, dd, v, h, q⟩ => ?_
  obtain ⟨w, rfl, hw⟩ := h.hv.one_of ho
  exact ⟨_, h.at', rfl, h.cl, dd, vF w, w, h.dc, h.hd, by simp [vF, List.lookup], q w x G H k (.refl h.i3) hw⟩
theorem ye_what {a2 b2 : Dt} (hh : Hold X Y a cls d i n C) (T : ∃ mg cn qn fI, ErrTxt2 X.K mg cn qn C fI) (k : U a2) (hv : Vis X.env.scope n := by first | exact Or.inl rfl | exact Or.inr (Or.inl rfl) | exact Or.inr (Or.inr rfl)) (hd : (n == ("__debug__" : Str)) = false := by decide) (hcd : (n == ("__classdict__" : Str)) = false := by decide)
    (hb : attributeBase (.Name n np) "what" X.env (eval (.Name n np) X.env) = eval (.Name n np) X.env := by rfl) : YE Y δ i C a cls d (err2 a2 b2) (.Attribute (.Name n np) "what" pos) U := by
  obtain ⟨oe, pn, rfl, hz, hf⟩ := hh.ex
  obtain ⟨mg, cn, qn, fI, T⟩ := T
  refine PE.imp (pe_xf (X := X) (C := C) ⟨T.ga, T.gg, T.exC, T.hdC⟩ T.noW hz hf (pe_var (X := X.suite a ((a, oe) :: pn)) hh.nm hv hd hcd) hb) fun σ H Q ⟨p, B, G, dd, v, h, q⟩ => ?_
  obtain ⟨w, u, rfl, hw, hu⟩ := h.hv.two_of
  exact ⟨_, h.at', rfl, h.cl, dd, vF2 w u, w, h.dc, h.hd, by rfl, q w a2 G H k (.refl h.i3) hw⟩
theorem ye_limit {a2 b2 : Dt} (hh : Hold X Y a cls d i n C) (T : ∃ mg cn qn fI, ErrTxt2 X.K mg cn qn C fI) (k : U b2) (hv : Vis X.env.scope n := by first | exact Or.inl rfl | exact Or.inr (Or.inl rfl) | exact Or.inr (Or.inr rfl)) (hd : (n == ("__debug__" : Str)) = false := by decide) (hcd : (n == ("__classdict__" : Str)) = false := by decide)
    (hb : attributeBase (.Name n np) "limit" X.env (eval (.Name n np) X.env) = eval (.Name n np) X.env := by rfl) : YE Y δ i C a cls d (err2 a2 b2) (.Attribute (.Name n np) "limit" pos) U := by
  obtain ⟨oe, pn, rfl, hz, hf⟩ := hh.ex
  obtain ⟨mg, cn, qn, fI, T⟩ := T
  refine PE.imp (pe_xf (X := X) (C := C) ⟨T.ga, T.gg, T.exC, T.hdC⟩ T.noL hz hf (pe_var (X := X.suite a ((a, oe) :: pn)) hh.nm hv hd hcd) hb) fun σ H Q ⟨p, B, G, dd, v, h, q⟩ => ?_
  obtain ⟨w, u, rfl, hw, hu⟩ := h.hv.two_of
  exact ⟨_, h.at', rfl, h.cl, dd, vF2 w u, u, h.dc, h.hd, by rfl, q u b2 G H k (.refl h.i3) hu⟩
theorem ye_is {kn : Str} {kp : Pos} {c : V} {cv : Value} (hh : Hold X Y a cls d i n C) (E : L2.ExcC X.K C) (hK : PE Y (.Name kn kp) (tC c)) (hcv : ∀ u, RelV c u → u = cv) (hk : PySem.W.kitOne X.K (.ref C) cv = some true) (k : U (.bool true)) (F : Free X.mg := by assumption)
    (hv : Vis X.env.scope n := by first | exact Or.inl rfl | exact Or.inr (Or.inl rfl) | exact Or.inr (Or.inr rfl)) (hd : (n == ("__debug__" : Str)) = false := by decide) (hcd : (n == ("__classdict__" : Str)) = false := by decide) (hg : Gl X "isinstance" := by rfl)
    (hs1 : starEach [.Name kn kp] X.env = [(false, eval (.Name kn kp) X.env)] := by rfl) (hs : starEach [.Name n np, .Name kn kp] X.env = (false, eval (.Name n np) X.env) :: starEach [.Name kn kp] X.env := by rfl) : YE Y δ i C a cls d x (.Call (.Name "isinstance" p) [.Name n np, .Name kn kp] [] pos) U := by
  obtain ⟨oe, pn, rfl, hz, hf⟩ := hh.ex
  by_cases q1 : cls = .ref C
  case neg =>
    exact ⟨fun pins s σ H Q I ⟨p, B, G, dd, v, h, _⟩ => absurd h.cl q1⟩
  subst q1
  cases d with
  | none => exact ⟨fun pins s σ H Q I ⟨p, B, G, dd, v, h, _⟩ => by have := h.dc; cases this⟩
  | some dd0 =>
    refine PE.imp (pe_callB (X := X.suite a ((a, oe) :: pn)) (call_isR E hz hf) hg (F _ (by decide +kernel)) (by decide +kernel) (pa_cons (pe_var (X := X.suite a ((a, oe) :: pn)) hh.nm hv hd hcd) (pa_cons hK pa_nil hs1) hs) (by decide) (by decide) hs (by rw [hs1]; exact back_plain (es := [.Name kn kp]) hs1)) fun σ H Q ⟨p, B, G, dd, v, h, q⟩ => ?_
    have e := h.dc
    cases e
    exact ⟨_, h.at', c, cv, true, v, rfl, hcv, hk, h.hd, q (.bl true) (.bool true) G H k (.refl h.i3) (.bl true)⟩
theorem ye_fn1 {id : String} {kn : Str} (hX : Y.mg = X.mg) (hvb : bootBuiltins kn = some (.builtin id)) (h : YE Y δ i C a cls d x e fun y => CallP Y (.builtin id) [y] U) (F : Free X.mg := by assumption) (hb : bnames.contains kn = true := by decide +kernel) (hg : Gl Y kn := by rfl) (hn : kn ≠ "__name__" := by decide) (hdb : (kn == ("__debug__" : Str)) = false := by decide)
    (h1 : starEach [e] Y.env = (false, eval e Y.env) :: starEach [] Y.env := by rfl) (hpl : (backTo pos (starEach [] Y.env)).any (·.1) = false := by rfl) : YE Y δ i C a cls d x (.Call (.Name kn p) [e] [] pos) U := by
  refine PE.imp (pe_callB (r := fun vs H Q => ∃ r, CallR Y (.builtin id) r ∧ r vs H Q) (fun pins s σ H vs us Q I rv ⟨r, hc, q⟩ => hc pins s σ H vs us Q I rv q) hg (by rw [hX]; exact F kn hb) hvb (pa_cons h pa_nil h1) hn hdb h1 hpl) fun σ H Q ⟨p, B, G, dd, v, hh, q⟩ => ⟨p, B, G, dd, v, hh, fun u y G' H' ⟨r, hc, hr⟩ n hu => ?_⟩
  exact ⟨r, hc, hr p B G' H' [u] (hh.i3.nxt n) (.cons hu .nil) Q fun u2 d2 G2 H2 rr n2 hu2 => q u2 d2 G2 H2 rr (n.trans n2) hu2⟩
theorem ye_and (h : YE Y δ i C a cls d x e (fun y => y = .bool true)) (hb : YE Y δ i C a cls d x (.BoolOp .And (b :: rest) pos) U) : YE Y δ i C a cls d x (.BoolOp .And (e :: b :: rest) pos) U :=
  PE.imp (pe_and h hb) fun σ H Q ⟨p, B, G, dd, v, hh, q⟩ => ⟨p, B, G, dd, v, hh, fun u y G' H' r n hu => by
    subst r
    cases hu
    exact ⟨true, rfl, iteT ⟨p, B, G', dd, v, hh.go n, fun u2 d2 G2 H2 r2 n2 k2 => q u2 d2 G2 H2 r2 (n.trans n2) k2⟩⟩⟩
theorem ye_one {op} (h : YE Y δ i C a cls d x e U) : YE Y δ i C a cls d x (.BoolOp op [e] pos) U := pe_one h
theorem ya_n : YA Y δ i C a cls d x [] [] := PA.imp pa_nil fun σ H Q ⟨p, B, G, dd, v, hh, q⟩ => q [] G H (.refl hh.i3) .nil
theorem ya_c (h : YE Y δ i C a cls d x e (fun z => z = y)) (h2 : YA Y δ i C a cls d x es ds) (hs : starEach (e :: es) Y.env = (false, eval e Y.env) :: starEach es Y.env := by rfl) : YA Y δ i C a cls d x (e :: es) (y :: ds) :=
  PA.imp (pa_cons h h2 hs) fun σ H Q ⟨p, B, G, dd, v, hh, q⟩ => ⟨p, B, G, dd, v, hh, fun u z G' H' r n hu => by
    subst r
    exact ⟨p, B, G', dd, v, hh.go n, fun us G2 H2 n2 hv2 => q (u :: us) G2 H2 (n.trans n2) (.cons (dp_ex n2.st.1 _ _ hu) hv2)⟩⟩
theorem ye_lst (h : YA Y δ i C a cls d x es ds) (hl : ds.length ≤ 100000 := by simp) : YE Y δ i C a cls d x (.List es pos) (fun z => z = .list ds) :=
  PE.imp (pe_lst h) fun σ H Q ⟨p, B, G, dd, v, hh, q⟩ => ⟨p, B, G, dd, v, hh, fun us G' H' n hv => ⟨by rw [dpAll_length hv]; exact Nat.le_trans hl (by decide), fun l hl0 => by
    have i3' := hh.i3.nxt n
    have m := Nxt.newH i3' (.lst us) hl0
    obtain ⟨m2, hd⟩ := own_data i3' m hl0 (i3'.gh.free hl0) (pot_ne i3' hl0) upd_same hv
    exact q _ _ _ _ rfl (n.trans m2) hd⟩⟩
end
theorem set_same {δ : De} {i : Nat} {en : En} (h : δ[i]? = some en) : δ.set i en = δ := by
  apply List.ext_getElem?
  intro j
  rw [List.getElem?_set]
  by_cases e : i = j
  · subst e
    rw [if_pos rfl, if_pos (List.getElem?_eq_some_iff.mp h).1, h]
  · rw [if_neg e]
/-- try: f(..) except C as n: y = e -/
theorem s_try {X : Cx} {i j k : Nat} {n y cn fx : Str} {qn : Str} {C fI : Addr} {es : List Expr} {e0 ev : Expr} {δ : De} {rest : List Stmt} {o : Out} {st : Stmt} {ps : List Str} {R : List Dt → Str → Dt → Prop} {V : Dt → Prop} {F : Dt → De} {W : Dt → Dt} {np pos' pos fp cpos epos yp apos : Pos}
    (Cl : CalX X.prog X.w X.K X.mg X.base k fx ps st (spX X.K X.mg R)) (T : ErrTxt X.K X.mg cn qn C fI) (hi : Nx X.N n i) (hδ : δ[i]? = some .no) (hj : Nx X.N y j) (hF : ∀ z, SetR δ j (.d z) (F z)) (hij : i ≠ j)
    (ha : ∀ pn xe, XA (X.tr pn xe) (e0 :: es) δ fun ds => ∃ x, R ds cn x ∧ V x) (hsu : ∀ x, V x → ∀ a oe cls d pn, Hold X (X.suite a ((a, oe) :: pn)) a cls d i n C → YE (X.suite a ((a, oe) :: pn)) δ i C a cls d x ev (fun z => z = W x)) (hk : ∀ x, V x → SsD X rest (F (W x)) o)
    (hN : X.N.Nodup := by assumption) (hr : Room k X.A := by first | assumption | (refine Room.mono (by assumption) ?_; decide)) (hgd : X.A.guards = some [] := by assumption) (hst : X.stack = X.env :: X.outer := by rfl) (hfr : X.env.frame = some X.env.locals := by rfl) (hln : X.env.kindOf n = some .local := by rfl) (hg : Gl X fx := by rfl) (hgc : Gl X cn := by rfl) (hdc : (cn == ("__debug__" : Str)) = false := by decide)
    (hdb : (fx == ("__debug__" : Str)) = false := by decide) (hpl : starEach es X.env = es.map fun e => (false, eval e X.env) := by rfl) (hsw : swapsWith (.Call (.Name fx fp) (e0 :: es) [] cpos) none epos.line X.env = pure false := by rfl)
    (hx : Loc X.env.scope y := by first | exact Or.inl rfl | exact Or.inr rfl) (hs2 : swapsWith ev (some (.Name y yp)) apos.line X.env = pure false := by rfl) (hf2 : X.fn y = true ∨ X.env.scope.names.lookup y = some .local := by first | exact .inl rfl | exact .inr rfl | assumption) :
    SsD X (.Try [.Expr (.Call (.Name fx fp) (e0 :: es) [] cpos) epos] [.ExceptHandler (some (.Name cn np)) (some n) [.Assign [.Name y yp] ev apos] pos'] [] [] pos :: rest) δ o := by
  refine ss_seq (N := fun δ' => ∃ x, V x ∧ δ' = F (W x)) ?_ (fun δ' ⟨x, hV, e⟩ => e ▸ hk x hV)
  refine PS.imp (ps_try_as (i := i) (c := .ref C) (Wout := fun _ _ _ _ => False) (tb := fun W2 => fun D σ H => rEX X δ W2 (fun c z => c = cn ∧ V z) σ H (fun _ _ => False)) (ts := fun a cls d => fun D σ H => ∃ x, V x ∧ rSE X.K δ i C a cls d x { nx := fun δ' => δ' = F (W x) } D σ H) hst hfr hN hi.eq hln ⟨hgc, hdc, .inl T.gC⟩ takes0 (fun W2 pn xe tk _ => ?body) (fun a oe cls d pn hz hf => ?suite)) fun D σ H ⟨p, B, G, i3, en, q⟩ => ?pre
  case body =>
    have z := r_call (X := X.tr pn xe) (ox := fun c z => c = cn ∧ V z) (p := fp) (pos := cpos) Cl ((ha pn xe).mono fun ds ⟨x, h1, h2⟩ => ⟨cn, x, h1, rfl, h2⟩) hr hgd hg hpl hdb W2 tk
    exact PSs.imp (pss_cons (ps_expr z hsw) (never (sts := []))) fun D σ H h => h
  case suite =>
    refine PSs.imp (t := fun D σ H => ∃ x, V x ∧ rSE X.K δ i C a cls d x { nx := fun δ' => δ' = F (W x) } D σ H) ⟨fun pins s σ H D I ⟨x, hV, h⟩ => ?_⟩ fun D σ H h => h
    have he := hsu x hV a oe cls d pn ⟨⟨oe, pn, rfl, hz, hf⟩, hi.eq⟩
    refine (PSs.imp (pss_one (ps_set (X := X.suite a ((a, oe) :: pn)) hN hj.eq hx he hs2 hf2)) ?_).run pins s σ H D I h
    rintro D σ H ⟨p, B, G, dd, v, hh, q⟩
    refine ⟨p, B, G, dd, v, hh, fun u z G' H' r n hu => ?_⟩
    subst r
    exact q.nx _ _ G' H' (by show δ.set j (.d (W x)) = F (W x); exact (hF _).eq) (n.stepB hh.i3) (hh.i3.nxt n) ((hh.en.nxt n).set hu)
  case pre =>
    refine ⟨p, B, G, i3, en, fun C' cn' d v x G' H' ⟨ec, hV⟩ gC n hd hd2 hv => ?_⟩
    subst ec
    have e : C' = C := by have := gC.symm.trans T.gC; cases this; rfl
    subst e
    refine ⟨true, T.te, fun _ a ha0 => ⟨x, hV, p, B, G', d, v, ⟨i3.nxt n, ?_, ?_, rfl, rfl, hd2, hv⟩, ?_⟩, fun z => Bool.noConfusion z⟩
    · have e1 := (en.nxt n).put (i := i) (o := some (.ref a)) (en := .no) trivial fun b f => by rcases f with ⟨z, _⟩ | z <;> cases z
      rw [set_same hδ] at e1
      exact e1
    · have hl : i < σ.length := by rw [en.len]; exact (List.getElem?_eq_some_iff.mp hδ).1
      rw [List.getElem?_set_self hl]
    · refine ⟨fun δ' σ' G2 H2 e2 st i2 en2 => ?_, fun _ _ _ _ z => z.elim, fun _ _ _ _ z => z.elim, fun _ _ _ _ z => z.elim, fun _ _ _ _ _ z => z.elim⟩
      have e3 := en2.put (i := i) (o := none) (en := .no) trivial fun b f => by rcases f with ⟨z, _⟩ | z <;> cases z
      have hs : δ'.set i .no = δ' := set_same (by rw [e2, ← (hF (W x)).eq, List.getElem?_set_ne (Ne.symm hij)]; exact hδ)
      rw [hs] at e3
      exact q.nx δ' _ G2 H2 ⟨x, hV, e2⟩ ((n.stepB i3).trans st) i2 e3
end Dv

set_option linter.all false
set_option maxRecDepth 100000
set_option maxHeartbeats 4000000
namespace Dv
open PySem PySem.Spec PyProof.Rows L2 RZ
variable [Tbl]
theorem all_succ {p : Nat → Bool} {i : Nat} : (List.range (i + 1)).all p = ((List.range i).all p && p i) := by
  rw [List.range_succ, List.all_append]; simp
section
variable {X : Cx} {elt tg iter tg1 iter1 : Expr} {scope : Scope} {own : List (Str × Nat)} {pos p : Pos} {δ : De} {R : Dt → Prop}
/-- all([F(i, j) for i in places for j in places]) -/
theorem c_all2F {p2 : Pos} (n : Nat) (F : Nat → Nat → Bool) (own : List (Str × Nat)) (vs1 : List Nat) (ok : BlkOk X.N X.env.scope scope own) (hi : XI X tg iter δ fun ds => ds = rngD 0 n ∧ n ≤ 200 ∧
      (∀ i : Nat, i < n → ∃ δ2, (∀ s H C cl fp, TgD (bX X scope s H C cl fp) tg (own.map (·.2)) (.int ((i : Nat) : Int)) (wipeD δ (own.map (·.2))) δ2) ∧ δ2.all En.plain = true ∧ (∀ s H C cl fp, XI (bX X scope s H C cl fp) tg1 iter1 δ2 fun x => x = rngD 0 n) ∧
        ∀ j : Nat, j < n → ∃ δ3, Turn2 X elt tg1 scope δ2 δ3 vs1 (.int ((j : Nat) : Int)) fun y => y = .bool (F i j)) ∧ R (.bool ((List.range n).all fun i => (List.range n).all (F i))))
    (hN : X.N.Nodup := by assumption) (Fr : Free X.mg := by assumption) (hv : ∀ i ∈ vs1, i ∈ own.map (·.2) := by decide) (hg : Gl X "all" := by rfl) (hc : X.calm = true := by rfl) (hs : ∀ x, foldedSetIterable iter X.env x = pure x := by intro _; rfl) (hs1 : ∀ env x, foldedSetIterable iter1 env x = pure x := by intro _ _; rfl)
    (h1 : starEach [.ListComp elt [⟨tg, iter, [], 0⟩, ⟨tg1, iter1, [], 0⟩] scope pos] X.env = (false, eval (.ListComp elt [⟨tg, iter, [], 0⟩, ⟨tg1, iter1, [], 0⟩] scope pos) X.env) :: starEach [] X.env := by rfl) (h2 : starEach [.ListComp elt [⟨tg, iter, [], 0⟩, ⟨tg1, iter1, [], 0⟩] scope pos] X.env = [.ListComp elt [⟨tg, iter, [], 0⟩, ⟨tg1, iter1, [], 0⟩] scope pos].map fun e => (false, eval e X.env) := by rfl) :
    XD X (.Call (.Name "all" p) [.ListComp elt [⟨tg, iter, [], 0⟩, ⟨tg1, iter1, [], 0⟩] scope pos] [] p2) δ R :=
  c_all (c_o (xo_comp2 own vs1 ok (PI.imp hi fun σ H Q ⟨p, B, G, i3, en, q⟩ => ⟨p, B, G, i3, en, fun J ds G' H' ⟨hd, hl, turn, fin⟩ => q J ds G' H' ⟨by rw [hd, rngD_length]; omega, fun i out => ∃ bs : List Bool, out = bs.map PyData.bool ∧ bs.length ≤ 200 * i ∧ bs.all _root_.id = (List.range i).all fun a => (List.range n).all (F a), ⟨[], rfl, by simp, rfl⟩, fun i d out hd2 ⟨bs, e1, e2, e3⟩ => by
    rw [hd] at hd2
    obtain ⟨hi, e⟩ := rngD_at hd2
    rw [Int.zero_add] at e
    subst e
    obtain ⟨δ2, t1, t2, t3, t5⟩ := turn i hi
    refine ⟨δ2, rngD 0 n, t1, t2, t3, fun j out => ∃ bs : List Bool, out = bs.map PyData.bool ∧ bs.length ≤ 200 * i + j ∧ bs.all _root_.id = (((List.range i).all fun a => (List.range n).all (F a)) && (List.range j).all (F i)), ⟨bs, e1, by omega, by rw [e3]; simp⟩, fun j d1 out1 hd1 ⟨cs, f1, f2, f3⟩ => ?_, fun out1 ⟨cs, f1, f2, f3⟩ => ?_⟩
    · obtain ⟨hj, e⟩ := rngD_at hd1
      rw [Int.zero_add] at e
      subst e
      obtain ⟨δ3, u⟩ := t5 j hj
      refine ⟨by rw [f1, List.length_map]; have : i < 200 := by omega
                 omega, δ3, u.g, fun s H C cl fp => (u.e s H C cl fp).mono fun y hy => ⟨cs ++ [F i j], by rw [f1, hy, List.map_append]; rfl, by rw [List.length_append]; simp; omega, ?_⟩⟩
      rw [List.all_append, f3, all_succ, Bool.and_assoc]
      simp
    · rw [rngD_length] at f2 f3
      exact ⟨cs, f1, by omega, by rw [f3, all_succ]⟩, fun out ⟨bs, e1, e2, e3⟩ => by
    rw [hd, rngD_length] at e3
    rw [e1]
    exact f_all (by rw [e3]; exact fin) hc⟩⟩) hN hv hc hs hs1)) Fr hg h1 h2
end
end Dv

set_option linter.all false
set_option maxRecDepth 100000
set_option maxHeartbeats 4000000
namespace Dv
open PySem PySem.Spec PyProof.Rows L2 RZ
variable [Tbl]
theorem so_app {a b : Str} (h1 : PyData.strOk a = true) (h2 : PyData.strOk b = true) : PyData.strOk (a ++ b) = true := by
  show ((a.cps ++ b.cps).all fun c => decide (c < 0x110000)) = true
  rw [Array.all_append]
  have e1 : (a.cps.all fun c => decide (c < 0x110000)) = true := h1
  have e2 : (b.cps.all fun c => decide (c < 0x110000)) = true := h2
  rw [e1, e2]; rfl
theorem so_of (s : String) : PyData.strOk (Str.ofString s) = true := by
  rw [Str.ofString_eq_toList]
  unfold PyData.strOk
  rw [Array.all_eq_true]
  intro i hi
  refine decide_eq_true ?_
  have h : ∀ x ∈ s.toList.map Char.toNat, x < 0x110000 := fun x hx => by
    obtain ⟨c, _, rfl⟩ := List.mem_map.mp hx
    have v := c.valid
    unfold UInt32.isValidChar at v
    unfold Nat.isValidChar at v
    show c.val.toNat < _
    omega
  exact h _ (by
    have := Array.getElem_mem hi
    simpa using this)
theorem so_from : ∀ {ts : List Str} {k : Nat} {acc : Str}, PyData.strOk acc = true → (∀ t ∈ ts, PyData.strOk t = true) → PyData.strOk (textFrom k acc ts) = true
  | [], _, _, h, _ => h
  | t :: ts, k, acc, h, ht => by
    unfold textFrom
    exact so_from (so_app (so_app h (so_of _)) (ht t (List.mem_cons_self ..))) fun x hx => ht x (List.mem_cons_of_mem _ hx)
theorem so_join : ∀ {ts : List Str}, (∀ t ∈ ts, PyData.strOk t = true) → PyData.strOk (Str.join ", " ts) = true
  | [], _ => by decide +kernel
  | [x], h => h x (List.mem_cons_self ..)
  | x :: y :: r, h => so_app (so_app (h x (List.mem_cons_self ..)) (so_of _)) (so_join fun z hz => h z (List.mem_cons_of_mem _ hz))
mutual
/-- what is shown of it are signs there are -/
def sok : Dt → Bool
  | .str x => PyData.strOk (reprText x)
  | .list xs => sokAll xs
  | .tuple xs => sokAll xs
  | .dict kvs => kvs.isEmpty
  | _ => true
def sokAll : List Dt → Bool
  | [] => true
  | x :: xs => sok x && sokAll xs
end
mutual
theorem sok_shown : ∀ {v : Dt}, sok v = true → PyData.strOk v.shown = true
  | .none, _ => so_of _
  | .bool b, _ => by
    cases b <;> exact so_of _
  | .int i, _ => so_of _
  | .str x, h => h
  | .list xs, h => so_app (so_from (so_of _) (sok_all (xs := xs) h)) (so_of _)
  | .tuple xs, h => so_app (so_app (so_of _) (so_join (sok_all (xs := xs) h))) (so_of _)
  | .dict kvs, h => by
    cases kvs with
    | nil => exact (by decide +kernel : PyData.strOk (PyData.dict []).shown = true)
    | cons _ _ => cases h
theorem sok_all : ∀ {xs : List Dt}, sokAll xs = true → ∀ t ∈ PyData.shownAll xs, PyData.strOk t = true
  | [], _, t, ht => by cases ht
  | x :: xs, h, t, ht => by
    have h2 : (sok x && sokAll xs) = true := h
    rw [Bool.and_eq_true] at h2
    rcases List.mem_cons.mp ht with rfl | ht
    · exact sok_shown h2.1
    · exact sok_all h2.2 t ht
end
theorem sokAll_of : ∀ {xs : List Dt}, (∀ x ∈ xs, sok x = true) → sokAll xs = true
  | [], _ => rfl
  | x :: xs, h => by
    show (sok x && sokAll xs) = true
    rw [h x (List.mem_cons_self ..), sokAll_of fun y hy => h y (List.mem_cons_of_mem _ hy)]; rfl
theorem sokAll_mem : ∀ {xs : List Dt}, sokAll xs = true → ∀ x ∈ xs, sok x = true
  | [], _, x, hx => by cases hx
  | y :: xs, h, x, hx => by
    have h2 : (sok y && sokAll xs) = true := h
    rw [Bool.and_eq_true] at h2
    rcases List.mem_cons.mp hx with rfl | hx
    · exact h2.1
    · exact sokAll_mem h2.2 x hx
end Dv

set_option linter.all false
set_option maxRecDepth 100000
set_option maxHeartbeats 4000000
namespace Dv
open PySem PySem.Spec PyProof.Rows L2 RZ
variable [Tbl]
section
variable {X : Cx} {a b e : Expr} {δ : De} {p pos p3 p4 : Pos} {S : List Dt → Prop} {R : Dt → Prop}
/-- two lists put together are a new list -/
theorem o_cat (h : XD X a δ fun x => XD X b δ fun y => ∃ es fs, x = .list es ∧ y = .list fs ∧ es.length + fs.length ≤ 100000 ∧ S (es ++ fs)) : XO X (.BinOp a .Add b pos) δ S :=
  PE.imp (pe_op (r := rCatR X.K) op_catR h (pe_later (δ := δ))) fun σ H Q ⟨p, B, G, i3, en, q⟩ => two_c i3 en fun v w d1 d2 G' H' ⟨es, fs, e1, e2, hl, k⟩ n i' h1 h2 => by
    subst e1; subst e2
    cases h1 with
    | lst hs ha => cases h2 with
      | lst hs2 ha2 =>
        exact ⟨_, _, _, _, rfl, rfl, ex_x i'.gh hs, ex_x i'.gh hs2, by rw [dpAll_length ha, dpAll_length ha2]; exact Nat.le_trans hl (by decide), fun l hl => q l _ (es ++ fs) G' _ k (n.trans (.newH i' (.lst _) hl)) (back_none n hl) (i'.gh.free hl) (pot_ne i' hl) upd_same (dpAll_append ha ha2)⟩
/-- list(range(n)) -/
theorem c_listRg1 (h : XD X a δ fun d => ∃ n : Nat, d = .int ((n : Nat) : Int) ∧ n ≤ 100000 ∧ R (.list ((List.range n).map fun i => PyData.int ((i : Nat) : Int)))) (F : Free X.mg := by assumption) (hc : X.calm = true := by rfl) (hg : Gl X "list" := by rfl) (hg2 : Gl X "range" := by rfl)
    (hs2 : starEach [a] X.env = (false, eval a X.env) :: starEach [] X.env := by rfl) (hs3 : starEach [.Call (.Name "range" p3) [a] [] p4] X.env = (false, eval (.Call (.Name "range" p3) [a] [] p4) X.env) :: starEach [] X.env := by rfl) :
    XD X (.Call (.Name "list" p) [.Call (.Name "range" p3) [a] [] p4] [] pos) δ R :=
  PE.imp (pe_listRg hc hg (F "list" (by decide +kernel)) (prg_1 hg2 (F "range" (by decide +kernel)) h hs2) hs3) fun σ H Q ⟨p, B, G, i3, en, q⟩ => ⟨p, B, G, i3, en, fun v d G' H' ⟨n, e1, hn, k⟩ nx hv => by
    subst e1
    cases hv
    have hr : RgOk 0 ((n : Nat) : Int) := RgOk.of_le (by omega) (by omega) (by omega) (by omega)
    refine ⟨_, rfl, hr, fun l hl => q _ _ _ _ k (nx.trans (.new (i3.nxt nx) _ hl)) (.lst (.inl (.inl upd_same)) ?_)⟩
    have e1 : rgV 0 ((n : Nat) : Int) = ((List.range n).map fun k : Nat => ((k : Nat) : Int)).map V.int := by
      unfold rgV
      rw [List.map_map, show ((((n : Nat) : Int)) - 0).toNat = n by omega]
      refine List.map_congr_left fun k _ => ?_
      show V.int (0 + ((k : Nat) : Int)) = V.int ((k : Nat) : Int)
      rw [Int.zero_add]
    have e2 : ((List.range n).map fun i => PyData.int ((i : Nat) : Int)) = ((List.range n).map fun k : Nat => ((k : Nat) : Int)).map PyData.int := by rw [List.map_map]; rfl
    rw [e1, e2]
    exact dpAll_of_ints _⟩
end
end Dv

set_option linter.all false
set_option maxRecDepth 100000
set_option maxHeartbeats 4000000
namespace Dv
open PySem PySem.Spec PyProof.Rows L2 RZ
variable [Tbl]
theorem exm_own {K : PySem.W.Frag} {C : Addr} (hb : PySem.W.subIn K (.ref C) (.type "BaseException") = some true) (hi : PySem.W.isClsIn K C = true) (ht : PySem.W.typeIn K (.ref C) = some (.type "type")) (hs : PySem.W.subIn K (.ref C) (.ref C) = some true) : PySem.W.exmOne K (.ref C) (.ref C) = some true := by
  unfold PySem.W.exmOne PySem.W.kitCls
  unfold PySem.W.isClsIn at hi
  simp [hb, hi, ht, hs]
theorem kit_ref {K : PySem.W.Frag} {C B : Addr} (hi : PySem.W.isClsIn K B = true) (ht : PySem.W.typeIn K (.ref B) = some (.type "type")) (hs : PySem.W.subIn K (.ref C) (.ref B) = some true) : PySem.W.kitOne K (.ref C) (.ref B) = some true := by
  unfold PySem.W.kitOne
  split
  · rfl
  · unfold PySem.W.kitCls
    unfold PySem.W.isClsIn at hi
    simp [hi, ht, hs]
theorem kit_ty {K : PySem.W.Frag} {C : Addr} {T : String} (hm : PySem.W.kitMeta T = true) (hs : PySem.W.subIn K (.ref C) (.type T) = some true) : PySem.W.kitOne K (.ref C) (.type T) = some true := by
  unfold PySem.W.kitOne
  split
  · rfl
  · unfold PySem.W.kitCls
    simp [hm, hs]
theorem Df.calX {P : Program} {w : World} {K : Fg} {mg : Str → Option Value} {base h : Heap} {k : Nat} {x : Str} {ps : List Str} {st : Stmt} {sp : Sp} (D : Df K x st) (X : K.In h) (G : h.Ns mainGlobals mg)
    (hb : ∀ (kV doc pm : Value) (an : Option Addr) (cdv ct : Value) (us : List Value), us.length = ps.length → bindArgs (PySem.W.fnOf x x (defArgs st) (defBody st) (defScope st) .none kV doc pm an cdv ct) ⟨us, []⟩ = pure (ps.zip us))
    (F : ∀ f fd, Fun K x x st f fd → FnX P w K mg base k f fd ps sp) : CalX P w K mg base k x ps st sp := by
  obtain ⟨f, fd, a, hk, fn⟩ := D.ex
  exact ⟨f, fd, F f fd fn, PySem.W.mg_of X G a, hk, fn.binds hb, fn⟩
end Dv

set_option linter.all false
set_option maxRecDepth 100000
set_option maxHeartbeats 4000000
/-! sorted of a list of data that are alike -/
namespace Dv
open PySem PySem.Spec PyProof.Rows L2 RZ PySem.W
variable [Tbl]
theorem each_zip {R : Value → (V × Dt) → Prop} : ∀ {bs : List (V × Dt)} {its : List Value}, Vals (bs.map (·.1)) its → (∀ b ∈ bs, ∀ u, RelV b.1 u → R u b) → EachIs R its bs
  | [], its, h, _ => by cases h; exact .nil
  | b :: bs, its, h, k => by
    cases h with
    | cons h1 h2 => exact .cons (k b (List.mem_cons_self ..) _ h1) (each_zip h2 fun c hc => k c (List.mem_cons_of_mem _ hc))
theorem zip_each : ∀ {bs : List (V × Dt)} {its : List Value}, EachIs (fun u (b : V × Dt) => RelV b.1 u) its bs → Vals (bs.map (·.1)) its
  | [], its, h => by cases h; exact .nil
  | b :: bs, its, h => by
    cases h with
    | cons h1 h2 => exact .cons h1 (zip_each h2)
def rSortD (K : Fg) : List V → Hp → VK → Prop := fun vs H Q => ∃ (a : Addr) (bs : List (V × Dt)), vs = [V.ref a] ∧ SqL K H a (bs.map (·.1)) ∧ (∀ b ∈ bs, Dp K H b.1 b.2) ∧ AllAlike (bs.map (·.2)) ∧ Sortable (bs.map (·.2)) ∧ (∀ b ∈ bs, b.2.depth ≤ 60) ∧
  ∀ (cs : List (V × Dt)) (p : Addr), cs.Perm bs → cs.Pairwise (fun x y => dataLt y.2 x.2 = false) → H p = none → Q (.ref p) (upd H p (.lst (cs.map (·.1))))
section
variable {X : Cx} {e : Expr} {δ : De} {p pos : Pos} {R : Dt → Prop} {ds : List Dt}
theorem cr_sortD (hu : X.A.units + 64 < cLine) : CallR X (.builtin "sorted") (rSortD X.K) := by
  intro pins s σ H vs us Q I r h
  obtain ⟨a, bs, rfl, hs, hd, hal, hk, hdp, q⟩ := h
  obtain ⟨its, rv, hl, hz⟩ := I.list hs
  rw [Vals.ref1 r]
  have e1 : EachIs (fun u (b : V × Dt) => RelV b.1 u) its bs := each_zip rv fun b _ u hu => hu
  have e2 : EachIs (fun u (b : V × Dt) => ∃ as, Reads s.heap u b.2 as) its bs := each_zip rv fun b hb u hu => Dp.reads I b.2 b.1 u (hd b hb) hu
  have hz2 : bs.length ≤ sizeLine := by rw [← List.length_map (f := (·.1))]; exact hz
  refine sorted_data (enc := fun b : V × Dt => b.2) hl.isList e1 e2 hal hk hz2 (fun b hb => by have := hdp b hb; omega) fun out ho eo => ?_
  obtain ⟨ep, he⟩ := PyProof.Rows.sortedAll_at s.heap its (List.toArray out)
  have hp := List.mergeSort_perm bs (dataLe false fun b : V × Dt => b.2)
  have hs2 := sort_pairwise (sortLe_total (listOrd itemOrd) false fun b : V × Dt => keyToks b.2) bs
  have hlen : ((bs.mergeSort (dataLe false fun b : V × Dt => b.2)).map (·.1)).length ≤ sizeLine := by rw [List.length_map, hp.length_eq]; exact hz2
  refine ⟨.ref _, upd H (s.heap.objs.size + 1) (.lst ((bs.mergeSort (dataLe false fun b : V × Dt => b.2)).map (·.1))), I.laid (t' := s.toks) (fun _ _ => PyProof.Rows.sortedAll_old) (Nat.le_succ _) ⟨hlen, out, ep, zip_each eo, he⟩, rfl, q _ _ hp (hs2.imp fun {x y} hxy => ?_) (I.hok.fresh (Nat.le_succ _))⟩
  have z : (!dataLt y.2 x.2) = true := hxy
  simpa using z
theorem dz_zip {K : Fg} {G : Hp} : ∀ {xs : List V} {ds : List Dt}, DzAll K G xs ds → (xs.zip ds).map (·.1) = xs ∧ (xs.zip ds).map (·.2) = ds ∧ ∀ b ∈ xs.zip ds, Dz K G b.1 b.2
  | _, _, .nil => ⟨rfl, rfl, fun b h => by cases h⟩
  | _, _, .cons (v := v) (d := d) h t => by
    obtain ⟨e1, e2, e3⟩ := dz_zip t
    refine ⟨by rw [List.zip_cons_cons, List.map_cons, e1], by rw [List.zip_cons_cons, List.map_cons, e2], fun b hb => ?_⟩
    rw [List.zip_cons_cons] at hb
    rcases List.mem_cons.mp hb with rfl | hb
    · exact h
    · exact e3 b hb
theorem zip_dz {K : Fg} {G : Hp} : ∀ {bs : List (V × Dt)}, (∀ b ∈ bs, Dz K G b.1 b.2) → DzAll K G (bs.map (·.1)) (bs.map (·.2))
  | [], _ => .nil
  | b :: bs, h => .cons (h b (List.mem_cons_self ..)) (zip_dz fun c hc => h c (List.mem_cons_of_mem _ hc))
/-- sorted(xs), xs alike data without dicts -/
theorem f_sortD (hu : X.A.units + 64 < cLine) (hal : AllAlike ds) (hk : Sortable ds) (hd : ∀ d ∈ ds, d.hasDict = false ∧ d.depth ≤ 60) (k : ∀ es : List Dt, es.Perm ds → es.Pairwise (fun x y => dataLt y x = false) → R (.list es)) : CallP X (.builtin "sorted") [.list ds] R := ⟨_, cr_sortD hu, fun p B G H vs i3 hv Q q => by
    obtain ⟨v, rfl, h⟩ := one_of hv
    cases h with
    | lst hs ha =>
      rename_i a0 xs0
      obtain ⟨e1, e2, e3⟩ := dz_zip ha
      have mem2 : ∀ b ∈ List.zip xs0 ds, b.2 ∈ ds := fun b hb => (List.of_mem_zip hb).2
      refine ⟨_, List.zip xs0 ds, rfl, by rw [e1]; exact exl i3.gh hs, fun b hb => dz_dp _ _ (hd _ (mem2 b hb)).1 (dp_ex i3.gh _ _ (e3 b hb)), by rw [e2]; exact hal, by rw [e2]; exact hk, fun b hb => (hd _ (mem2 b hb)).2, fun cs l h1 h2 hl => ?_⟩
      have hp2 := h1.map (·.2)
      rw [e2] at hp2
      refine q _ _ _ _ (k (cs.map (·.2)) hp2 (List.pairwise_map.mpr h2)) (.new i3 _ hl) (.lst (.inl (.inl upd_same)) (zip_dz fun b hb => dp_ex (Ex.new (i3.gh.free hl)) _ _ (e3 b (h1.mem_iff.mp hb))))⟩
end
end Dv

set_option linter.all false
set_option maxRecDepth 100000
set_option maxHeartbeats 4000000
/-! [*xs, *ys] -/
namespace Dv
open PySem PySem.Spec PyProof.Rows L2 RZ StX
variable [Tbl]
section
variable {X : Cx} {a b : Expr} {δ : De} {p p1 p2 pos : Pos} {R : Dt → Prop} {ds : List Dt}
def SeqV (K : Fg) (H : Hp) (v : V) (vs : List V) : Prop := ∃ a, v = .ref a ∧ (SqT K H a vs ∨ SqL K H a vs)
theorem seq_v {K : Fg} {G H : Hp} {v : V} {d : Dt} (e : Ex G H) (h : Dz K G v d) (hd : d = .list ds ∨ d = .tuple ds) : ∃ vs, SeqV K H v vs ∧ DzAll K G vs ds := by
  rcases hd with rfl | rfl
  · cases h with
    | lst hs ha => exact ⟨_, ⟨_, rfl, .inr (exl e hs)⟩, ha⟩
  · cases h with
    | tup hs ha => exact ⟨_, ⟨_, rfl, .inl (ex_t e hs)⟩, ha⟩
theorem c_lstS2 (h : XD X a δ fun x => seqD x fun es => XD X b δ fun y => seqD y fun fs => es.length + fs.length ≤ 100000 ∧ R (.list (es ++ fs)))
    (h1 : starEach [.Starred a p1, .Starred b p2] X.env = (true, eval a X.env) :: starEach [.Starred b p2] X.env := by rfl) (h2 : starEach [.Starred b p2] X.env = (true, eval b X.env) :: starEach [] X.env := by rfl) :
    XD X (.List [.Starred a p1, .Starred b p2] pos) δ R := by
  refine PE.imp (pe_lst (pa_star (p := p1) h (pa_star (p := p2) (pe_later (δ := δ)) pa_nil h2) h1)) fun σ H Q ⟨p, B, G, i3, en, q⟩ => ⟨p, B, G, i3, en, fun v d G1 H1 ⟨es, e1, hb⟩ n1 hv => ?_⟩
  have i1 := i3.nxt n1
  obtain ⟨vs, ⟨a1, ea, sa⟩, da⟩ := seq_v i1.gh hv e1
  refine ⟨a1, vs, ea, sa, _, hb, p, B, G1, i1, en.nxt n1, fun w y G2 H2 ⟨fs, e2, hl, r⟩ n2 hw => ?_⟩
  have i2 := i1.nxt n2
  obtain ⟨ws, ⟨a2, eb, sb⟩, db⟩ := seq_v i2.gh hw e2
  have hall := dpAll_append (dpAll_ex n2.st.1 _ _ da) db
  have hlen := dpAll_length hall
  refine ⟨a2, ws, eb, sb, ?_⟩
  show (vs ++ (ws ++ [])).length ≤ sizeLine ∧ _
  rw [List.append_nil]
  refine ⟨by rw [hlen, List.length_append]; exact Nat.le_trans hl (by decide), fun l hl0 => ?_⟩
  exact q (.ref l) _ _ _ r (n1.trans (n2.trans (.new i2 (.lst _) hl0))) (.lst (.inl (.inl upd_same)) (dpAll_ex (Ex.new (i2.gh.free hl0)) _ _ hall))
end
end Dv

set_option linter.all false
set_option maxRecDepth 100000
set_option maxHeartbeats 4000000
namespace DvZ
open PySem
open Sem (wp)
theorem zip_no_len : typeLookup (.type "zip") "__len__" = pure none := by rw [typeLookup_type, builtinLookup_eq_fast]; kernel_rfl
theorem zip_no_hint : typeLookup (.type "zip") "__length_hint__" = pure none := by rw [typeLookup_type, builtinLookup_eq_fast]; kernel_rfl
structure ZSt (h : Heap) (S z TI TO i1 i2 l1 l2 : Addr) (xs ys : Array Value) (i : Nat) : Prop where
  ti : PySem.IsPair h TI (.ref i1) (.ref i2)
  h1 : h.IsListIter i1 l1 i
  h2 : h.IsListIter i2 l2 i
  l1 : h.IsList l1 xs
  l2 : h.IsList l2 ys
  z : (IsZip h z TI TO .none ∧ ∃ a b, PySem.IsPair h TO a b) ∨ ∃ T f oT, IsZipHeld h z TI TO T f ∧ h.get? T = some oT ∧ T ≠ z ∧ T ≠ i1 ∧ T ≠ i2 ∧ T ≠ S
section
variable {prog : Program} {w : World} {A : Around} {E : Value → Shared → Prop} {s : Shared} {S z TI TO i1 i2 l1 l2 : Addr} {xs ys : Array Value} {i : Nat}
theorem z_item {Q : Option Value → Shared → Prop} (D : ZipApart z TI TO i1 i2 l1 l2) (hS : S < s.heap.objs.size) (st : ZSt s.heap S z TI TO i1 i2 l1 l2 xs ys i) {x y : Value} (ex : xs[i]? = some x) (ey : ys[i]? = some y)
    (hQ : ∀ h', ZSt h' S z TI TO i1 i2 l1 l2 xs ys (i + 1) → PySem.IsPair h' s.heap.objs.size x y → h'.objs.size = s.heap.objs.size + 1 → (∀ c o, c ≠ z → c ≠ TO → c ≠ i1 → c ≠ i2 → s.heap.get? c = some o → h'.get? c = some o) → Q (some (.ref s.heap.objs.size)) { s with heap := h' }) :
    wpAny (model prog w) A (pyNext (.ref z)) Q E s := by
  obtain ⟨hTI, h1, h2, hl1, hl2, hz⟩ := st
  have lt : ∀ {c o}, s.heap.get? c = some o → s.heap.objs.size ≠ c := fun e => Nat.ne_of_gt (Heap.lt_size e)
  have n1 : s.heap.objs.size ≠ i1 := let ⟨_, e, _⟩ := h1; lt e
  have n2 : s.heap.objs.size ≠ i2 := let ⟨_, e, _⟩ := h2; lt e
  rcases hz with ⟨hz, a, b, hTO⟩ | ⟨T, f, oT, hz, hT, r1, r2, r3, r4⟩
  · refine wpAny_pyNext_zip_item D hz hTI hTO h1 h2 hl1 hl2 ex ey fun h' a1 a2 a3 a4 a5 a6 hk => ?_
    exact hQ h' ⟨hk _ _ D.TIz D.TITO D.TIi1 D.TIi2 hTI, a3, a4, hl1.at fun o e => hk _ o D.l1z D.l1TO D.l1i1 D.l1i2 e, hl2.at fun o e => hk _ o D.l2z D.l2TO D.l2i1 D.l2i2 e, .inr ⟨_, false, _, a1, a5, lt hz, n1, n2, Nat.ne_of_gt hS⟩⟩ a5 a6 hk
  · refine wpAny_pyNext_zip_item_held D hz hT hTI h1 h2 hl1 hl2 ex ey fun h' a1 a3 a4 a5 a6 hk => ?_
    exact hQ h' ⟨hk _ _ D.TIz D.TIi1 D.TIi2 hTI, a3, a4, hl1.at fun o e => hk _ o D.l1z D.l1i1 D.l1i2 e, hl2.at fun o e => hk _ o D.l2z D.l2i1 D.l2i2 e, .inr ⟨T, true, oT, a1, hk _ _ r1 r2 r3 hT, r1, r2, r3, r4⟩⟩ a5 a6 fun c o c1 c2 c3 c4 e => hk c o c1 c3 c4 e
theorem z_done {Q : Option Value → Shared → Prop} (hA : A.handled = none) (D : ZipApart z TI TO i1 i2 l1 l2) (st : ZSt s.heap S z TI TO i1 i2 l1 l2 xs ys i) (ex : xs[i]? = none)
    (hQ : ∀ h', (∀ c o, c ≠ z → c ≠ TO → c ≠ i1 → c ≠ i2 → s.heap.get? c = some o → h'.get? c = some o) → Q none { s with heap := h' }) : wpAny (model prog w) A (pyNext (.ref z)) Q E s := by
  obtain ⟨hTI, h1, h2, hl1, hl2, hz⟩ := st
  rcases hz with ⟨hz, a, b, hTO⟩ | ⟨T, f, oT, hz, hT, r1, r2, r3, r4⟩
  · exact wpAny_pyNext_zip_end hA D hz hTI hTO h1 h2 hl1 hl2 (.inl ex) hQ
  · exact wpAny_pyNext_zip_end_held hA D hz hT hTI h1 h2 hl1 hl2 (.inl ex) fun h' hk => hQ h' fun c o c1 c2 c3 c4 e => hk c o c1 c3 c4 e
/-- the heap at S alone is written -/
theorem ZSt.at {h h' : Heap} (st : ZSt h S z TI TO i1 i2 l1 l2 xs ys i) (k : ∀ b o, b ≠ S → h.get? b = some o → h'.get? b = some o) (d1 : z ≠ S) (d2 : TI ≠ S) (d3 : TO ≠ S) (d4 : i1 ≠ S) (d5 : i2 ≠ S) (d6 : l1 ≠ S) (d7 : l2 ≠ S) : ZSt h' S z TI TO i1 i2 l1 l2 xs ys i := by
  obtain ⟨hTI, h1, h2, hl1, hl2, hz⟩ := st
  refine ⟨k _ _ d2 hTI, h1.at fun o e => k _ o d4 e, h2.at fun o e => k _ o d5 e, hl1.at fun o e => k _ o d6 e, hl2.at fun o e => k _ o d7 e, ?_⟩
  rcases hz with ⟨hz, a, b, hTO⟩ | ⟨T, f, oT, hz, hT, r1, r2, r3, r4⟩
  · exact .inl ⟨k _ _ d1 hz, a, b, k _ _ d3 hTO⟩
  · exact .inr ⟨T, f, oT, k _ _ d1 hz, k _ _ r4 hT, r1, r2, r3, r4⟩
structure ZAcc (S : Addr) (h : Heap) (acc : Array Value) (Ts : List Addr) (xs ys : Array Value) (i : Nat) : Prop where
  len : Ts.length = i
  eq : acc = (Ts.map Value.ref).toArray
  nd : Ts.Nodup
  ge : ∀ T ∈ Ts, S < T
  pr : ∀ (j : Nat) (T : Addr), Ts[j]? = some T → ∃ x y, xs[j]? = some x ∧ ys[j]? = some y ∧ PySem.IsPair h T x y
theorem ZAcc.keep {h h' : Heap} {acc : Array Value} {Ts : List Addr} (a : ZAcc S h acc Ts xs ys i) (k : ∀ b o, S < b → h.get? b = some o → h'.get? b = some o) : ZAcc S h' acc Ts xs ys i :=
  ⟨a.len, a.eq, a.nd, a.ge, fun j T e => by
    obtain ⟨x, y, e1, e2, e3⟩ := a.pr j T e
    exact ⟨x, y, e1, e2, k _ _ (a.ge T (List.mem_of_getElem? e)) e3⟩⟩
theorem ZAcc.push {h : Heap} {acc : Array Value} {Ts : List Addr} (a : ZAcc S h acc Ts xs ys i) {T : Addr} {x y : Value} (ex : xs[i]? = some x) (ey : ys[i]? = some y) (hp : PySem.IsPair h T x y) (hS : S < T) (hn : ∀ U ∈ Ts, U < T) : ZAcc S h (acc.push (.ref T)) (Ts ++ [T]) xs ys (i + 1) := by
  refine ⟨by rw [List.length_append, a.len]; rfl, by rw [a.eq]; simp, ?_, ?_, ?_⟩
  · refine List.nodup_append.mpr ⟨a.nd, by simp, fun U hU V hV => ?_⟩
    rw [List.mem_singleton] at hV
    subst hV
    exact Nat.ne_of_lt (hn U hU)
  · intro U hU
    rcases List.mem_append.mp hU with hU | hU
    · exact a.ge U hU
    · rw [List.mem_singleton] at hU; subst hU; exact hS
  · intro j U e
    by_cases hj : j < Ts.length
    · rw [List.getElem?_append_left hj] at e; exact a.pr j U e
    · have hj2 : j = Ts.length := by
        have := (List.getElem?_eq_some_iff.mp e).1
        rw [List.length_append, List.length_singleton] at this
        omega
      subst hj2
      rw [List.getElem?_append_right (Nat.le_refl _)] at e
      simp at e
      subst e
      rw [a.len]
      exact ⟨x, y, ex, ey, hp⟩
theorem z_loop {R : Result → Shared → Prop} (hA : A.in1.handled = none) (D : ZipApart z TI TO i1 i2 l1 l2) (d1 : z < S) (d2 : TI < S) (d3 : TO < S) (d4 : i1 < S) (d5 : i2 < S) (d6 : l1 < S) (d7 : l2 < S) (hxy : xs.size = ys.size) (hn : xs.size ≤ sizeLine) (res : Value) :
    ∀ (k i : Nat) (s : Shared) (acc : Array Value) (Ts : List Addr) (c : Nat), xs.size - i = k → i ≤ xs.size → ZSt s.heap S z TI TO i1 i2 l1 l2 xs ys i → s.heap.get? S = some { cls := .type "list", dict := none, data := .seq acc c, slots := #[] } → ZAcc S s.heap acc Ts xs ys i →
    (∀ h' acc' Ts' c', (∀ b o, b ≠ z → b ≠ TO → b ≠ i1 → b ≠ i2 → b ≠ S → s.heap.get? b = some o → h'.get? b = some o) → h'.get? S = some { cls := .type "list", dict := none, data := .seq acc' c', slots := #[] } → ZAcc S h' acc' Ts' xs ys xs.size → R (.ok (.ret res)) { s with heap := h' }) →
    codeAny (model prog w) A (.builtin "list.extend.loop" ⟨[.ref S, .ref z, res], []⟩) R s := by
  intro k
  induction k with
  | zero =>
    intro i s acc Ts c hk hi st hS hacc hR
    have hin : i = xs.size := by omega
    subst hin
    refine codeAny_builtin F.entry_extend_loop ?_
    rw [Around.under_plainId F.plain_extend_loop _]
    show wpAny _ A.in1 (pyNext (.ref z) >>= _) _ _ s
    refine wpAny_bind (z_done hA D st (Array.getElem?_eq_none (Nat.le_refl _)) fun h' hk' => ?_)
    have nS : ∀ {a : Addr}, a < S → S ≠ a := fun h => Nat.ne_of_gt h
    refine wpAny_pure (hR h' acc Ts c (fun b o b1 b2 b3 b4 _ e => hk' b o b1 b2 b3 b4 e) (hk' S _ (nS d1) (nS d3) (nS d4) (nS d5) hS) (hacc.keep fun b o hb e => hk' b o ?_ ?_ ?_ ?_ e)) <;> exact Nat.ne_of_gt (Nat.lt_trans (by assumption) hb)
  | succ k ih =>
    intro i s acc Ts c hk hi st hS hacc hR
    have hlt : i < xs.size := by omega
    have ex := Array.getElem?_eq_getElem hlt
    have ey := Array.getElem?_eq_getElem (show i < ys.size by omega)
    refine codeAny_builtin F.entry_extend_loop ?_
    rw [Around.under_plainId F.plain_extend_loop _]
    show wpAny _ A.in1 (pyNext (.ref z) >>= _) _ _ s
    have hSlt : S < s.heap.objs.size := Heap.lt_size hS
    have nS : ∀ {a : Addr}, a < S → S ≠ a := fun h => Nat.ne_of_gt h
    refine wpAny_bind (z_item D hSlt st ex ey fun h' st' hp hsz hk' => ?_)
    have hS' := hk' S _ (nS d1) (nS d3) (nS d4) (nS d5) hS
    have hacc1 : ZAcc S h' acc Ts xs ys i := hacc.keep fun b o hb e => hk' b o (Nat.ne_of_gt (Nat.lt_trans d1 hb)) (Nat.ne_of_gt (Nat.lt_trans d3 hb)) (Nat.ne_of_gt (Nat.lt_trans d4 hb)) (Nat.ne_of_gt (Nat.lt_trans d5 hb)) e
    have hacc2 := hacc1.push ex ey hp hSlt fun U hU => by
      obtain ⟨j, hj⟩ := List.getElem?_of_mem hU
      obtain ⟨_, _, _, _, e⟩ := hacc.pr j U hj
      exact Heap.lt_size e
    show wpAny _ A.in1 (updateSeq S (·.push (.ref s.heap.objs.size)) >>= _) _ _ _
    refine wpAny_bind ?_
    have oth : ∀ b o, b ≠ S → h'.get? b = some o → (h'.update S (Obj.mapSeq (·.push (.ref s.heap.objs.size)))).get? b = some o := fun b o hb e => (Heap.get?_update_other _ _ (Ne.symm hb)).trans e
    have hsz2 : acc.size = i := by rw [hacc.eq]; simp [hacc.len]
    refine wpAny_updateSeq hS' rfl (wpAny_pure ⟨plainId_quiet F.plain_extend_loop _, ih (i + 1) _ (acc.push (.ref s.heap.objs.size)) _ _ (by omega) hlt (st'.at oth (Nat.ne_of_lt d1) (Nat.ne_of_lt d2) (Nat.ne_of_lt d3) (Nat.ne_of_lt d4) (Nat.ne_of_lt d5) (Nat.ne_of_lt d6) (Nat.ne_of_lt d7)) (Heap.get?_update_self _ hS' rfl) (hacc2.keep fun b o hb e => oth b o (Nat.ne_of_gt hb) e) fun h'' acc' Ts' c' hk'' hS'' hacc' => ?_⟩)
      (by rw [hsz2]; omega) (by show (acc.push (.ref s.heap.objs.size)).size ≤ sizeLine + 1; rw [Array.size_push, hsz2]; omega)
    exact hR h'' acc' Ts' c' (fun b o b1 b2 b3 b4 b5 e => hk'' b o b1 b2 b3 b4 b5 (oth b o b5 (hk' b o b1 b2 b3 b4 e))) hS'' hacc'
theorem z_extend {R : Result → Shared → Prop} (hA : A.in1.handled = none) (D : ZipApart z TI TO i1 i2 l1 l2) (d1 : z < S) (d2 : TI < S) (d3 : TO < S) (d4 : i1 < S) (d5 : i2 < S) (d6 : l1 < S) (d7 : l2 < S) (hxy : xs.size = ys.size) (hn : xs.size ≤ sizeLine) (res : Value) (c₀ : Nat)
    (hz : IsZip s.heap z TI TO .none) (st : ZSt s.heap S z TI TO i1 i2 l1 l2 xs ys 0) (hS : s.heap.get? S = some { cls := .type "list", data := .seq #[] c₀ })
    (hR : ∀ h' acc' Ts' c', (∀ b o, b ≠ z → b ≠ TO → b ≠ i1 → b ≠ i2 → b ≠ S → s.heap.get? b = some o → h'.get? b = some o) → h'.get? S = some { cls := .type "list", dict := none, data := .seq acc' c', slots := #[] } → ZAcc S h' acc' Ts' xs ys xs.size → R (.ok (.ret res)) { s with heap := h' }) :
    wpAny (model prog w) A.in1 (Builtin.List.listExtendWith (.ref S) (.ref z) res)
      (fun fin s' => match fin with | .done f => R (.ok f) s' | .again c' => c'.quiet = true ∧ codeAny (model prog w) A c' R s') (fun e s' => R (.error e) s') s := by
  have hSI : S ≠ z := Nat.ne_of_gt d1
  have hT : s.TypeIs (.ref z) "zip" := ⟨_, hz, rfl⟩
  unfold Builtin.List.listExtendWith
  refine wpAny_bind (wpAny_typeOf hT ?_)
  have h1 : Builtin.List.listSameRef (.ref S) (.ref z) = false := by simp [Builtin.List.listSameRef, hSI]
  have h2 : (Value.type "zip" == Value.type "list") = false := by decide
  have h3 : (Value.type "zip" == Value.type "tuple") = false := by decide
  simp only [h1, h2, h3, Bool.or_false, Bool.false_eq_true, if_false]
  refine wpAny_bind (wpAny_pyIter_zip hz ?_)
  refine wpAny_bind (wpAny_holding ?_)
  unfold Builtin.List.listLengthHint
  refine wpAny_bind (wpAny_specialOf hT zip_no_len ?_)
  show wpAny _ A.in1 (specialOf (Value.ref z) (Str.ofString "__length_hint__") >>= _) _ _ _
  refine wpAny_bind (wpAny_specialOf hT zip_no_hint ?_)
  refine wpAny_pure ?_
  show wpAny _ A.in1 (rule "list.extend.makes-room" >>= fun _ => Builtin.List.listTouch (.ref S) >>= fun _ =>
    again (.builtin "list.extend.loop" ⟨[.ref S, .ref z, res], []⟩)) _ _ _
  refine wpAny_bind (wpAny_rule ?_)
  refine wpAny_bind ?_
  show wpAny _ A.in1 (updateSeq S (·.push .none) >>= fun _ => updateSeq S (·.pop)) _ _ _
  refine wpAny_bind (wpAny_updateSeq hS rfl ?_)
  have hS₂ := Heap.get?_update_self (Obj.mapSeq (·.push Value.none)) hS rfl
  refine wpAny_updateSeq (hz := by seq_fits) hS₂ rfl ?_
  have hS₃ := Heap.get?_update_self (Obj.mapSeq (·.pop)) hS₂ rfl
  have oth : ∀ b o, b ≠ S → s.heap.get? b = some o → ((s.heap.update S (Obj.mapSeq (·.push Value.none))).update S (Obj.mapSeq (·.pop))).get? b = some o :=
    fun b o hb e => (Heap.get?_update_other _ _ (Ne.symm hb)).trans ((Heap.get?_update_other _ _ (Ne.symm hb)).trans e)
  refine wpAny_pure ⟨plainId_quiet F.plain_extend_loop _, z_loop hA D d1 d2 d3 d4 d5 d6 d7 hxy hn res _ 0 _ #[] [] _ rfl (Nat.zero_le _) (st.at oth (Nat.ne_of_lt d1) (Nat.ne_of_lt d2) (Nat.ne_of_lt d3) (Nat.ne_of_lt d4) (Nat.ne_of_lt d5) (Nat.ne_of_lt d6) (Nat.ne_of_lt d7)) hS₃ ⟨rfl, rfl, List.nodup_nil, (fun _ h => by cases h), (fun _ _ h => by simp at h)⟩ fun h' acc' Ts' c' hk hS' hacc => ?_⟩
  exact hR h' acc' Ts' c' (fun b o b1 b2 b3 b4 b5 e => hk b o b1 b2 b3 b4 b5 (oth b o b5 e)) hS' hacc
theorem z_init {R : Result → Shared → Prop} (hA : A.in1.handled = none) (D : ZipApart z TI TO i1 i2 l1 l2) (d1 : z < S) (d2 : TI < S) (d3 : TO < S) (d4 : i1 < S) (d5 : i2 < S) (d6 : l1 < S) (d7 : l2 < S) (hxy : xs.size = ys.size) (hn : xs.size ≤ sizeLine)
    (hz : IsZip s.heap z TI TO .none) (st : ZSt s.heap S z TI TO i1 i2 l1 l2 xs ys 0) (hS : s.heap.get? S = some { cls := .type "list", data := .seq #[] })
    (hR : ∀ h' acc' Ts' c', (∀ b o, b ≠ z → b ≠ TO → b ≠ i1 → b ≠ i2 → b ≠ S → s.heap.get? b = some o → h'.get? b = some o) → h'.get? S = some { cls := .type "list", dict := none, data := .seq acc' c', slots := #[] } → ZAcc S h' acc' Ts' xs ys xs.size → R (.ok (.ret .none)) { s with heap := h' }) :
    wpAny (model prog w) A.in1 (Builtin.«list.__init__» ⟨[.ref S, .ref z], []⟩)
      (fun fin s' => match fin with | .done f => R (.ok f) s' | .again c' => c'.quiet = true ∧ codeAny (model prog w) A c' R s') (fun e s' => R (.error e) s') s := by
  show wpAny _ A.in1 (do let old ← Builtin.List.listItems (.ref S); Builtin.List.listUpdate (.ref S) (fun _ => #[]); letGo old.toList.reverse; Builtin.List.listExtendWith (.ref S) (.ref z) .none) _ _ s
  refine wpAny_bind ?_
  unfold Builtin.List.listItems
  refine wpAny_bind (wpAny_seqItems hS rfl (wpAny_pure ?_))
  show wpAny _ A.in1 (updateSeq S (fun _ => #[]) >>= fun _ => letGo (#[] : Array Value).toList.reverse >>= fun _ => Builtin.List.listExtendWith (.ref S) (.ref z) .none) _ _ s
  refine wpAny_bind (wpAny_updateSeq hS rfl ?_)
  have hS₂ := Heap.get?_update_self (Obj.mapSeq (fun _ => (#[] : Array Value))) hS rfl
  have oth : ∀ b o, b ≠ S → s.heap.get? b = some o → (s.heap.update S (Obj.mapSeq (fun _ => (#[] : Array Value)))).get? b = some o :=
    fun b o hb e => (Heap.get?_update_other _ _ (Ne.symm hb)).trans e
  refine wpAny_bind (wpAny_letGo ?_)
  refine z_extend hA D d1 d2 d3 d4 d5 d6 d7 hxy hn .none _ (oth _ _ (Nat.ne_of_lt d1) hz) (st.at oth (Nat.ne_of_lt d1) (Nat.ne_of_lt d2) (Nat.ne_of_lt d3) (Nat.ne_of_lt d4) (Nat.ne_of_lt d5) (Nat.ne_of_lt d6) (Nat.ne_of_lt d7)) hS₂ fun h' acc' Ts' c' hk hS' hacc => ?_
  exact hR h' acc' Ts' c' (fun b o b1 b2 b3 b4 b5 e => hk b o b1 b2 b3 b4 b5 (oth b o b5 e)) hS' hacc
/-- list(z), z what zip gave -/
theorem call_list_zip {Q : Value → Shared → Prop} (hh : A.handled = none) (D : ZipApart z TI TO i1 i2 l1 l2) (hxy : xs.size = ys.size) (hn : xs.size ≤ sizeLine)
    (hz : IsZip s.heap z TI TO .none) (hTI : PySem.IsPair s.heap TI (.ref i1) (.ref i2)) (hTO : PySem.IsPair s.heap TO .none .none) (h1 : s.heap.IsListIter i1 l1 0) (h2 : s.heap.IsListIter i2 l2 0) (hl1 : s.heap.IsList l1 xs) (hl2 : s.heap.IsList l2 ys)
    (hQ : ∀ h' acc' Ts' c', (∀ b o, b ≠ z → b ≠ TO → b ≠ i1 → b ≠ i2 → s.heap.get? b = some o → h'.get? b = some o) → h'.get? s.heap.objs.size = some { cls := .type "list", dict := none, data := .seq acc' c', slots := #[] } → ZAcc s.heap.objs.size h' acc' Ts' xs ys xs.size → Q (.ref s.heap.objs.size) { s with heap := h' }) :
    wpAny (model prog w) A (call (.type "list") [.ref z]) Q E s := by
  refine callType_codes (Q₁ := fun obj s₁ => obj = .ref s.heap.objs.size ∧ s₁ = { s with heap := s.heap.push { cls := .type "list", data := .seq #[] } }) F.called_list (F.typeCall_list_1 _) F.entry_list_init
    (code_list_new _ ⟨rfl, rfl⟩) fun obj s₁ h₁ => ?_
  obtain ⟨rfl, rfl⟩ := h₁
  have hS : (s.heap.push { cls := .type "list", data := .seq #[] }).get? s.heap.objs.size = some { cls := .type "list", data := .seq #[] } := Heap.get?_push_size _ rfl
  have lt : ∀ {c o}, s.heap.get? c = some o → c < s.heap.objs.size := fun e => Heap.lt_size e
  have d4 : i1 < s.heap.objs.size := let ⟨_, e, _⟩ := h1; lt e
  have d5 : i2 < s.heap.objs.size := let ⟨_, e, _⟩ := h2; lt e
  have d6 : l1 < s.heap.objs.size := let ⟨_, e, _⟩ := hl1; lt e
  have d7 : l2 < s.heap.objs.size := let ⟨_, e, _⟩ := hl2; lt e
  have pu : ∀ b o, s.heap.get? b = some o → (s.heap.push { cls := .type "list", data := .seq #[] }).get? b = some o := fun b o e => Heap.get?_push_of_some _ e
  refine ⟨⟨_, hS, rfl⟩, F.args_list_init_2 _ _, z_init (A := A.in1) hh D (lt hz) (lt hTI) (lt hTO) d4 d5 d6 d7 hxy hn (pu _ _ hz) ⟨pu _ _ hTI, h1.at fun o e => pu _ o e, h2.at fun o e => pu _ o e, hl1.at fun o e => pu _ o e, hl2.at fun o e => pu _ o e, .inl ⟨pu _ _ hz, _, _, pu _ _ hTO⟩⟩ hS fun h' acc' Ts' c' hk hS' hacc => ?_⟩
  exact ⟨rfl, hQ h' acc' Ts' c' (fun b o b1 b2 b3 b4 e => hk b o b1 b2 b3 b4 (Nat.ne_of_lt (lt e)) (pu b o e)) hS' hacc⟩
end
end DvZ

set_option linter.all false
set_option maxRecDepth 100000
set_option maxHeartbeats 4000000
namespace Dv
open PySem PySem.Spec PyProof.Rows L2 RZ
variable [Tbl]
/-! list(zip(a, b)) -/
def putT (H : Hp) : List (Addr × (V × V)) → Hp
  | [] => H
  | q :: r => putT (upd H q.1 (.tup [q.2.1, q.2.2])) r
theorem putT_ne : ∀ {r : List (Addr × (V × V))} {H : Hp} {b : Addr}, (∀ q ∈ r, q.1 ≠ b) → putT H r b = H b
  | [], _, _, _ => rfl
  | q :: r, H, b, h => by
    show putT (upd H q.1 _) r b = H b
    rw [putT_ne fun x hx => h x (List.mem_cons_of_mem _ hx)]
    exact upd_ne (Ne.symm (h q (List.mem_cons_self ..)))
theorem putT_at : ∀ {r : List (Addr × (V × V))} {H : Hp} {q : Addr × (V × V)}, (r.map (·.1)).Nodup → q ∈ r → putT H r q.1 = some (.tup [q.2.1, q.2.2])
  | x :: r, H, q, hn, hq => by
    rw [List.map_cons, List.nodup_cons] at hn
    show putT (upd H x.1 _) r q.1 = _
    rcases List.mem_cons.mp hq with rfl | hq
    · rw [putT_ne fun y hy e => hn.1 (by rw [← e]; exact List.mem_map_of_mem (f := fun q : Addr × (V × V) => q.1) hy)]
      exact upd_same
    · exact putT_at hn.2 hq
theorem putT_ok {P : Program} {w : World} {h : Heap} : ∀ {r : List (Addr × (V × V))} {H : Hp}, HOk P w H h → (r.map (·.1)).Nodup → (∀ q ∈ r, H q.1 = none) → (∀ q ∈ r, ∃ its, Vals [q.2.1, q.2.2] its ∧ IsTup h q.1 its.toArray) → HOk P w (putT H r) h
  | [], _, x, _, _, _ => x
  | q :: r, H, x, hn, h0, ho => by
    rw [List.map_cons, List.nodup_cons] at hn
    refine putT_ok (H := upd H q.1 _) (HOk.laidN x (fun _ _ e => e) (h0 q (List.mem_cons_self ..)) ⟨by show 2 ≤ sizeLine; decide, ho q (List.mem_cons_self ..)⟩) hn.2 (fun y hy => ?_) fun y hy => ho y (List.mem_cons_of_mem _ hy)
    have ne : y.1 ≠ q.1 := fun e => hn.1 (by rw [← e]; exact List.mem_map_of_mem (f := fun q : Addr × (V × V) => q.1) hy)
    rw [upd_ne ne]
    exact h0 y (List.mem_cons_of_mem _ hy)
theorem putT_nxt {p : Option Addr} {B : Hp} : ∀ {r : List (Addr × (V × V))} {G H : Hp}, I3 p B G H → (r.map (·.1)).Nodup → (∀ q ∈ r, H q.1 = none) → Nxt p G H (putT G r) (putT H r)
  | [], _, _, i, _, _ => .refl i
  | q :: r, G, H, i, hn, h0 => by
    rw [List.map_cons, List.nodup_cons] at hn
    have n1 : Nxt p G H (upd G q.1 (.tup [q.2.1, q.2.2])) (upd H q.1 (.tup [q.2.1, q.2.2])) := .new i _ (h0 q (List.mem_cons_self ..))
    refine n1.trans (putT_nxt (i.nxt n1) hn.2 fun y hy => ?_)
    have ne : y.1 ≠ q.1 := fun e => hn.1 (by rw [← e]; exact List.mem_map_of_mem (f := fun q : Addr × (V × V) => q.1) hy)
    rw [upd_ne ne]
    exact h0 y (List.mem_cons_of_mem _ hy)
theorem un_more {fs ex : List Addr} {H H' : Hp} {h h' : Heap} (k : ∀ b u, h.get? b = some u → h'.get? b = some u) (k1 : ∀ b o, H b = some o → H' b = some o) (k2 : ∀ b, b < h.objs.size → H b = none → H' b = none) : Un fs ex H H' h h' where
  keep := fun b u q _ _ _ => k b u q
  slot := fun b u q _ _ _ => ⟨u.slots, k b u q⟩
  free := fun b u q n _ => k2 b (Heap.lt_size q) n
  there := fun b u q _ => ⟨u, k b u q⟩
  tups := fun b xs q => k1 _ _ q
  frzs := fun b u xs q => k1 _ _ q
  tbls := fun b ps q => ⟨#[], by rw [k1 _ _ q]; simp⟩
def pairsT (Ts : List Addr) (xs ys : List V) : List (Addr × (V × V)) := Ts.zip (xs.zip ys)
def tLstZip (K : Fg) (ta : TA) : TE := fun σ H Q => ta σ H fun vs H1 => ∃ a b xs ys, vs = [.ref a, .ref b] ∧ SqL K H1 a xs ∧ SqL K H1 b ys ∧ xs.length = ys.length ∧
  ∀ (Ts : List Addr) S, Ts.length = xs.length → Ts.Nodup → (∀ T ∈ Ts, H1 T = none) → H1 S = none → S ∉ Ts → Q (.ref S) (upd (putT H1 (pairsT Ts xs ys)) S (.lst (Ts.map V.ref)))
theorem pairs_fst {Ts : List Addr} {xs ys : List V} (h1 : Ts.length = xs.length) (h2 : xs.length = ys.length) : (pairsT Ts xs ys).map (·.1) = Ts := by
  unfold pairsT
  rw [List.map_fst_zip (by rw [List.length_zip]; omega)]
theorem pairs_get {Ts : List Addr} {xs ys : List V} {q : Addr × (V × V)} (hq : q ∈ pairsT Ts xs ys) : ∃ j : Nat, Ts[j]? = some q.1 ∧ xs[j]? = some q.2.1 ∧ ys[j]? = some q.2.2 := by
  obtain ⟨j, hj⟩ := List.getElem?_of_mem hq
  unfold pairsT at hj
  rw [List.getElem?_zip_eq_some] at hj
  obtain ⟨e1, e2⟩ := hj
  have e2' : (xs.zip ys)[j]? = some (q.2.1, q.2.2) := e2
  rw [List.getElem?_zip_eq_some] at e2'
  exact ⟨j, e1, e2'.1, e2'.2⟩
theorem pe_listZip {X : Cx} {e e2 : Expr} {ta : TA} {p pos p3 p4 : Pos} (hc : X.calm = true) (hg : Gl X "list") (hm : X.mg "list" = none) (hg2 : Gl X "zip") (hm2 : X.mg "zip" = none) (ha : PA X [e, e2] ta)
    (hs : starEach [e, e2] X.env = (false, eval e X.env) :: starEach [e2] X.env := by rfl) (hpl : (backTo p4 (starEach [e2] X.env)).any (·.1) = false := by rfl)
    (na : starEach [.Call (.Name "zip" p3) [e, e2] [] p4] X.env = (false, eval (.Call (.Name "zip" p3) [e, e2] [] p4) X.env) :: starEach [] X.env := by rfl) :
    PE X (.Call (.Name "list" p) [.Call (.Name "zip" p3) [e, e2] [] p4] [] pos) (tLstZip X.K ta) := by
  refine ⟨fun pins s σ H Q I h => ?_⟩
  refine Call_ (ld_blt I hg hm boot_list (PyProof.Rows.callWith_type1 (args_cons (Call_ (ld_blt I hg2 hm2 PyProof.Rows.boot_zip (PyProof.Rows.callWith_type1 (thn (ha.run p4 pins s σ H _ I h) fun us s1 ⟨vs, H1, I1, r1, q1⟩ => ?_) hs hpl))) na) na))
  obtain ⟨a, b, xs, ys, ex, hqx, hqy, hxy, q⟩ := q1
  subst ex
  cases r1 with
  | cons r rr =>
    cases rr with
    | cons r' rr =>
      cases rr
      cases r
      cases r'
      obtain ⟨its, rv, p1, hz1⟩ := I1.list hqx
      obtain ⟨its2, rv2, p2, hz2⟩ := I1.list hqy
      have la : a < s1.heap.objs.size := p1.lt
      have lb : b < s1.heap.objs.size := p2.lt
      refine call_zip_2 p1.isList p2.isList fun h' hz hTI hTO h1 h2 hsz hk => args_nil ?_
      have n1 := rv.length
      have n2 := rv2.length
      refine DvZ.call_list_zip (I1.ok.hd hc) (PySem.W.ktu_apart s1.heap.objs.size a b la lb) (xs := its.toArray) (ys := its2.toArray) (by simp; omega) (by simp; omega) hz hTI hTO h1 h2 (p1.isList.at fun o e => hk _ o e) (p2.isList.at fun o e => hk _ o e) fun h2 acc Ts c' hk2 hS hA => ?_
      have kk : ∀ b o, s1.heap.get? b = some o → h2.get? b = some o := fun b o e => by
        have lt := Heap.lt_size e
        exact hk2 b o (Nat.ne_of_lt (Nat.lt_of_lt_of_le lt (Nat.le_add_right _ 4))) (Nat.ne_of_lt (Nat.lt_of_lt_of_le lt (Nat.le_add_right _ 3))) (Nat.ne_of_lt lt) (Nat.ne_of_lt (Nat.lt_of_lt_of_le lt (Nat.le_add_right _ 1))) (hk b o e)
      have bS : s1.heap.objs.size ≤ h'.objs.size := by omega
      obtain ⟨tl, te, tn, tg, tp⟩ := hA
      have tl2 : Ts.length = xs.length := by rw [tl]; simp; omega
      have f0 : ∀ b, s1.heap.objs.size ≤ b → H1 b = none := fun b hb => I1.hok.fresh hb
      have tf : ∀ T ∈ Ts, H1 T = none := fun T hT => f0 T (Nat.le_of_lt (Nat.lt_of_le_of_lt bS (tg T hT)))
      have sf : H1 h'.objs.size = none := f0 _ bS
      have sn : h'.objs.size ∉ Ts := fun hm => Nat.lt_irrefl _ (tg _ hm)
      have pf := pairs_fst (xs := xs) (ys := ys) tl2 hxy
      have pn : ((pairsT Ts xs ys).map (·.1)).Nodup := by rw [pf]; exact tn
      have pm : ∀ y ∈ pairsT Ts xs ys, y.1 ∈ Ts := fun y hy => by rw [← pf]; exact List.mem_map_of_mem (f := fun q : Addr × (V × V) => q.1) hy
      have ok1 : HOk X.prog X.w (putT H1 (pairsT Ts xs ys)) h2 := putT_ok (I1.hok.kept kk) pn (fun y hy => tf _ (pm y hy)) fun y hy => by
        obtain ⟨j, e1, e2, e3⟩ := pairs_get hy
        obtain ⟨u, v, g1, g2, g3⟩ := tp j _ e1
        obtain ⟨u', k1, k2⟩ := Vals.get rv e2
        obtain ⟨v', k3, k4⟩ := Vals.get rv2 e3
        simp only [List.getElem?_toArray] at g1 g2
        have eu : u' = u := Option.some.inj (k1.symm.trans g1)
        have ev : v' = v := Option.some.inj (k3.symm.trans g2)
        subst eu
        subst ev
        exact ⟨[u', v'], .cons k2 (.cons k4 .nil), _, g3, rfl, _, rfl⟩
      have sE : putT H1 (pairsT Ts xs ys) h'.objs.size = none := by
        rw [putT_ne fun y hy e => sn (by rw [← e]; exact pm y hy)]; exact sf
      have vl : ∀ Us : List Addr, Vals (Us.map V.ref) (Us.map Value.ref) := fun Us => by
        induction Us with
        | nil => exact .nil
        | cons U Us ih => exact .cons rfl ih
      have ok2 : HOk X.prog X.w (upd (putT H1 (pairsT Ts xs ys)) h'.objs.size (.lst (Ts.map V.ref))) h2 := HOk.laidN ok1 (fun _ _ e => e) sE ⟨by rw [List.length_map]; omega, Ts.map Value.ref, c', vl Ts, by rw [← te]; exact hS⟩
      have I2 : Inv X pins σ (upd (putT H1 (pairsT Ts xs ys)) h'.objs.size (.lst (Ts.map V.ref))) { s1 with heap := h2 } := I1.un (t' := s1.toks) (un_more kk (fun b o e => by
        have n1 : b ≠ h'.objs.size := fun z => by rw [z, sf] at e; cases e
        rw [upd_ne n1, putT_ne fun y hy z => by
          have := tf _ (pm y hy)
          rw [z] at this
          rw [this] at e
          cases e]
        exact e) (fun b hb e => by
        have n1 : b ≠ h'.objs.size := Nat.ne_of_lt (Nat.lt_of_lt_of_le hb bS)
        rw [upd_ne n1, putT_ne fun y hy z => absurd (tg _ (pm y hy)) (by rw [z]; exact Nat.lt_asymm (Nat.lt_of_lt_of_le hb bS))]
        exact e)) ok2
      exact ⟨.ref h'.objs.size, _, I2, rfl, q Ts h'.objs.size tl2 tn tf sf sn⟩
def zipT (es fs : List Dt) : List Dt := List.zipWith (fun x y => PyData.tuple [x, y]) es fs
theorem dz_pairs {K : Fg} {G2 : Hp} : ∀ {Ts : List Addr} {xs ys : List V} {es fs : List Dt}, Ts.length = xs.length → DzAll K G2 xs es → DzAll K G2 ys fs → xs.length = ys.length → (∀ q ∈ pairsT Ts xs ys, G2 q.1 = some (.tup [q.2.1, q.2.2])) → DzAll K G2 (Ts.map V.ref) (zipT es fs)
  | [], [], [], _, _, _, hx, hy, _, _ => by
    cases hx
    cases hy
    exact .nil
  | T :: Ts, x :: xs, y :: ys, _, _, hl, hx, hy, hxy, hg => by
    cases hx with
    | cons x1 x2 => cases hy with
      | cons y1 y2 =>
        refine .cons (.tup (.inl (.inl (hg (T, (x, y)) (List.mem_cons_self ..)))) (.cons x1 (.cons y1 .nil))) (dz_pairs (by simpa using hl) x2 y2 (by simpa using hxy) fun q hq => hg q (List.mem_cons_of_mem _ hq))
  | [], _ :: _, _, _, _, hl, _, _, _, _ => by simp at hl
  | _ :: _, [], _, _, _, hl, _, _, _, _ => by simp at hl
  | [], [], _ :: _, _, _, _, _, _, hxy, _ => by simp at hxy
  | _ :: _, _ :: _, [], _, _, _, _, _, hxy, _ => by simp at hxy
section
variable {X : Cx} {a b : Expr} {δ : De} {p pos p3 p4 : Pos} {R : Dt → Prop}
theorem o_listZip {S0 : List Dt → Prop} (h : XA X [a, b] δ fun ds => ∃ es fs, ds = [.list es, .list fs] ∧ es.length = fs.length ∧ S0 (zipT es fs)) (F : Free X.mg := by assumption) (hz : X.mg "zip" = none := by assumption) (hc : X.calm = true := by rfl) (hg : Gl X "list" := by rfl) (hg2 : Gl X "zip" := by rfl)
    (hs : starEach [a, b] X.env = (false, eval a X.env) :: starEach [b] X.env := by rfl) (hpl : (backTo p4 (starEach [b] X.env)).any (·.1) = false := by rfl)
    (na : starEach [.Call (.Name "zip" p3) [a, b] [] p4] X.env = (false, eval (.Call (.Name "zip" p3) [a, b] [] p4) X.env) :: starEach [] X.env := by rfl) :
    XO X (.Call (.Name "list" p) [.Call (.Name "zip" p3) [a, b] [] p4] [] pos) δ S0 :=
  PE.imp (pe_listZip hc hg (F "list" (by decide +kernel)) hg2 hz h.pa hs hpl na) fun σ H Q ⟨p, B, G, i3, en, q⟩ => ⟨p, B, G, i3, en, fun vs ds G' H' ⟨es, fs, e, hl, k⟩ n hv => by
    subst e
    cases hv with
    | cons v1 hv => cases hv with
      | cons v2 hv =>
        cases hv
        cases v1 with
        | lst s1 a1 => cases v2 with
          | lst s2 a2 =>
            rename_i aa1 xs1 aa2 ys1
            have i' := i3.nxt n
            have l1 := dpAll_length a1
            have l2 := dpAll_length a2
            have hxy := (l1.trans hl).trans l2.symm
            refine ⟨_, _, _, _, rfl, exl i'.gh s1, exl i'.gh s2, hxy, fun Ts S tl tn tf sf sn => ?_⟩
            have pf := pairs_fst tl hxy
            have pm : ∀ y ∈ pairsT Ts xs1 ys1, y.1 ∈ Ts := fun y hy => by rw [← pf]; exact List.mem_map_of_mem (f := fun q : Addr × (V × V) => q.1) hy
            have pn := pf ▸ tn
            have n2 : Nxt p G' H' (putT G' (pairsT Ts xs1 ys1)) (putT H' (pairsT Ts xs1 ys1)) := putT_nxt i' pn fun y hy => tf _ (pm y hy)
            have i2 := i'.nxt n2
            have sE : putT H' (pairsT Ts xs1 ys1) S = none := by
              rw [putT_ne fun y hy e => sn (by rw [← e]; exact pm y hy)]; exact sf
            have n3 := Nxt.newH i2 (.lst (Ts.map V.ref)) sE
            have ex : Ex G' (putT G' (pairsT Ts xs1 ys1)) := n2.st.1
            exact q S _ _ _ _ k (n.trans (n2.trans n3)) (back_none n sf) (i2.gh.free sE) (pot_ne i2 sE) upd_same (dz_pairs tl (dpAll_ex ex _ _ a1) (dpAll_ex ex _ _ a2) hxy fun y hy => putT_at pn hy)⟩
end
end Dv

set_option linter.all false
set_option maxRecDepth 100000
set_option maxHeartbeats 4000000
namespace Dv
open PySem PySem.Spec PyProof.Rows L2 RZ
variable [Tbl]
/-! `for x in [e1, e2]: if c: ..; x.append(None)`, e1, e2 new lists -/
section
variable {X : Cx} {δ δ2 : De} {o : Out} {i : Nat} {x : Str}
def rB (K : Fg) (δ : De) (i : Nat) : TS := fun D σ H => ∃ p B G0 H0 σ0 G a xs ds, I3 p B G0 H0 ∧ EnvD K p B G0 H0 σ0 δ ∧ Nxt p G0 H0 G H ∧ H0 a = none ∧ G a = none ∧ H a = some (.lst xs) ∧ DzAll K G xs ds ∧ ds.length ≤ 10000 ∧ σ = σ0.set i (some (.ref a)) ∧
  ∀ G' H', Nxt p G H G' H' → H' a = some (.lst xs) → G' a = none → D.nx σ (upd H' a (.lst (xs ++ [.non])))
theorem body_app {c : Expr} {bod : List Stmt} {np apos cpos pos1 pos2 kp : Pos} {kk : Nat} (hi : Nx X.N x i) (hlt : i < δ.length) (hc : ∀ ds, XT X c (δ.set i (.own ds)) fun k => k = false)
    (hv : Vis X.env.scope x) (hd : (x == ("__debug__" : Str)) = false) (hcd : (x == ("__classdict__" : Str)) = false)
    (hbase : attributeBase (.Name x np) "append" X.env (eval (.Name x np) X.env) = eval (.Name x np) X.env)
    (hfew : ((backTo cpos (starEach [.Constant .none kk kp] X.env)).all (fun x => !x.1) && (backToKw cpos (keywordEach [] X.env)).all (fun x => x.1.isSome) && decide (([.Constant .none kk kp] : List Expr).length + ([] : List Keyword).length + (if ([] : List Keyword).isEmpty then 0 else 1) < 30)) = true)
    (hline : (apos.endLine == cpos.line) = true) (hst : starEach [.Constant .none kk kp] X.env = [(false, eval (.Constant .none kk kp) X.env)]) (hsw : swapsWith (.Call (.Attribute (.Name x np) "append" apos) [.Constant .none kk kp] [] cpos) none pos2.line X.env = pure false) :
    PSs X [.If c bod [] pos1, .Expr (.Call (.Attribute (.Name x np) "append" apos) [.Constant .none kk kp] [] cpos) pos2] (rB X.K δ i) := by
  have z1 : PSs X bod (fun _ _ _ => False) := ⟨fun pins s σ H D I h => h.elim⟩
  have hc2 : PT X c (fun σ H Q => ∃ ds, True ∧ rT X.K (δ.set i (.own ds)) (fun k => k = false) σ H Q) := pt_many fun ds _ => hc ds
  refine PSs.imp (pss_cons (ps_if hc2 z1 pss_nil) (pss_one (ps_expr (pe_bm PySem.F.plainAttrs_list PySem.F.slot_list_append PySem.F.type_list_append mt_append (pe_var hi.eq hv hd hcd) (pa_cons pe_non pa_nil (by rw [hst]; rfl)) hbase hfew hline hst rfl) hsw))) fun D σ H ⟨p, B, G0, H0, σ0, G, a, xs, ds, i3, en, n, a0, ga, ha, da, hl, e, q⟩ => ?_
  have pl : p ≠ some a := pot_ne i3 a0
  subst e
  refine ⟨ds, trivial, p, B, G, i3.nxt n, en.putOwn i3 n a0 ga pl ha da i, fun k G2 H2 hk n2 => ?_⟩
  subst hk
  have ha2 : H2 a = some (.lst xs) := n2.ex _ _ (by rw [del_ne pl]; exact ha) (fun _ z => by cases z)
  have ga2 : G2 a = none := n2.st.2 a (nn ha) ga
  refine iteF ⟨.ref a, ?_, .inl ⟨rfl, xs, .inl (.inl ha2)⟩, ?_⟩
  · rw [List.getElem?_set_self (by rw [en.len]; exact hlt)]
  · refine ⟨a, xs, .non, rfl, rfl, ha2, ?_, q G2 H2 n2 ha2 ga2⟩
    rw [dpAll_length da]; exact Nat.lt_of_le_of_lt hl (by decide)
theorem nxt_app {p : Option Addr} {B G0 H0 G H : Hp} {a : Addr} {u : HO} {xs : List V} (i3 : I3 p B G0 H0) (n : Nxt p G0 H0 G H) (a0 : H0 a = none) (g : G a = none) (ha : H a = some (.lst xs)) : Nxt p G0 H0 G (upd H a u) := n.put a0 g ha (pot_ne i3 a0)
theorem s_forNew2 {e1 e2 c : Expr} {bod rest : List Stmt} {ds1 ds2 : List Dt} {tp lp np apos cpos pos pos1 pos2 kp : Pos} {kk : Nat} (hi : Nx X.N x i) (hG : SetR δ i .no δ2) (h1 : XO X e1 δ fun y => y = ds1) (h2 : XO X e2 δ fun y => y = ds2) (hc : ∀ ds, XT X c (δ.set i (.own ds)) fun k => k = false) (hl1 : ds1.length ≤ 10000) (hl2 : ds2.length ≤ 10000) (k : SsD X rest δ2 o)
    (hN : X.N.Nodup := by assumption) (hx : Loc X.env.scope x := by first | exact Or.inl rfl | exact Or.inr rfl) (hf : X.fn x = true ∨ X.env.scope.names.lookup x = some .local := by first | exact .inl rfl | exact .inr rfl | assumption)
    (hp : PassesOwn (model X.prog X.w) X.A X.env X.xe := by exact PassesOwn.never) (hcalm : X.calm = true := by rfl) (hs : ∀ y, foldedSetIterable (.List [e1, e2] lp) X.env y = pure y := by intro _; rfl)
    (hst1 : starEach [e1, e2] X.env = (false, eval e1 X.env) :: starEach [e2] X.env := by rfl) (hst2 : starEach [e2] X.env = (false, eval e2 X.env) :: starEach [] X.env := by rfl)
    (hv : Vis X.env.scope x := by first | exact Or.inl rfl | exact Or.inr (Or.inl rfl) | exact Or.inr (Or.inr rfl)) (hd : (x == ("__debug__" : Str)) = false := by decide) (hcd : (x == ("__classdict__" : Str)) = false := by decide)
    (hbase : attributeBase (.Name x np) "append" X.env (eval (.Name x np) X.env) = eval (.Name x np) X.env := by rfl)
    (hfew : ((backTo cpos (starEach [.Constant .none kk kp] X.env)).all (fun x => !x.1) && (backToKw cpos (keywordEach [] X.env)).all (fun x => x.1.isSome) && decide (([.Constant .none kk kp] : List Expr).length + ([] : List Keyword).length + (if ([] : List Keyword).isEmpty then 0 else 1) < 30)) = true := by rfl)
    (hline : (apos.endLine == cpos.line) = true := by rfl) (hst : starEach [.Constant .none kk kp] X.env = [(false, eval (.Constant .none kk kp) X.env)] := by rfl) (hsw : swapsWith (.Call (.Attribute (.Name x np) "append" apos) [.Constant .none kk kp] [] cpos) none pos2.line X.env = pure false := by rfl) :
    SsD X (.For (.Name x tp) (.List [e1, e2] lp) [.If c bod [] pos1, .Expr (.Call (.Attribute (.Name x np) "append" apos) [.Constant .none kk kp] [] cpos) pos2] [] pos :: rest) δ o := by
  have hb := body_app (bod := bod) (pos1 := pos1) hi hG.lt hc hv hd hcd hbase hfew hline hst hsw
  refine PSs.imp (pss_cons (ps_for hp hcalm (pi_list (pe_lst (pa_cons h1 (pa_cons h2 pa_nil hst2) hst1))) (pg_name hN hi.eq hx hf) hb (hs := hs)) k) fun D σ H ⟨p, B, G, i3, en, q⟩ => ⟨p, B, G, i3, en, fun a1 xs1 es1 G1 H1 r1 n1 a10 g1 pl1 hla1 da1 => ⟨p, B, G1, i3.nxt n1, en.nxt n1, fun a2 xs2 es2 G2 H2 r2 n2 a21 g2 pl2 hla2 da2 => ?_⟩⟩
  subst r1
  subst r2
  refine ⟨by show 2 ≤ _; decide, fun l hl => ?_⟩
  have n12 := n1.trans n2
  have g12 : G2 a1 = none := n2.st.2 a1 (nn hla1) g1
  have hla12 : H2 a1 = some (.lst xs1) := n2.ex _ _ (by rw [del_ne pl1]; exact hla1) (fun _ z => by cases z)
  have a20 : H a2 = none := back_none n1 a21
  have i32 := i3.nxt n12
  have l0 : H l = none := back_none n12 hl
  have gl : G2 l = none := i32.gh.free hl
  have n3 : Nxt p G2 H2 G2 (upd H2 l (.lst [.ref a1, .ref a2])) := .newH i32 _ hl
  have ne1 : a1 ≠ l := fun z => by rw [z, hl] at hla12; cases hla12
  have ne2 : a2 ≠ l := fun z => by rw [z, hl] at hla2; cases hla2
  have ne12 : a1 ≠ a2 := fun z => by rw [z, a21] at hla1; cases hla1
  have n13 := n12.trans n3
  refine ⟨l, rfl, ⟨_, .inl (.inl upd_same)⟩, for_list (xs := [.ref a1, .ref a2]) (fun j σ' H' => ∃ G', Nxt p G H G' H' ∧ G' a1 = none ∧ G' a2 = none ∧ G' l = none ∧ H' l = some (.lst [.ref a1, .ref a2]) ∧ DzAll X.K G' xs1 es1 ∧ DzAll X.K G' xs2 es2 ∧ (j = 0 → H' a1 = some (.lst xs1)) ∧ (∃ w, H' a1 = some (.lst w)) ∧ (j ≤ 1 → H' a2 = some (.lst xs2)) ∧ (j = 0 → σ' = σ) ∧ (1 ≤ j → ∃ u, σ' = σ.set i u)) ?_ ?_ ?_ ?_⟩
  · exact ⟨G2, n13, g12, g2, gl, upd_same, dpAll_ex n2.st.1 _ _ da1, da2, fun _ => (upd_ne ne1).trans hla12, ⟨_, (upd_ne ne1).trans hla12⟩, fun _ => (upd_ne ne2).trans hla2, fun _ => rfl, fun h => absurd h (by decide)⟩
  · intro j σ' H' _ ⟨G', n, _, _, _, h, _⟩
    exact .inl (.inl h)
  · intro j y σ' H' hy ⟨G', n, b1, b2, b3, b4, b5, b6, b7, ⟨w1, bw⟩, b8, b9, b10⟩
    have ps : ∀ u, σ'.set i (some u) = σ.set i (some u) := fun u => by
      by_cases hj : j = 0
      · rw [b9 hj]
      · obtain ⟨v, e⟩ := b10 (by omega)
        rw [e, List.set_set]
    have pl0 : p ≠ some l := pot_ne i3 l0
    have pa1 : p ≠ some a1 := pot_ne i3 a10
    have pa2 : p ≠ some a2 := pot_ne i3 a20
    match j, hy with
    | 0, hy =>
      cases hy
      refine ⟨p, B, G, H, σ, G', a1, xs1, es1, i3, en, n, a10, b1, b7 rfl, b5, hl1, ps _, fun G3 H3 n4 ha3 ga3 => ⟨G3, nxt_app i3 (n.trans n4) a10 ga3 ha3, ga3, n4.st.2 a2 (nn (b8 (by omega))) b2, n4.st.2 l (nn b4) b3, ?_, dpAll_ex n4.st.1 _ _ b5, dpAll_ex n4.st.1 _ _ b6, fun z => absurd z (by decide), ⟨_, upd_same⟩, fun _ => ?_, fun z => absurd z (by decide), fun _ => ⟨_, ps _⟩⟩⟩
      · rw [upd_ne (Ne.symm ne1)]; exact n4.ex _ _ (by rw [del_ne pl0]; exact b4) (fun _ z => by cases z)
      · rw [upd_ne (Ne.symm ne12)]; exact n4.ex _ _ (by rw [del_ne pa2]; exact b8 (by omega)) (fun _ z => by cases z)
    | 1, hy =>
      cases hy
      refine ⟨p, B, G, H, σ, G', a2, xs2, es2, i3, en, n, a20, b2, b8 (Nat.le_refl _), b6, hl2, ps _, fun G3 H3 n4 ha3 ga3 => ⟨G3, nxt_app i3 (n.trans n4) a20 ga3 ha3, ?_, ga3, n4.st.2 l (nn b4) b3, ?_, dpAll_ex n4.st.1 _ _ b5, dpAll_ex n4.st.1 _ _ b6, fun z => absurd z (by omega), ⟨w1, ?_⟩, fun z => absurd z (by omega), fun z => absurd z (by omega), fun _ => ⟨_, ps _⟩⟩⟩
      · exact n4.st.2 a1 (nn bw) b1
      · rw [upd_ne (Ne.symm ne2)]; exact n4.ex _ _ (by rw [del_ne pl0]; exact b4) (fun _ z => by cases z)
      · rw [upd_ne ne12]; exact n4.ex _ _ (by rw [del_ne pa1]; exact bw) (fun _ z => by cases z)
    | _ + 2, hy => cases hy
  · intro σ' H' ⟨G', n, b1, b2, b3, b4, b5, b6, b7, ⟨w1, bw⟩, b8, b9, b10⟩
    obtain ⟨u, e⟩ := b10 (by show 1 ≤ 2; decide)
    subst e
    have nf : Nxt p G H G H' := ⟨.refl _ _, n.ex, fun b w h => n.gh b w (n.st.1 b w h), n.pot, n.dom, n.tb⟩
    refine ⟨p, B, G, i3.nxt nf, ?_, q⟩
    have e3 := (en.nxt nf).put (i := i) (o := u) (en := .no) trivial fun b f => by rcases f with ⟨z, _⟩ | z <;> cases z
    rw [hG.eq] at e3
    exact e3
end
end Dv

set_option linter.all false
set_option maxRecDepth 100000
set_option maxHeartbeats 4000000
namespace Dv
open PySem PySem.Spec PyProof.Rows L2 RZ
variable [Tbl]
open Sem (wp)
/-! sorted(set(xs)), xs a list of ints -/
section
variable {P : Program} {w : World} {A : Around} {E : Value → Shared → Prop} {s : Shared}
abbrev newSet (w : World) : Obj := { cls := .type "set", dict := none, data := .set #[] 0 (.fresh 0 0 (!w.params.followText "set-order")) }
theorem set_init {R : Result → Shared → Prop} {S l : Addr} {items : Array Value} (ns : List Int) (hh : A.in1.handled = none) (hS : s.heap.get? S = some (newSet w)) (hl : s.heap.IsList l items) (hlS : l ≠ S) (hit : IntsAre items.toList ns) (hb : ns.length + 1 < scanBound)
    (hR : ∀ (h' : Heap) (tk c : Nat), L2.SetR w h' S (fun j => decide (j ∈ ns)) c → c ≤ ns.length → (∀ b o, b ≠ S → s.heap.get? b = some o → h'.get? b = some o) → R (.ok (.ret .none)) { s with heap := h', toks := tk }) :
    wpAny (model P w) A.in1 (Builtin.«set.__init__» ⟨[.ref S, .ref l], []⟩)
      (fun fin s' => match fin with | .done f => R (.ok f) s' | .again c' => c'.quiet = true ∧ codeAny (model P w) A c' R s') (fun e s' => R (.error e) s') s := by
  have hisz : items.size = ns.length := by
    have q := IntsAre.length hit
    rw [Array.length_toList] at q
    exact q
  have hSlt : S < s.heap.objs.size := Heap.lt_size hS
  obtain ⟨ol, hol, hcl, nl, hdl⟩ := hl
  obtain ⟨ocls, odict, odata, oslots⟩ := ol
  simp only at hcl hdl
  subst hcl; subst hdl
  have hl1 : s.heap.IsList l items := ⟨_, hol, rfl, nl, rfl⟩
  have hT : s.TypeIs (.ref S) "set" := ⟨_, hS, rfl⟩
  have hsls := F.sub_list_set
  have hslf := F.sub_list_frozenset
  have hne : (Value.type "list" == Value.type "dict") = false := by decide
  unfold Builtin.«set.__init__» noKeywords Builtin.Frozenset.updateFrom
  generalize hPI : pyIter = PI
  wp_walk
  subst hPI
  refine wpAny_pyIter_list hl1 ?_
  refine wpAny_bind (wpAny_runValue ?_)
  have hh3 : A.in1.in1.handled = none := by
    have : A.handled = none := by simpa using hh
    simp [this]
  have hneI : l ≠ s.heap.objs.size := Nat.ne_of_lt (Heap.lt_size hol)
  have hSf : S ∉ [s.heap.objs.size, l] := by
    simp only [List.mem_cons, List.mem_singleton, List.not_mem_nil, or_false, not_or]
    exact ⟨Nat.ne_of_lt hSlt, Ne.symm hlS⟩
  have hval : ∀ (i : Nat) (v : Value), items[i]? = some v → ∃ k t, ns[i]? = some k ∧ v = .int k t := fun i v hv => by
    have hi : i < ns.length := by rw [← hisz]; exact (Array.getElem?_eq_some_iff.mp hv).1
    obtain ⟨t, e⟩ := PyProof.Rows.IntsAre.int_at hit i v (by rw [Array.getElem?_toList]; exact hv)
    refine ⟨ns[i], t, List.getElem?_eq_getElem hi, ?_⟩
    rw [e, List.getD_eq_getElem?_getD, List.getElem?_eq_getElem hi]; rfl
  have hget : (s.heap.push { cls := .type "list_iterator", data := .fields #[.ref l, .int 0 0] }).get? S = some (newSet w) := Heap.get?_push_of_some _ hS
  refine L2.set_update_ints ((Walks.list hh3 _ l hneI items).toS) S hSf ns hisz hb hval (items.size - 0) 0 { s with heap := s.heap.push { cls := .type "list_iterator", data := .fields #[.ref l, .int 0 0] } } (by omega) (Nat.zero_le _)
    ⟨⟨_, Heap.get?_push_size _ rfl, rfl, rfl⟩, (hl1.push _)⟩ ?hS0 ?hR
  case hS0 => exact ⟨0, Nat.le_refl 0, L2.setR_new_at (w := w) hget⟩
  case hR =>
   intro s' c' hm hc' hS'
   obtain ⟨h', g2, d', tk', os'⟩ := s'
   have eg : g2 = s.gens := hm.gens
   have ed : d' = s.drawn := hm.drawn
   have eo : os' = s.os := hm.os
   subst eg; subst ed; subst eo
   show wpAny _ _ _ _ _ _
   refine wpAny_pure ?_
   show wpAny _ _ (ret Value.none) _ _ _
   rw [hisz] at hc'
   refine wpAny_pure (hR h' tk' c' hS' hc' fun b o hbS e => ?_)
   have hb2 : b ≠ s.heap.objs.size := Nat.ne_of_lt (Heap.lt_size e)
   exact hm.heap b o (by simp only [List.mem_cons, List.mem_singleton, List.not_mem_nil, or_false, not_or]; exact ⟨hbS, hb2⟩) (Heap.get?_push_of_some _ e)
theorem call_set_listI {l : Addr} {items : Array Value} (ns : List Int) {Q : Value → Shared → Prop} (hh : A.handled = none) (hl : s.heap.IsList l items) (hit : IntsAre items.toList ns) (hb : ns.length + 1 < scanBound)
    (h : ∀ (h' : Heap) (tk c : Nat), L2.SetR w h' s.heap.objs.size (fun j => decide (j ∈ ns)) c → c ≤ ns.length → (∀ b o, s.heap.get? b = some o → h'.get? b = some o) → Q (.ref s.heap.objs.size) { s with heap := h', toks := tk }) :
    wpAny (model P w) A (call (.type "set") [.ref l]) Q E s := by
  obtain ⟨c, tl, hmro⟩ := F.called_set.mro
  have hmade := F.called_set.made
  have hsub := F.called_set.sub
  refine wpAny_call (codeAny_of_tree ?_)
  show wpAny _ _ (callAny (.type "set") _) _ _ _
  refine wpAny_pure ⟨Code.quiet_builtin _ (by decide +kernel), codeAny_builtin F.entry_type_call ?_⟩
  rw [Around.under_plain (weight_type_call_type "set" [.ref l] []) rfl]
  have h1 := F.called_set.notType
  have h2 := F.called_set.canCreate
  have hct := F.typeCall_set_1 (.ref l)
  repeat (any_goals (first | assumption | wp_step))
  refine codeAny_mono (L2.code_set_led1 (.ref l) (E := E) (Q₁ := fun obj s₁ => obj = .ref s.heap.objs.size ∧ s₁ = { s with heap := s.heap.push (newSet w) }) ⟨rfl, rfl⟩) fun r s₁ hr => ?_
  cases r with
  | error e => exact hr
  | ok fl =>
    cases fl with
    | ret obj =>
      obtain ⟨rfl, rfl⟩ := hr
      have hS : (s.heap.push (newSet w)).get? s.heap.objs.size = some (newSet w) := Heap.get?_push_size _ rfl
      have hT : Shared.TypeIs { s with heap := s.heap.push (newSet w) } (.ref s.heap.objs.size) "set" := ⟨_, hS, rfl⟩
      have hli := F.called_set.init.lookup
      have hbi := F.called_set.init.bind (.ref s.heap.objs.size)
      repeat (any_goals (first | assumption | wp_step))
      refine codeAny_mono (codeAny_call_builtin (R := wants (fun r s₂ => r = .none ∧ Q (.ref s.heap.objs.size) s₂) E) F.called_set.init.plain F.entry_set_init (PySem.check_set_init_1 hT
        (set_init (A := A.in1) (s := { s with heap := s.heap.push (newSet w) }) ns (by simpa using hh) hS (hl.push _) (Nat.ne_of_lt (let ⟨_, e, _⟩ := hl; Heap.lt_size e)) hit hb fun h' tk c hR hc hk => ⟨rfl, h h' tk c hR hc fun b o e => hk b o (Nat.ne_of_lt (Heap.lt_size e)) (Heap.get?_push_of_some _ e)⟩))) fun r₂ s₂ hr₂ => ?_
      cases r₂ with
      | error e => exact hr₂
      | ok fl₂ =>
        cases fl₂ with
        | ret r =>
          obtain ⟨rfl, hq⟩ := hr₂
          repeat (any_goals (first | assumption | wp_step))
        | _ => exact hr₂.elim
    | _ => exact hr.elim
end
section
variable {X : Cx} {e : Expr} {δ : De} {p p2 q pos : Pos} {R : Dt → Prop}
def rSetL (K : Fg) (w : World) : List V → Hp → VK → Prop := fun vs H Q => ∃ (a : Addr) (ns : List Int), vs = [V.ref a] ∧ SqL K H a (ns.map V.int) ∧ ns.length < 60 ∧ ∀ (p : Addr) (c : Nat), c ≤ ns.length → H p = none → Q (.ref p) (upd H p (SetO w p (fun j => decide (j ∈ ns)) c))
theorem cr_setL (hc : X.calm = true) : CallR X (.type "set") (rSetL X.K X.w) := by
  intro pins s σ H vs us Q I r h
  obtain ⟨a, ns, rfl, hs, hl, q⟩ := h
  obtain ⟨its, rv, pl, hz⟩ := I.list hs
  rw [Vals.ref1 r]
  refine call_set_listI ns (I.ok.hd hc) pl.isList (by simpa using rv.ints) (by unfold scanBound; omega) fun h' tk c R1 hcn k => ?_
  exact ⟨.ref s.heap.objs.size, _, I.laid (t' := tk) k (Nat.le_refl _) (setO_new R1), rfl, q _ c hcn (I.hok.fresh (Nat.le_refl _))⟩
theorem c_sortedSet (h : XD X e δ fun d => ∃ ns : List Int, d = .list (ns.map PyData.int) ∧ ns.length < 60 ∧ ∀ ms : List Int, ms.Pairwise (· < ·) → (∀ k : Int, k ∈ ms ↔ k ∈ ns) → ms.length ≤ ns.length → R (.list (ms.map PyData.int))) (F : Free X.mg := by assumption) (hc : X.calm = true := by rfl) (hg : Gl X "sorted" := by rfl) (hg2 : Gl X "set" := by rfl)
    (hs : starEach [e] X.env = (false, eval e X.env) :: starEach [] X.env := by rfl) (hs2 : starEach [.Call (.Name "set" p2) [e] [] q] X.env = (false, eval (.Call (.Name "set" p2) [e] [] q) X.env) :: starEach [] X.env := by rfl) :
    XD X (.Call (.Name "sorted" p) [.Call (.Name "set" p2) [e] [] q] [] pos) δ R :=
  PE.imp (pe_callB (cr_sortedSet hc) hg (F "sorted" (by decide +kernel)) (by decide +kernel) (pa_cons (pe_callTy (cr_setL hc) hg2 (F "set" (by decide +kernel)) (by decide +kernel) (pa_cons h pa_nil hs) (he := hs)) pa_nil hs2) (he := hs2)) fun σ H Q ⟨p, B, G, i3, en, q⟩ => ⟨p, B, G, i3, en, fun v d G' H' ⟨ns, e1, hl, k⟩ n hv => by
    subst e1
    cases hv with
    | lst s1 a1 =>
      have ea := dpAll_ints a1
      subst ea
      have i' := i3.nxt n
      refine ⟨_, ns, rfl, exl i'.gh s1, hl, fun x c hcn hx => ⟨x, _, c, rfl, upd_same, by omega, fun ms y hpw hmem hml hy => ?_⟩⟩
      have n2 := Nxt.newH i' (SetO X.w x (fun j => decide (j ∈ ns)) c) hx
      have i2 := i'.nxt n2
      have n3 := Nxt.new i2 (.lst (ms.map V.int)) hy
      exact q _ _ _ _ (k ms hpw (fun j => by rw [hmem j, decide_eq_true_eq]) (by omega)) (n.trans (n2.trans n3)) (.lst (.inl (.inl upd_same)) (dpAll_of_ints _))⟩
end
end Dv

set_option linter.all false
set_option maxRecDepth 100000
set_option maxHeartbeats 4000000
namespace Dv
open PySem PySem.Spec PyProof.Rows L2 RZ
variable [Tbl]
section
variable {X : Cx} {x : Dt} {ds : List Dt} {S : Bool → Prop}
theorem cp_inD (hu : X.A.units + 65 < cLine) (hx : SeqAt.shaped x = true) (hy : SeqAt.shaped (.list ds) = true) (k : S (ds.any fun z => PyData.eqv z x)) : CmpP X .In x (.list ds) S := ⟨_, op_inD hu, by
  intro p B G H v w i3 h1 h2 Q q
  exact ⟨_, _, dz_dp _ _ (nds hx) (dp_ex i3.gh _ _ h1), dz_dp _ _ (nds hy) (dp_ex i3.gh _ _ h2), hx, hy, q _ _ G H ⟨_, rfl, k⟩ (.refl i3) (.bl _)⟩⟩
end
end Dv

set_option linter.all false
set_option maxRecDepth 100000
set_option maxHeartbeats 4000000
namespace Dv
open PySem PySem.Spec PyProof.Rows L2 RZ
variable [Tbl]
section
variable {X : Cx} {elt tg iter tg1 iter1 : Expr} {scope : Scope} {pos : Pos} {δ : De} {R : List Dt → Prop}
theorem flat_step {α β : Type} {xs : List α} {F : α → List β} {i : Nat} {x : α} (h : xs[i]? = some x) : (xs.take (i + 1)).flatMap F = (xs.take i).flatMap F ++ F x := by
  rw [take_succ' h, List.flatMap_append]
  simp
theorem flat_le {α β : Type} {xs : List α} {F : α → List β} {i : Nat} : ((xs.take i).flatMap F).length ≤ (xs.flatMap F).length := by
  conv => { rhs; rw [← List.take_append_drop i xs, List.flatMap_append, List.length_append] }
  omega
/-- [F x y for x in xs for y in ys x] -/
theorem xo_flat {α β : Type} (own : List (Str × Nat)) (vs1 : List Nat) (ok : BlkOk X.N X.env.scope scope own) (hi : XI X tg iter δ fun ds => ∃ (xs : List α) (enc : α → Dt) (ys : α → List β) (enc1 F : α → β → Dt), ds = xs.map enc ∧ xs.length ≤ 100000 ∧ (xs.flatMap fun x => (ys x).map (F x)).length ≤ 100000 ∧
      (∀ (i : Nat) x, xs[i]? = some x → ∃ δ2, (∀ s H C cl fp, TgD (bX X scope s H C cl fp) tg (own.map (·.2)) (enc x) (wipeD δ (own.map (·.2))) δ2) ∧ δ2.all En.plain = true ∧ (∀ s H C cl fp, XI (bX X scope s H C cl fp) tg1 iter1 δ2 fun l => l = (ys x).map (enc1 x)) ∧
        ∀ (j : Nat) y, (ys x)[j]? = some y → ∃ δ3, Turn2 X elt tg1 scope δ2 δ3 vs1 (enc1 x y) fun d => d = F x y) ∧ R (xs.flatMap fun x => (ys x).map (F x)))
    (hN : X.N.Nodup := by assumption) (hv : ∀ i ∈ vs1, i ∈ own.map (·.2) := by decide) (hc : X.calm = true := by rfl) (hs : ∀ x, foldedSetIterable iter X.env x = pure x := by intro _; rfl) (hs1 : ∀ env x, foldedSetIterable iter1 env x = pure x := by intro _ _; rfl) : XO X (.ListComp elt [⟨tg, iter, [], 0⟩, ⟨tg1, iter1, [], 0⟩] scope pos) δ R := by
  refine xo_comp2 own vs1 ok (PI.imp hi fun σ H Q ⟨p, B, G, i3, en, q⟩ => ⟨p, B, G, i3, en, fun J ds G' H' ⟨xs, enc, ys, enc1, F, e, hl, ht, turn, fin⟩ => q J ds G' H' ⟨by rw [e, List.length_map]; exact hl, fun i out => out = (xs.take i).flatMap fun x => (ys x).map (F x), by simp, fun i d out hd iv => ?_, fun out iv => ?_⟩⟩) hN hv hc hs hs1
  · subst e
    obtain ⟨x, hx, rfl⟩ : ∃ x, xs[i]? = some x ∧ enc x = d := by
      rw [List.getElem?_map] at hd
      cases z : xs[i]? with
      | none => rw [z] at hd; cases hd
      | some x => rw [z] at hd; cases hd; exact ⟨x, rfl, rfl⟩
    obtain ⟨δ2, t1, t2, t3, t4⟩ := turn i x hx
    have hst := flat_step (F := fun x => (ys x).map (F x)) hx
    have hle : ((xs.take (i + 1)).flatMap fun x => (ys x).map (F x)).length ≤ 100000 := Nat.le_trans flat_le ht
    rw [hst, List.length_append, List.length_map] at hle
    refine ⟨δ2, _, t1, t2, t3, fun j out1 => out1 = out ++ ((ys x).take j).map (F x), by simp, fun j d1 out1 hd1 jv => ?_, fun out1 jv => ?_⟩
    · obtain ⟨y, hy, rfl⟩ : ∃ y, (ys x)[j]? = some y ∧ enc1 x y = d1 := by
        rw [List.getElem?_map] at hd1
        cases z : (ys x)[j]? with
        | none => rw [z] at hd1; cases hd1
        | some y => rw [z] at hd1; cases hd1; exact ⟨y, rfl, rfl⟩
      obtain ⟨δ3, u⟩ := t4 j y hy
      have hj := (List.getElem?_eq_some_iff.mp hy).1
      refine ⟨?_, δ3, ⟨u.g, fun s H C cl fp => (u.e s H C cl fp).mono fun d hd => ?_⟩⟩
      · rw [jv, iv, List.length_append, List.length_map, List.length_take]; omega
      · show out1 ++ [d] = out ++ ((ys x).take (j + 1)).map (F x)
        rw [jv, hd, take_succ' hy, List.map_append, List.append_assoc]; rfl
    · rw [List.length_map] at jv
      rw [jv, List.take_length, iv, hst]
  · subst e
    rw [iv, List.length_map, List.take_length]; exact fin
end
end Dv

set_option linter.all false
set_option maxRecDepth 100000
set_option maxHeartbeats 4000000
namespace Dv
open PySem PySem.Spec PyProof.Rows L2 RZ
variable [Tbl]
section
variable {X : Cx} {a b c : Expr} {rest : List Stmt} {δ : De} {o : Out} {pos : Pos} {R S : List Dt → Prop} {U : Dt → Prop}
/-- x, y, z = [..], [..], e : two new lists and data -/
theorem s_threeOOD {x y z : Str} {i j l : Nat} {px py pz pt : Pos} {kt k2 pt2} {F : List Dt → De} {G : List Dt → List Dt → De} {L : List Dt → List Dt → Dt → De} (hi : Nx X.N x i) (hj : Nx X.N y j) (hl : Nx X.N z l) (hF : ∀ d, SetR δ i (.own d) (F d)) (hG : ∀ d d2, SetR (F d) j (.own d2) (G d d2)) (hL : ∀ d d2 d3, SetR (G d d2) l (.d d3) (L d d2 d3))
    (ha : XO X a δ R) (hb : XO X b δ S) (hcc : XD X c δ U) (k : ∀ d d2 d3, R d → S d2 → U d3 → SsD X rest (L d d2 d3) o)
    (hij : i ≠ j := by decide) (hil : i ≠ l := by decide) (hjl : j ≠ l := by decide) (hN : X.N.Nodup := by assumption) (hc : X.calm = true := by rfl) (hx : X.env.scope.names.lookup x = some .local := by rfl) (hy : X.env.scope.names.lookup y = some .local := by rfl) (hz : X.env.scope.names.lookup z = some .local := by rfl)
    (hw : swappedStores [.Tuple [.Name x px, .Name y py, .Name z pz] kt pt] (.Tuple [a, b, c] k2 pt2) X.env = pure (some [x, y, z]) := by rfl) (hs : swapsWithSole [.Tuple [.Name x px, .Name y py, .Name z pz] kt pt] (.Tuple [a, b, c] k2 pt2) pos.line X.env = pure false := by rfl)
    (h1 : starEach [a, b, c] X.env = (false, eval a X.env) :: starEach [b, c] X.env := by rfl) (h2 : starEach [b, c] X.env = (false, eval b X.env) :: starEach [c] X.env := by rfl) (h3 : starEach [c] X.env = (false, eval c X.env) :: starEach [] X.env := by rfl) :
    SsD X (.Assign [.Tuple [.Name x px, .Name y py, .Name z pz] kt pt] (.Tuple [a, b, c] k2 pt2) pos :: rest) δ o := by
  refine ss_seq (N := fun δ' => SsD X rest δ' o) ?_ fun δ' h => h
  exact PS.imp (ps_par3 hc hN hi.eq hj.eq hl.eq hij hil hjl hx hy hz (pa_cons ha (pa_cons hb (pa_cons hcc pa_nil h3) h2) h1) hw hs) fun D σ H ⟨p, B, G0, i3, en, q⟩ => ⟨p, B, G0, i3, en, fun l1 xs ds G1 H1 r1 n1 h0 g pl hl1 ha1 => ⟨p, B, G1, i3.nxt n1, en.nxt n1, fun l2 xs2 ds2 G2 H2 r2 n2 h02 g2 pl2 hl2 ha2 => ⟨p, B, G2, (i3.nxt n1).nxt n2, (en.nxt n1).nxt n2, fun v3 d3 G3 H3 r3 n3 hv3 => by
    have i32 := (i3.nxt n1).nxt n2
    refine ⟨.ref l1, .ref l2, v3, rfl, q.nx _ _ G3 H3 (k ds ds2 d3 r1 r2 r3) (((n1.trans n2).trans n3).stepB i3) (i32.nxt n3) ?_⟩
    have e0 := en.putOwn i3 n1 h0 g pl hl1 ha1 i
    have e1 := e0.putOwn (i3.nxt n1) n2 h02 g2 pl2 hl2 ha2 j
    have e2 := (e1.nxt n3).set (i := l) hv3
    rw [(hF ds).eq, (hG ds ds2).eq, (hL ds ds2 d3).eq] at e2
    exact e2⟩⟩⟩
end
end Dv

set_option linter.all false
set_option maxRecDepth 100000
set_option maxHeartbeats 4000000
namespace Dv
open PySem PySem.Spec PyProof.Rows L2 RZ
variable [Tbl]
section
variable {X : Cx} {a b : Expr} {rest : List Stmt} {δ : De} {o : Out} {pos : Pos} {R : List Dt → Prop} {U : Dt → Prop}
/-- x, y = [..], e : a new list and data -/
theorem s_twoOD {x y : Str} {i j : Nat} {px py pt : Pos} {kt k2 pt2} {F : List Dt → De} {G : List Dt → Dt → De} (hi : Nx X.N x i) (hj : Nx X.N y j) (hF : ∀ d, SetR δ i (.own d) (F d)) (hG : ∀ d d2, SetR (F d) j (.d d2) (G d d2)) (ha : XO X a δ R) (hb : XD X b δ U) (k : ∀ d d2, R d → U d2 → SsD X rest (G d d2) o)
    (hij : i ≠ j := by decide) (hN : X.N.Nodup := by assumption) (hc : X.calm = true := by rfl) (hx : X.env.scope.names.lookup x = some .local := by rfl) (hy : X.env.scope.names.lookup y = some .local := by rfl)
    (hw : swappedStores [.Tuple [.Name x px, .Name y py] kt pt] (.Tuple [a, b] k2 pt2) X.env = pure (some [x, y]) := by rfl) (hs : swapsWithSole [.Tuple [.Name x px, .Name y py] kt pt] (.Tuple [a, b] k2 pt2) pos.line X.env = pure false := by rfl)
    (h1 : starEach [a, b] X.env = (false, eval a X.env) :: starEach [b] X.env := by rfl) (h2 : starEach [b] X.env = (false, eval b X.env) :: starEach [] X.env := by rfl) :
    SsD X (.Assign [.Tuple [.Name x px, .Name y py] kt pt] (.Tuple [a, b] k2 pt2) pos :: rest) δ o := by
  refine ss_seq (N := fun δ' => SsD X rest δ' o) ?_ fun δ' h => h
  exact PS.imp (ps_par hc hN hi.eq hj.eq hij hx hy (pa_cons ha (pa_cons hb pa_nil h2) h1) hw hs) fun D σ H ⟨p, B, G0, i3, en, q⟩ => ⟨p, B, G0, i3, en, fun l xs ds G1 H1 r1 n1 h0 g pl hl ha1 => ⟨p, B, G1, i3.nxt n1, en.nxt n1, fun v2 d2 G2 H2 r2 n2 hv2 => by
    refine ⟨.ref l, v2, rfl, q.nx _ _ G2 H2 (k ds d2 r1 r2) ((n1.trans n2).stepB i3) (i3.nxt (n1.trans n2)) ?_⟩
    have e0 := en.putOwn i3 n1 h0 g pl hl ha1 i
    have e1 := (e0.nxt n2).set (i := j) hv2
    rw [(hF ds).eq, (hG ds d2).eq] at e1
    exact e1⟩⟩
end
end Dv

set_option linter.all false
set_option maxRecDepth 100000
set_option maxHeartbeats 4000000
namespace Dv
open PySem PySem.Spec PyProof.Rows L2 RZ
variable [Tbl]
/-! try with several clauses that all name what they catch -/
abbrev HdT := Addr → Value → Option Addr → TS
inductive NmOk (Z : Cx) (nm : Str) : List ExceptHandler → List (Value × HdT) → Prop
  | nil : NmOk Z nm [] []
  | cons {cn : Str} {cv : Value} {us : HdT} {b1 : Stmt} {bs : List Stmt} {p1 p2 : Pos} {hs : List ExceptHandler} {cs : List (Value × HdT)} (h1 : Names Z cn cv)
      (h2 : ∀ (ad : Addr) (ob : Obj) (cl : Value) (dd : Option Addr) (qn : List (Addr × Obj)), Zc cl dd ob → (∃ fs, ob.data = .fields fs) → PSs (Z.suite ad ((ad, ob) :: qn)) (b1 :: bs) (us ad cl dd)) (h3 : NmOk Z nm hs cs) :
      NmOk Z nm (.ExceptHandler (some (.Name cn p1)) (some nm) (b1 :: bs) p2 :: hs) ((cv, us) :: cs)
def wNm (K : Fg) (j : Nat) (Wo : WX) (D : Ends) : List (Value × HdT) → WX
  | [] => Wo
  | (cv, us) :: r => wAs K cv j us (wNm K j Wo D r) D
section
variable {Z : Cx} {nm : Str} {j : Nat} {bod : List Stmt} {hd1 : ExceptHandler} {hdr : List ExceptHandler} {cs : List (Value × HdT)} {tp : Pos} {tb : WX → TS} {Wo : WX}
theorem ps_tryN (z1 : Z.stack = Z.env :: Z.outer) (z2 : Z.env.frame = some Z.env.locals) (z3 : Z.N.Nodup) (z4 : Z.N[j]? = some nm) (z5 : Z.env.kindOf nm = some .local) (z6 : Takes Z Wo)
    (z7 : ∀ (V : WX) (qn : List (Addr × Obj)) (xe : Value → Shared → Prop), Takes (Z.tr qn xe) V → PassesOwn (model Z.prog Z.w) Z.A Z.env xe → PSs (Z.tr qn xe) bod (tb V))
    (z8 : NmOk Z nm (hd1 :: hdr) cs) : PS Z (.Try bod (hd1 :: hdr) [] [] tp) (fun D σ H => tb (wNm Z.K j Wo D cs) D σ H) := by
  refine ⟨fun pins sh σ H D J0 hT => ?_⟩
  have okZ := J0.ok
  have frm : Z.A.frames = some (Z.env :: Z.outer) := by rw [okZ.frames, z1]
  refine wpAny_Try_except ?_
  have run := (z7 (wNm Z.K j Wo D cs) (Z.pn ++ pins) (fun ev t1 => wpAny (model Z.prog Z.w) Z.A (noteFrame ev Z.env) (fun _ t2 => wpAny (model Z.prog Z.w) Z.A (setFlight ev none) (fun _ t3 => wpAny (model Z.prog Z.w) Z.A (handleBy ev Z.env (hd1 :: hdr)) (SP Z pins D) Z.xe t3) Z.xe t2) Z.xe t1) ?tk PassesOwn.looking).run [] sh σ H D (J0.toTry _) hT
  case tk =>
    rintro u sE ⟨ad, Bn, sI, pinE, σE, HE, cl, dd, rfl, JE, nb, up, sky, na, os, ag, wh⟩
    have J1 : Inv Z pins σE HE sI := JE.ofTry okZ
    rw [z1] at sky
    show wpAny (model Z.prog Z.w) Z.A (noteFrame (.ref ad) Z.env) _ _ _
    refine Sky.land Zc.steady frm z2 sky fun hp3 f3 u3 => ?_
    have J3 : Inv Z pins σE HE { sE with heap := hp3 } := J1.landed nb f3.1 (up.trans u3) os ag
    obtain ⟨ob3, fs3, eo3, zo3, do3⟩ := f3.there
    have far : ad ∉ frs (Z.env :: Z.outer) := fun hm => by
      obtain ⟨_, o2, e2, nf⟩ := f3.2.2.1.mem hm
      rw [eo3] at e2
      cases e2
      exact nf _ do3
    have nLoc : ad ≠ Z.env.locals := fun e => far (List.mem_filterMap.mpr ⟨Z.env, List.mem_cons_self, by rw [z2, e]⟩)
    have nFs : ad ∉ Z.fs := fun hm => by
      obtain ⟨ev, he, q⟩ := List.mem_filterMap.mp hm
      exact far (List.mem_filterMap.mpr ⟨ev, List.mem_cons_of_mem _ he, q⟩)
    have S3 := J3.suite eo3 do3 na nLoc nFs
    have all : ∀ {l1 : List ExceptHandler} {l2 : List (Value × HdT)}, NmOk Z nm l1 l2 → wNm Z.K j Wo D l2 cl dd σE HE → wpAny (model Z.prog Z.w) Z.A (handleBy (.ref ad) Z.env l1) (SP Z pins D) Z.xe { sE with heap := hp3 } := by
      intro l1 l2 hk
      induction hk with
      | nil =>
        intro wz
        refine wpAny_handleBy_nil ?_
        obtain ⟨_, _, _, ob, fs, Tb, oTb, tsb, e1, e2, e3, e4, _⟩ := id f3
        unfold PySem.passOn
        refine wpAny_bind (wpAny_field e1 e3 e4 ?_)
        rw [if_neg (show ¬ ((Value.ref Tb == Value.none) = true) by simp)]
        have last : wpAny (model Z.prog Z.w) Z.A (setFlight (.ref ad) Z.env.frame) (fun _ t4 => wpAny (model Z.prog Z.w) Z.A (throw (.ref ad) : Sem Flow) (SP Z pins D) Z.xe t4) Z.xe { sE with heap := hp3 } := by
          rw [z2]
          refine HandSPX.setFlight_upZ f3 fun hp4 k4 u4 => wpAny_throw (z6 _ _ ?_)
          exact ⟨ad, Bn, sI, pins, σE, HE, cl, dd, rfl, J1, nb, (up.trans u3).trans u4, .inr (.inr (by rw [z1]; exact k4)), na, os, ag, wz⟩
        first
          | exact wpAny_bind (wpAny_pure (wpAny_bind last))
          | exact wpAny_bind last
      | @cons cn cv us b1 bs p1 p2 hs cs2 h1 h2 h3 ih =>
        rintro ⟨bb, hb1, hyes, hno⟩
        refine wpAny_handleBy_cons (codeAny_handlers_test ?_) (fun q => by cases q)
        have LT : PySem.W.Looks (model Z.prog Z.w) hp3 (typeOf (.ref ad)) cl := fun A Q E t k q => wpAny_typeOf_ref (k _ _ eo3) (by rw [zo3.1]; exact q)
        have LM := PySem.W.exm_one (M := model Z.prog Z.w) (J3.kIn) LT hb1
        have look : ∀ {Q : Value → Shared → Prop} {E : Value → Shared → Prop}, Q cv { sE with heap := hp3 } → wpAny (model Z.prog Z.w) (Z.A.mark (some (.ref ad))) (eval (.Name cn p1) Z.env) Q E { sE with heap := hp3 } := fun {Q E} q => by
          obtain ⟨hg, hdbg, hm | ⟨hm, hv, hnn⟩⟩ := h1
          · exact ld_glob (X := Z.suite ad ((ad, ob3) :: (Z.pn ++ pins))) S3 hg hm q hdbg
          · exact ld_blt (X := Z.suite ad ((ad, ob3) :: (Z.pn ++ pins))) S3 hg hm hv q hnn hdbg
        refine look (LM.here ?_)
        cases bb with
        | false =>
          show wpAny _ Z.A (handleBy (.ref ad) Z.env hs) _ _ _
          exact ih (hno rfl)
        | true =>
          refine (codeAny_handlers_suite_as (?_))
          refine HandSPX.lands_againZ f3 fun hp4 f4 u4 => ?_
          have J4 : Inv Z pins σE HE { sE with heap := hp4 } := J1.landed nb f4.1 ((up.trans u3).trans u4) os ag
          obtain ⟨ob4, fs4, eo4, zo4, do4⟩ := f4.there
          have S4 := J4.suite eo4 do4 na nLoc nFs
          refine store_ok (X := Z.suite ad ((ad, ob4) :: (Z.pn ++ pins))) (v := .ref ad) S4 z3 z4 (.inl z5) rfl (fun s5 S5 => ?_) (.inr z5)
          refine wpAny_mono ((h2 ad ob4 cl dd (Z.pn ++ pins) zo4 ⟨_, do4⟩).run [] s5 _ HE _ S5 (hyes rfl ad na)) (fun fl s6 hsp => ?_) (fun _ _ w => False.elim w)
          have gone : ∀ {σ6 : L2.St} {H6 : Hp} {Q : Shared → Prop}, Inv (Z.suite ad ((ad, ob4) :: (Z.pn ++ pins))) [] σ6 H6 s6 → (∀ s7, Inv Z pins (σ6.set j none) H6 s7 → Q s7) → wpAny (model Z.prog Z.w) Z.A (do bindName Z.env nm .none; unbindBehindTheSuite Z.env nm p2) (fun _ s7 => Q s7) Z.xe s6 := fun {σ6 H6 Q} S6 hq => gone_ok (S6.unsuite okZ) z3 z4 z5 hq
          cases fl with
          | next => exact let ⟨_, _, S6, q6⟩ := hsp; gone S6 fun s7 J7 => ⟨_, _, J7, q6⟩
          | brk => exact let ⟨_, _, S6, q6⟩ := hsp; gone S6 fun s7 J7 => ⟨_, _, J7, q6⟩
          | cont => exact let ⟨_, _, S6, q6⟩ := hsp; gone S6 fun s7 J7 => ⟨_, _, J7, q6⟩
          | ret u => exact let ⟨_, _, _, S6, r6, q6⟩ := hsp; gone S6 fun s7 J7 => ⟨_, _, _, J7, r6, q6⟩
    exact all z8 wh
  refine wpAny_mono run (fun fl t1 hsp => ?_) (fun _ _ he => he)
  cases fl with
  | next => exact let ⟨_, _, JE, q⟩ := hsp; wpAny_execs_nil ⟨_, _, JE.ofTry okZ, q⟩
  | brk => exact let ⟨_, _, JE, q⟩ := hsp; ⟨_, _, JE.ofTry okZ, q⟩
  | cont => exact let ⟨_, _, JE, q⟩ := hsp; ⟨_, _, JE.ofTry okZ, q⟩
  | ret u => exact let ⟨_, _, _, JE, r, q⟩ := hsp; ⟨_, _, _, JE.ofTry okZ, r, q⟩
end
end Dv

set_option linter.all false
set_option maxRecDepth 100000
set_option maxHeartbeats 4000000
namespace Dv
open PySem PySem.Spec PyProof.Rows L2 RZ
variable [Tbl]
open LamX (LamS lamEnv lamCx CodeO TabB ExtN Tabs)
/-! a lambda without parameters handed to a def that calls it; the def's frame has no guard -/
section
variable {X : Cx} {pins : List (Addr × Obj)} {σ : L2.St} {H HZ : Hp} {s s1 : Shared}
/-- `y()` inside the def g, y the lambda -/
theorem pe_lamRun {Ng : List Str} {nm y : Str} {sg : Scope} {g fl co : Addr} {cdg pm ctv : Value} {par : Arguments} {ex : Expr} {sl : Scope} {k i : Nat} {qn : List (Addr × Obj)} {xe : Value → Shared → Prop} {V : WX} {tb : L2.XK → TE} {p1 p2 : Pos}
    (J : Inv X pins σ H s) (LS : LamS X.env.scope sl) (o1 : s.heap.get? fl = some (PySem.W.kla_obj "<lambda>" (X.env.qual ++ "<lambda>") par ex sl (cloFrom X.env.cells sl.names []) pm co ctv)) (o2 : H fl = none) (o3 : fl ∉ frs X.stack)
    (bnd : bindArgs (PySem.W.kla_fn "<lambda>" (X.env.qual ++ "<lambda>") par ex sl (cloFrom X.env.cells sl.names []) pm (.ref co) ctv) ⟨[], []⟩ = pure [])
    (tk : Takes ((cxOf CX0 X.prog X.w X.K X.mg X.base Ng nm sg g cdg X.A X.stack s H E0).tr qn xe) V) (rm : Room (k + 1) (X.A.deeper (envOfC nm sg s.heap.objs.size g cdg))) (gd : X.A.guards = some [])
    (bod : ∀ (A : Around) (outer : List Env) (t : Shared) (H : Hp) (E : L2.XK), Room k (A.deeper (lamEnv X sl t.heap.objs.size fl co)) → A.guards = some [] → PE (lamCx X A outer t H E sl fl co) ex (tb E))
    (hN : Ng[i]? = some y) (hv : Vis sg y) (hd : (y == ("__debug__" : Str)) = false := by decide) (hcd : (y == ("__classdict__" : Str)) = false := by decide) :
    PE ((cxOf CX0 X.prog X.w X.K X.mg X.base Ng nm sg g cdg X.A X.stack s H E0).tr qn xe) (.Call (.Name y p1) [] [] p2) (fun σZ HZ Q => σZ[i]? = some (some (.ref fl)) ∧ HZ co = some (CodeO co (X.env.qual ++ "<lambda>")) ∧ tb (WE V σZ) σ HZ Q) := by
  refine ⟨fun pinZ sZ σZ HZ Q JZ ⟨w1, w2, w3⟩ => ?_⟩
  refine wpAny_Call_Name_kw (thn ((pe_var (pos := p1) (i := i) hN hv hd hcd).run pinZ sZ σZ HZ (fun v H1 => v = .ref fl ∧ H1 = HZ) JZ ⟨.ref fl, w1, rfl, rfl⟩) fun u s1 ⟨v, H1, J1, r1, ev, eH⟩ => ?_)
  subst ev
  rw [eH] at J1
  obtain rfl : u = Value.ref fl := r1
  have there : s1.heap.get? fl = some (PySem.W.kla_obj "<lambda>" (X.env.qual ++ "<lambda>") par ex sl (cloFrom X.env.cells sl.names []) pm co ctv) := J1.base.keep fl _ o1 o2 o3 (fun z => nomatch (show fl ∈ ([] : List Addr) from z))
  refine PySem.W.callWith_F0 ⟨_, _, _, _, there⟩ ?_
  have since : Un (frs X.stack) [] H HZ s.heap s1.heap := J1.base
  obtain ⟨⟨oc, fs, tq, c1, c2, c3⟩, _, _⟩ := J1.hok co _ w2
  have inner : codeAny (model X.prog X.w) (X.A.deeper (envOfC nm sg s.heap.objs.size g cdg)) (.call (.ref fl) ⟨[], []⟩) (CR (L2.CX X.prog X.w) (envOfC nm sg s.heap.objs.size g cdg :: X.stack) X.prog X.w HZ s1 Q (WE V σZ)) s1 := by
    refine PySem.W.kla_callFunE rm.depth there rfl LS.co LS.gen rfl ⟨co, oc, fs, tq, rfl, c1, c2, c3⟩ ?_
    rw [bnd]
    refine wpAny_pure (wpAny_newFunctionEnv (fun y hy => (LS.own y hy).2) (fun y hy => absurd hy (by simp)) (fun h2 hns hsb => ⟨J1.nolimit.fresh _ hsb, ?_⟩) LS.kind)
    show codeAny _ _ (.expr ex (lamEnv X sl s1.heap.objs.size fl co)) _ _
    have kp : ∀ b o, s1.heap.get? b = some o → h2.get? b = some o := fun b o e => hsb.extBut b o (Nat.ne_of_lt (Heap.lt_size e)) (Heap.get?_push_of_some _ e)
    have J2 : Inv (lamCx X (X.A.deeper (envOfC nm sg s.heap.objs.size g cdg)) (envOfC nm sg s.heap.objs.size g cdg :: X.stack) s1 HZ (WE V σZ) sl fl co) [] σ HZ { s1 with heap := h2, toks := s1.toks + ([] : List (Str × Value)).length } := LamX.lam_start2 J LS J1.env0 rm.hd since hns kp
    refine PySem.W.kla_codeExpr (wpAny_mono ((bod _ _ s1 HZ _ (rm.deeper _) gd).run [] _ _ HZ Q J2 w3) (fun v s' hq => ?_) fun e s' hq => hq)
    obtain ⟨v2, H2, J3, rv, q⟩ := hq
    exact ⟨v2, H2, J3.os, J3.bare, J3.base, J3.hok, rv, q⟩
  refine wpAny_call (codeAny_mono inner fun r s' hq => ?_)
  cases r with
  | error e => exact passAt tk σZ pinZ HZ s1 e s' J1 hq
  | ok fw => cases fw <;> first | exact J1.after hq | exact False.elim hq
/-- what the making of a lambda does to the heap: a code object more, and the table grown; or nothing -/
def LamMore (H H1 : Hp) (P co : Addr) (q : Str) : Prop := H1 = H ∨ ∃ ps ps' : Array Value, H P = some (.tbl ps) ∧ H co = none ∧ H1 = upd (upd H P (.tbl ps')) co (CodeO co q)
theorem lam_make3 {T : List (Addr × Str)} {c P : Addr} {par : Arguments} {ex : Expr} {sl : Scope} {pos : Pos} {E : Value → Shared → Prop} {Q : Value → Shared → Prop} (J : Inv X pins σ H s) (tb : TabB X.base X.mg c P) (hc : X.env.code = .ref c)
    (inT : (P, X.env.qual ++ "<lambda>") ∈ T) (only : ∀ p ∈ T, p.1 = P → p.2 = X.env.qual ++ "<lambda>") (tt : Tabs T H) (nod : defaultsOf par X.env = ([], [])) (cells : ∀ y ∈ sl.names, y.2 = .free → ∃ c, X.env.cells.lookup y.1 = some c)
    (k : ∀ (f co : Addr) (pm ctv : Value) (H1 : Hp) (s2 : Shared), Inv X pins σ H1 s2 → LamMore H H1 P co (X.env.qual ++ "<lambda>") → Tabs T H1 →
      s2.heap.get? f = some (PySem.W.kla_obj "<lambda>" (X.env.qual ++ "<lambda>") par ex sl (cloFrom X.env.cells sl.names []) pm co ctv) → H1 f = none → f ∉ frs X.stack → H1 co = some (CodeO co (X.env.qual ++ "<lambda>")) → Q (.ref f) s2) :
    wpAny (model X.prog X.w) X.A (eval (.Lambda par ex sl pos) X.env) Q E s := by
  obtain ⟨ps, hP, ht, ha⟩ := tt _ inT
  refine PySem.W.kla_eval nod ?_
  have atBoot : s.heap.BuiltinsAt X.mg P := tb.bm.keeps J.bk
  have now : s.heap.get? P = some { cls := .none, data := .fields ps } := J.hok P _ hP
  have notFr : ∀ f, s.heap.objs.size ≤ f → f ∉ frs X.stack := fun f hf z => by
    rcases List.mem_cons.mp (J.stkSub _ z) with e | e
    · have := J.lt
      rw [← e] at this
      exact Nat.lt_irrefl _ (Nat.lt_of_lt_of_le this hf)
    · exact J.nofs hf e
  cases had : codeAmong pos ps.toList with
  | some cv =>
    obtain ⟨co, ev, hco⟩ := ha pos cv had
    subst ev
    refine PySem.W.kla_makeFunctionHit (mg := X.mg) (c := c) (P := P) (ps := ps) (closure_ok cells) J.ok.glob (J.mod.glob.keeps J.bk) hc (tb.code.keeps J.bk) now ht had atBoot fun ctv h2 tk hx hsz => ?_
    exact k h2.objs.size co ((X.mg "__name__").getD .none) ctv H _ (J.kept fun b o e => Heap.get?_push_of_some _ (hx b o e)) (.inl rfl) tt (Heap.get?_push_size _ rfl) (J.hok.fresh hsz) (notFr _ hsz) hco
  | none =>
    refine PySem.W.kla_makeFunction (mg := X.mg) (c := c) (P := P) (ps := ps) (closure_ok cells) J.ok.glob (J.mod.glob.keeps J.bk) hc (tb.code.keeps J.bk) now ht had tb.gP atBoot fun co ctv h2 tk hx hge hlt hrec htb => ?_
    obtain ⟨c3, oc, fs, tq, e3, q1, q2, q3⟩ := hrec
    cases e3
    have grow : s.heap.objs.size ≤ h2.objs.size := Nat.le_trans hge (Nat.le_of_lt hlt)
    have none1 : H co = none := J.hok.fresh hge
    have J2 := LamX.inv_table (t' := tk) (more := #[rawInt pos.line, rawInt pos.col, .ref co]) (h' := h2.push (PySem.W.kla_obj "<lambda>" (X.env.qual ++ "<lambda>") par ex sl (cloFrom X.env.cells sl.names []) ((X.mg "__name__").getD .none) co ctv)) J hP (fun b o hb e => Heap.get?_push_of_some _ (hx b o hb e)) (Heap.get?_push_of_some _ htb) hge ⟨oc, fs, tq, Heap.get?_push_of_some _ q1, q2, q3⟩
    have same : ∀ b o, H b = some o → (∀ zs, o ≠ .tbl zs) → upd (upd H P (.tbl (ps ++ #[rawInt pos.line, rawInt pos.col, .ref co]))) co (CodeO co (X.env.qual ++ "<lambda>")) b = some o := fun b o e n => by
      rw [upd_ne (ne_of_none e none1), upd_ne (fun z => n ps (Option.some.inj (e.symm.trans (by rw [z]; exact hP))))]
      exact e
    have rows : (ps ++ #[rawInt pos.line, rawInt pos.col, .ref co]).toList = ps.toList ++ [rawInt pos.line, rawInt pos.col, .ref co] := by simp
    refine k h2.objs.size co ((X.mg "__name__").getD .none) ctv _ _ J2 (.inr ⟨ps, _, hP, none1, rfl⟩) (fun p hp => ?_) (Heap.get?_push_size _ rfl) ?_ (notFr _ grow) upd_same
    · by_cases hb : p.1 = P
      · rw [only p hp hb, hb]
        refine ⟨_, by rw [upd_ne (ne_of_none hP none1), upd_same], by rw [rows]; exact PySem.TriplesOk_snoc _ _ _ _ ht, fun p2 cv hcv => ?_⟩
        rw [rows] at hcv
        rcases LamX.among_app _ ht hcv with z | z
        · exact let ⟨c0, e1, e2⟩ := ha p2 cv z; ⟨c0, e1, same _ _ e2 LamX.codeO_ne⟩
        · exact ⟨co, z, upd_same⟩
      · obtain ⟨zs, a1, a2, a3⟩ := tt p hp
        exact ⟨zs, by rw [upd_ne (ne_of_none a1 none1), upd_ne hb]; exact a1, a2, fun p2 cv hcv => let ⟨c0, e1, e2⟩ := a3 p2 cv hcv; ⟨c0, e1, same _ _ e2 LamX.codeO_ne⟩⟩
    · rw [upd_ne (Nat.ne_of_gt hlt), upd_ne (Nat.ne_of_gt (Nat.lt_of_lt_of_le (Heap.lt_size now) grow))]
      exact J.hok.fresh grow
theorem Nxt.lam {p : Option Addr} {B G H H1 : Hp} {P co : Addr} {q : Str} (i3 : I3 p B G H) (hP : ∃ z, (P, z) ∈ Tbl.ts) (m : LamMore H H1 P co q) (t1 : Tabs Tbl.ts H1) : Nxt p G H G H1 := by
  rcases m with rfl | ⟨ps, ps', hp, hc, rfl⟩
  · exact .refl i3
  obtain ⟨z, hz⟩ := hP
  have keep : ∀ b o, H b = some o → (∀ zs, o ≠ .tbl zs) → upd (upd H P (.tbl ps')) co (CodeO co q) b = some o := fun b o e n => by
    rw [upd_ne (ne_of_none e hc), upd_ne (fun w => n ps (Option.some.inj (e.symm.trans (by rw [w]; exact hp))))]
    exact e
  refine ⟨Step.refl _ _, fun a o h n => keep a o (del_le h).1 n, fun a o h => ?_, fun y hy => ?_, fun a h => upd_dom a (upd_dom a h), fun _ => t1⟩
  · have n1 : a ≠ co := fun w => by rw [w, i3.gh.free hc] at h; cases h
    have n2 : a ≠ P := fun w => by
      have := i3.tz.g _ hz
      rw [w, show G P = none from this] at h; cases h
    rw [upd_ne n1, upd_ne n2]
    exact i3.gh a o h
  · obtain ⟨_, _, a, b, e, ok⟩ := i3.pot y hy
    exact ⟨a, b, keep _ _ e (fun _ w => by cases w), ok⟩
/-- what a def g does with the lambda f that it is given: TT, out of the lambda's own reading tl -/
def Gives (X : Cx) (Ng : List Str) (nm : Str) (st : Stmt) (g : Addr) (cdg : Value) (y q : Str) (TT : (L2.XK → Hp → VK → Prop) → Hp → VK → Prop) : Prop :=
  ∀ (f co : Addr) (s : Shared) (H : Hp) (Q : VK) (tl : L2.XK → Hp → VK → Prop),
    (∀ (V : WX) (qn : List (Addr × Obj)) (xe : Value → Shared → Prop) (p1 p2 : Pos), Takes ((cxOf CX0 X.prog X.w X.K X.mg X.base Ng nm (defScope st) g cdg X.A X.stack s H E0).tr qn xe) V →
      PE ((cxOf CX0 X.prog X.w X.K X.mg X.base Ng nm (defScope st) g cdg X.A X.stack s H E0).tr qn xe) (.Call (.Name y p1) [] [] p2) (fun σZ HZ Q => σZ[0]? = some (some (.ref f)) ∧ HZ co = some (CodeO co q) ∧ tl (WE V σZ) HZ Q)) →
    H co = some (CodeO co q) → TT tl H Q →
    ∃ t, PSs (xc X.prog X.w X.K X.mg X.base Ng nm st g cdg X.A X.stack s H E0) (defBody st) t ∧ t { nx := fun _ H' => Q .non H', rt := Q } (L2.start Ng [.ref f]) H
/-- g(lambda: ex) -/
theorem pe_lamG {TT : (L2.XK → Hp → VK → Prop) → Hp → VK → Prop} {nm y : Str} {st : Stmt} {g c P : Addr} {k : Nat} {Ng : List Str} {par : Arguments} {ex : Expr} {sl : Scope} {t : L2.XK → TE} {fd : FuncData} {p lp pos : Pos}
    (hg : Gl X nm) (hm : X.mg nm = some (.ref g)) (hk : PySem.W.keepIn X.K (.ref g) = true) (F : Fun X.K nm nm st g fd) (bd : Binds X.K fd [y] []) (Sg : FnScope Ng [y] (defScope st)) (hNg : Ng[0]? = some y) (hva : Vis (defScope st) y)
    (giv : ∀ cdg, Gives X Ng nm st g cdg y (X.env.qual ++ "<lambda>") TT) (TB : TabB X.base X.mg c P) (hcode : X.env.code = .ref c) (hmT : (P, X.env.qual ++ "<lambda>") ∈ Tbl.ts) (hu : ∀ p ∈ Tbl.ts, p.1 = P → p.2 = X.env.qual ++ "<lambda>") (rm : Room (k + 2) X.A) (gd : X.A.guards = some []) (LS : LamS X.env.scope sl)
    (hdef : defaultsOf par X.env = ([], [])) (bnd : ∀ (q : Str) (cl : List (Str × Addr)) (pm cv ctv : Value), bindArgs (PySem.W.kla_fn "<lambda>" q par ex sl cl pm cv ctv) ⟨[], []⟩ = pure [])
    (bod : ∀ (A : Around) (outer : List Env) (s : Shared) (H : Hp) (E : L2.XK) (f co : Addr), Room k (A.deeper (lamEnv X sl s.heap.objs.size f co)) → A.guards = some [] → PE (lamCx X A outer s H E sl f co) ex (t E))
    (hdb : (nm == ("__debug__" : Str)) = false := by decide) (hd : (y == ("__debug__" : Str)) = false := by decide) (hcd : (y == ("__classdict__" : Str)) = false := by decide) :
    PE X (.Call (.Name nm p) [.Lambda par ex sl lp] [] pos) (fun σ H Q => ∃ p B G, I3 p B G H ∧ ∀ H1, Nxt p G H G H1 → TT (fun E H' Q' => t E σ H' Q') H1 Q) := by
  obtain ⟨oc, od, kV, doc, pm, an, cdv, ct, osl, rfl, lk, hcd'⟩ := F.ex
  refine ⟨fun pins s σ H Q J ⟨pt, B, G, i3, h⟩ => ?_⟩
  refine wpAny_Call_Name_kw (ld_glob J hg hm ?_ hdb)
  refine PySem.W.callWith_K (h₀ := X.base) J.ok.mod.kin hk ?_ (by rfl) (by rfl)
  show wpAny _ _ (spliced ((false, eval (.Lambda par ex sl lp) X.env) :: backTo pos (starEach [] X.env))) _ _ s
  refine Calls.spliced_cons (lam_make3 J TB hcode hmT hu i3.tz.h hdef (LS.has J.ok) fun f co pm2 ctv H1 t1 J1 more T1 o1 o2 o3 o4 => ?_)
  refine Calls.spliced_nil ⟨J1.kIn, ?_⟩
  have go : codeAny (model X.prog X.w) X.A (.call (.ref g) ⟨[.ref f], []⟩) (CR CX0 X.stack X.prog X.w H1 t1 Q E0) t1 := by
    refine LamX.run_ofS (N := Ng) (ps := [y]) (us := [.ref f]) (vs := [.ref f]) lk hcd' Sg rm J1.env0 (bd t1 [.ref f] J1.kIn rfl) (.cons rfl .nil) rfl fun rm2 => ?_
    obtain ⟨tt, k1, k2⟩ := giv cdv f co t1 H1 Q (fun E H' Q' => t E σ H' Q') (fun V qn xe p1 p2 tk => pe_lamRun (i := 0) (tb := t) J1 LS o1 o2 o3 (bnd _ _ _ _ _) tk rm2 gd (fun A outer s H E r2 g2 => bod A outer s H E f co r2 g2) hNg hva hd hcd) o4 (h H1 (.lam i3 ⟨_, hmT⟩ more T1))
    exact ⟨tt, k1.nox, k2⟩
  refine wpAny_call (codeAny_mono go fun r t2 hq => ?_)
  cases r with
  | error e => exact (show False from hq).elim
  | ok fw => cases fw <;> first | exact J1.after hq | exact False.elim hq
end
end Dv

set_option linter.all false
set_option maxRecDepth 100000
set_option maxHeartbeats 4000000
namespace Dv
open PySem PySem.Spec PyProof.Rows L2 RZ
variable [Tbl]
open LamX (LamS lamEnv lamCx CodeO TabB ExtN Tabs)
/-! f(lambda: e), by data: R: what e may answer; ox: what it may raise; S: what f makes of it -/
theorem Nxt.ofRe {p : Option Addr} {B G H G' H' : Hp} (i3 : I3 p B G H) (st : Step (del p H) G G') (i2 : I3 p (del p H) G' H') : Nxt p G H G' H' := by
  cases p with
  | some z => exact .ofPot i3 st i2
  | none =>
    rw [del_none] at st i2
    exact .ofExd i3 st i2.bh i2.gh
theorem I3.re {p : Option Addr} {B G H : Hp} (i3 : I3 p B G H) : I3 p (del p H) G H := ⟨Exd.hide _ _, i3.gh, fun q e => ⟨by unfold del; rw [if_pos e], (i3.pot q e).2⟩, i3.tz⟩
def tV (K : Fg) (mg : Str → Option Value) (δ : De) (R : Dt → Prop) (ox : Str → Dt → Prop) (E : L2.XK) : TE := fun σ H Q => ∃ p B G, I3 p B G H ∧ EnvD K p B G H σ δ ∧ (∀ v d G' H', R d → Nxt p G H G' H' → Dz K G' v d → Q v H') ∧ PostE K mg p G H (fun cl d _ H' => E cl d H') ox σ
def TTh (K : Fg) (mg : Str → Option Value) (R : Dt → Prop) (ox : Str → Dt → Prop) (S : Dt → Prop) (tl : L2.XK → Hp → VK → Prop) (H : Hp) (Q : VK) : Prop := ∃ p B G, I3 p B G H ∧
  (∀ GZ HZ, Nxt p G H GZ HZ → ∀ (Qv : VK) (Ev : L2.XK), (∀ v d G' H', R d → Nxt p GZ HZ G' H' → Dz K G' v d → Qv v H') →
    (∀ (C : Addr) (cn : Str) (dd : Addr) (fs : List (Str × V)) (y : Dt) (G' H' : Hp), ox cn y → mg cn = some (.ref C) → Nxt p GZ HZ G' H' → HZ dd = none → H' dd = some (.xd fs) → FR K G' fs y → Ev (.ref C) (some dd) H') → tl Ev HZ Qv) ∧
  ∀ u z G' H', S z → Nxt p G H G' H' → Dz K G' u z → Q u H'
section
variable {X : Cx} {δ : De} {R S : Dt → Prop} {ox : Str → Dt → Prop}
/-- the lambda's body answers, or it raises -/
def LamB (X : Cx) (k : Nat) (sl : Scope) (ex : Expr) (δ : De) (R : Dt → Prop) (ox : Str → Dt → Prop) : Prop := ∀ (A : Around) (outer : List Env) (s : Shared) (H : Hp) (E : L2.XK) (f co : Addr), Room k (A.deeper (lamEnv X sl s.heap.objs.size f co)) → A.guards = some [] → PE (lamCx X A outer s H E sl f co) ex (tV X.K X.mg δ R ox E)
theorem lamB_val {k : Nat} {sl : Scope} {ex : Expr} (h : ∀ (A : Around) (outer : List Env) (s : Shared) (H : Hp) (E : L2.XK) (f co : Addr), Room k (lamCx X A outer s H E sl f co).A → (lamCx X A outer s H E sl f co).A.guards = some [] → XD (lamCx X A outer s H E sl f co) ex δ R) : LamB X k sl ex δ R ox := fun A outer s H E f co r g => PE.imp (h A outer s H E f co r g) fun σ H Q ⟨p, B, G, i3, en, q, _⟩ => ⟨p, B, G, i3, en, q⟩
theorem lamB_exc {k : Nat} {sl : Scope} {ex : Expr} (h : ∀ (A : Around) (outer : List Env) (s : Shared) (H : Hp) (E : L2.XK) (f co : Addr), Room k (lamCx X A outer s H E sl f co).A → (lamCx X A outer s H E sl f co).A.guards = some [] → XR (lamCx X A outer s H E sl f co) ex δ ox) : LamB X k sl ex δ R ox := fun A outer s H E f co r g => PE.imp (h A outer s H E f co r g (fun cl d _ H' => E cl d H') (takes_of rfl rfl rfl rfl)) fun σ H Q ⟨p, B, G, i3, en, _, q⟩ => ⟨p, B, G, i3, en, q⟩
theorem c_heard {nm y : Str} {st : Stmt} {g c P : Addr} {k : Nat} {Ng : List Str} {par : Arguments} {ex : Expr} {sl : Scope} {fd : FuncData} {p lp pos : Pos} {U : Dt → Prop}
    (hm : X.mg nm = some (.ref g)) (hk : PySem.W.keepIn X.K (.ref g) = true) (F : Fun X.K nm nm st g fd) (bd : Binds X.K fd [y] []) (Sg : FnScope Ng [y] (defScope st)) (hNg : Ng[0]? = some y) (hva : Vis (defScope st) y)
    (giv : ∀ cdg, Gives X Ng nm st g cdg y (X.env.qual ++ "<lambda>") (TTh X.K X.mg R ox U)) (TB : TabB X.base X.mg c P) (hcode : X.env.code = .ref c) (hmT : (P, X.env.qual ++ "<lambda>") ∈ Tbl.ts) (hu : ∀ p ∈ Tbl.ts, p.1 = P → p.2 = X.env.qual ++ "<lambda>")
    (bod : LamB X k sl ex δ R ox) (LS : LamS X.env.scope sl) (rm : Room (k + 2) X.A := by first | assumption | (refine Room.mono (by assumption) ?_; decide)) (gd : X.A.guards = some [] := by assumption) (hg : Gl X nm := by rfl)
    (hdef : defaultsOf par X.env = ([], []) := by rfl) (bnd : ∀ (q : Str) (cl : List (Str × Addr)) (pm cv ctv : Value), bindArgs (PySem.W.kla_fn "<lambda>" q par ex sl cl pm cv ctv) ⟨[], []⟩ = pure [] := by intros; rfl)
    (hdb : (nm == ("__debug__" : Str)) = false := by decide) (hd : (y == ("__debug__" : Str)) = false := by decide) (hcd : (y == ("__classdict__" : Str)) = false := by decide) :
    XD X (.Call (.Name nm p) [.Lambda par ex sl lp] [] pos) δ U :=
  PE.imp (pe_lamG hg hm hk F bd Sg hNg hva giv TB hcode hmT hu rm gd LS hdef bnd bod hdb hd hcd) fun σ H Q ⟨p, B, G, i3, en, q⟩ => ⟨p, B, G, i3, fun H1 n => ⟨p, B, G, i3.nxt n, fun GZ HZ n2 Qv Ev hv hx => ⟨p, B, GZ, (i3.nxt n).nxt n2, (en.nxt n).nxt n2, hv, fun C cn d v y G' H' r gC n3 h0 h1 dz => hx C cn d v y G' H' r gC n3 h0 h1 dz⟩, fun u z G' H' sz n2 dz => q u z G' H' sz (n.trans n2) dz⟩⟩
end
end Dv

set_option linter.all false
set_option maxRecDepth 100000
set_option maxHeartbeats 4000000
namespace Dv
open PySem PySem.Spec PyProof.Rows L2 RZ
variable [Tbl]
open LamX (LamS lamEnv lamCx CodeO TabB ExtN Tabs)
/-! the clauses of a def that tells what it heard: `except C as e: y = [..]` -/
structure Clause where
  C : Addr
  W : Dt → Dt
  V : Dt → Prop
def usD (K : Fg) (δ : De) (i j : Nat) (c : Clause) : HdT := fun a cls d D σ H => ∃ x, c.V x ∧ rSE K δ i c.C a cls d x { nx := fun δ' => δ' = δ.set j (.d (c.W x)) } D σ H
def clList (K : Fg) (δ : De) (i j : Nat) (L : List Clause) : List (Value × HdT) := L.map fun c => (.ref c.C, usD K δ i j c)
section
variable {Z : Cx} {n y cn : Str} {i j : Nat} {δ : De} {ev : Expr} {yp apos : Pos}
theorem suite_ok (c : Clause) (hN : Z.N.Nodup) (hi : Nx Z.N n i) (hj : Nx Z.N y j) (hsu : ∀ x, c.V x → ∀ a oe cls d pn, Hold Z (Z.suite a ((a, oe) :: pn)) a cls d i n c.C → YE (Z.suite a ((a, oe) :: pn)) δ i c.C a cls d x ev (fun z => z = c.W x))
    (hx : Loc Z.env.scope y := by first | exact Or.inl rfl | exact Or.inr rfl) (hs2 : swapsWith ev (some (.Name y yp)) apos.line Z.env = pure false := by rfl) (hf2 : Z.fn y = true ∨ Z.env.scope.names.lookup y = some .local := by first | exact .inl rfl | exact .inr rfl | assumption) :
    ∀ (ad : Addr) (ob : Obj) (cl : Value) (dd : Option Addr) (qn : List (Addr × Obj)), Zc cl dd ob → (∃ fs, ob.data = .fields fs) → PSs (Z.suite ad ((ad, ob) :: qn)) [.Assign [.Name y yp] ev apos] (usD Z.K δ i j c ad cl dd) := fun ad ob cl dd qn hz hf => by
  refine ⟨fun pins s σ H D I ⟨x, hV, h⟩ => ?_⟩
  have he := hsu x hV ad ob cl dd qn ⟨⟨ob, qn, rfl, hz, hf⟩, hi.eq⟩
  refine (PSs.imp (pss_one (ps_set (X := Z.suite ad ((ad, ob) :: qn)) hN hj.eq hx he hs2 hf2)) ?_).run pins s σ H D I h
  rintro D σ H ⟨p, B, G, d2, v, hh, q⟩
  refine ⟨p, B, G, d2, v, hh, fun u z G' H' r n2 hu => ?_⟩
  subst r
  exact q.nx _ _ G' H' rfl (n2.stepB hh.i3) (hh.i3.nxt n2) ((hh.en.nxt n2).set hu)
/-- the first clause that takes the class -/
theorem wNm_hit {K : Fg} {Wo : WX} {D : Ends} {dd : Option Addr} {σ : L2.St} {H : Hp} {c : Clause} : ∀ {L : List Clause} {m : Nat}, L[m]? = some c → (∀ t c2, t < m → L[t]? = some c2 → PySem.W.exmOne K (.ref c.C) (.ref c2.C) = some false) → PySem.W.exmOne K (.ref c.C) (.ref c.C) = some true →
    (∀ a, H a = none → usD K δ i j c a (.ref c.C) dd { nx := fun σ' H' => D.nx (σ'.set i none) H', rt := D.rt, bk := fun σ' H' => D.bk (σ'.set i none) H', ct := fun σ' H' => D.ct (σ'.set i none) H' } (σ.set i (some (.ref a))) H) → wNm K i Wo D (clList K δ i j L) (.ref c.C) dd σ H
  | c2 :: L, 0, h, _, ht, k => by
    cases h
    exact ⟨true, ht, fun _ => k, fun z => Bool.noConfusion z⟩
  | c2 :: L, m + 1, h, hf, ht, k => ⟨false, hf 0 c2 (Nat.succ_pos m) rfl, fun z => Bool.noConfusion z, fun _ => wNm_hit (L := L) h (fun t c3 hl e => hf (t + 1) c3 (Nat.succ_lt_succ hl) e) ht k⟩
  | [], m, h, _, _, _ => by cases h
end
section
variable {X : Cx} {nm q w0 : Str} {st : Stmt} {g : Addr} {cdg : Value} {R S : Dt → Prop} {ox : Str → Dt → Prop} {L : List Clause} {hd1 : ExceptHandler} {hdr : List ExceptHandler} {a1 a2 a3 a4 b1 b2 b3 b4 b5 b6 b7 b8 b9 : Pos} {a0 : Nat}
abbrev gN : List Str := ["call", "told", "e"]
abbrev gδ : De := [.no, .no, .no]
theorem env_no {K : Fg} {p : Option Addr} {B G H : Hp} {x y z : Option V} : EnvD K p B G H [x, y, z] gδ := by
  refine ⟨rfl, fun i en h => ?_, fun i j e f oi oj a _ h1 _ _ _ f1 _ => ?_⟩
  · match i, h with
    | 0, h => cases h; exact ⟨_, rfl, trivial⟩
    | 1, h => cases h; exact ⟨_, rfl, trivial⟩
    | 2, h => cases h; exact ⟨_, rfl, trivial⟩
    | n + 3, h => cases h
  · match i, h1 with
    | 0, h => cases h; exact foot_no f1
    | 1, h => cases h; exact foot_no f1
    | 2, h => cases h; exact foot_no f1
    | n + 3, h => cases h
/-- told = [w0] / try: told.append(call()) / except ..: told = .. / return told -/
theorem giveA (hb : defBody st = [.Assign [.Name "told" a1] (.List [.Constant (.str w0) a0 a2] a3) a4, .Try [.Expr (.Call (.Attribute (.Name "told" b1) "append" b2) [.Call (.Name "call" b3) [] [] b4] [] b5) b6] (hd1 :: hdr) [] [] b7, .Return (some (.Name "told" b8)) b9])
    (Sg : FnScope gN ["call"] (defScope st)) (k0 : Vis (defScope st) "call") (k1 : (defScope st).names.lookup ("told" : Str) = some .local) (k2 : (envOfC nm (defScope st) 0 g cdg).kindOf "e" = some .local) (he : (b2.endLine == b5.line) = true)
    (hds : ∀ s H, NmOk (xc X.prog X.w X.K X.mg X.base gN nm st g cdg X.A X.stack s H E0) "e" (hd1 :: hdr) (clList X.K gδ 2 1 L)) (hv : ∀ d, R d → S (.list [.str w0, d]))
    (hx : ∀ cn y, ox cn y → ∃ (m : Nat) (c : Clause), L[m]? = some c ∧ X.mg cn = some (.ref c.C) ∧ c.V y ∧ S (c.W y) ∧ (∀ (t : Nat) (c2 : Clause), t < m → L[t]? = some c2 → PySem.W.exmOne X.K (.ref c.C) (.ref c2.C) = some false) ∧ PySem.W.exmOne X.K (.ref c.C) (.ref c.C) = some true) :
    Gives X gN nm st g cdg "call" q (TTh X.K X.mg R ox S) := by
  intro f co s H Q tl act hco ⟨p, B, G, i3, htl, hq⟩
  rw [hb]
  have loc : Loc (xc X.prog X.w X.K X.mg X.base gN nm st g cdg X.A X.stack s H E0).env.scope "told" := .inl k1
  refine ⟨_, pss_cons (ps_set (i := 1) Sg.nd rfl loc (pe_lst (pa_cons pe_str pa_nil)) (by rfl) (.inr k1)) (pss_cons (ps_tryN (j := 2) (nm := "e") rfl rfl Sg.nd rfl k2 takes0 (tb := fun W D σ H => ∃ (l : Addr) (xs : List V) (Pv : V → Hp → Prop), σ[0]? = some (some (.ref f)) ∧ H co = some (CodeO co q) ∧ σ[1]? = some (some (.ref l)) ∧ H l = some (.lst xs) ∧ (∀ Qv : VK, (∀ v H2, Pv v H2 → Qv v H2) → tl (WE W σ) H Qv) ∧ ∀ v H2, Pv v H2 → H2 l = some (.lst xs) ∧ xs.length < sizeLine ∧ D.nx σ (upd H2 l (.lst (xs ++ [v]))))
      (fun V qn xe tk _ => ?body) (hds s H)) (pss_one (ps_ret (pe_var (i := 1) rfl (.inl k1) (by decide) (by decide))))), ?_⟩
  case body =>
    refine PSs.imp (pss_one (ps_expr (pe_bm PySem.F.plainAttrs_list PySem.F.slot_list_append PySem.F.type_list_append mt_append (pe_var (i := 1) rfl (.inl k1) (by decide) (by decide)) (pa_cons (act V qn xe b3 b4 tk) pa_nil (by rfl)) (by rfl) (by rfl) he (by rfl) (by rfl)) (by rfl))) fun D σ H ⟨l, xs, Pv, e0, e1, e2, e3, ht, hp⟩ => ?_
    refine ⟨.ref l, e2, .inl ⟨rfl, xs, .inl (.inl e3)⟩, e0, e1, ht _ fun v H2 hv2 => ?_⟩
    obtain ⟨h1, h2, h3⟩ := hp v H2 hv2
    exact ⟨l, xs, v, rfl, rfl, h1, h2, h3⟩
  refine ⟨by show 1 ≤ sizeLine; decide, fun l hl => ?_⟩
  have n1 : Nxt p G H G (upd H l (.lst [.str w0])) := .newH i3 _ hl
  have pl : p ≠ some l := pot_ne i3 hl
  refine ⟨l, [.str w0], fun v H2 => ∃ d G2, R d ∧ Nxt p G (upd H l (.lst [.str w0])) G2 H2 ∧ Dz X.K G2 v d, rfl, ?_, rfl, upd_same, fun Qv hQ => htl G _ n1 Qv _ (fun v d G' H' r n dz => hQ v H' ⟨d, G', r, n, dz⟩) fun C cn dd v y G' H' r gC n h0 h1 dz => ?_, fun v H2 ⟨d, G2, r, n2, dz⟩ => ?_⟩
  · rw [upd_ne (ne_of_none hco hl)]; exact hco
  · obtain ⟨m, c, hm, hmc, hV, hS, hfl, htr⟩ := hx cn y r
    have ec : C = c.C := by have := gC.symm.trans hmc; cases this; rfl
    subst ec
    have n3 := n1.trans n
    have i4 : I3 p (del p H) G' H' := i3.re.nxt n3
    refine wNm_hit hm hfl htr fun a _ => ⟨y, hV, p, del p H, G', dd, v, ⟨i4, env_no, rfl, rfl, rfl, h1, dz⟩, ?_⟩
    refine ⟨fun δ' σ2 G3 H3 e st3 i5 en5 => ?_, fun _ _ _ _ z => z.elim, fun _ _ _ _ z => z.elim, fun _ _ _ _ z => z.elim, fun _ _ _ _ _ z => z.elim⟩
    subst e
    obtain ⟨ov, q1, u, q2, q3⟩ := en5.slot 1 _ rfl
    subst q2
    refine ⟨u, ?_, hq u _ G3 H3 hS (Nxt.ofRe i3 ((n3.stepB i3.re).trans st3) i5) q3⟩
    rw [List.getElem?_set_ne (by decide)]; exact q1
  · have g2 : G2 l = none := n2.st.2 l (nn upd_same) (i3.gh.free hl)
    have hl2 : H2 l = some (.lst [.str w0]) := n2.ex l _ (by rw [del_ne pl]; exact upd_same) (fun _ z => by cases z)
    refine ⟨hl2, by show 1 < sizeLine; decide, .ref l, rfl, ?_⟩
    have n4 : Nxt p G H G2 (upd H2 l (.lst ([.str w0] ++ [v]))) := (n1.trans n2).put hl g2 hl2 pl
    obtain ⟨m1, m2⟩ := own_data (ds := [.str w0, d]) i3 n4 hl g2 pl upd_same (.cons (.str _) (.cons dz .nil))
    exact hq _ _ _ _ (hv d r) m1 m2
end
end Dv

set_option linter.all false
set_option maxRecDepth 100000
set_option maxHeartbeats 4000000
namespace Dv
open PySem PySem.Spec PyProof.Rows L2 RZ
variable [Tbl]
open LamX (LamS lamEnv lamCx CodeO TabB ExtN Tabs)
section
variable {X : Cx} {k : Nat} {x : Str} {ps ks : List Str} {st : Stmt} {δ : De} {kws : List Keyword} {p pos : Pos} {ox : Str → Dt → Prop}
/-- f(a=.., b=..) that raises -/
theorem r_callK {R : List Dt → Str → Dt → Prop} (ix : List Nat) (Cl : CalX X.prog X.w X.K X.mg X.base k x ps st (spX X.K X.mg R)) (ha : XK X kws δ fun ds => ds.length = ks.length ∧ ∃ cn y, R (pick ix ds) cn y ∧ ox cn y)
    (hb : ∀ (kV doc pm : Value) (an : Option Addr) (cdv ct : Value) (ws : List Value), ws.length = ks.length → bindArgs (PySem.W.fnOf x x (defArgs st) (defBody st) (defScope st) .none kV doc pm an cdv ct) ⟨[], ks.zip ws⟩ = pure (ps.zip (pick ix ws)))
    (hall : (backToKw pos (keywordEach kws X.env)).all (·.1.isSome) = true := by rfl) (hks : (backToKw pos (keywordEach kws X.env)).filterMap (·.1) = ks := by rfl) (hpl : ((backTo pos (starEach [] X.env)).any (·.1) || (backToKw pos (keywordEach kws X.env)).any (·.1.isNone)) = false := by rfl)
    (hr : Room k X.A := by first | assumption | (refine Room.mono (by assumption) ?_; decide)) (hgd : X.A.guards = some [] := by assumption) (hg : Gl X x := by rfl) (hdb : (x == ("__debug__" : Str)) = false := by decide) : XR X (.Call (.Name x p) [] kws pos) δ ox := fun W tk => by
  obtain ⟨f, fd, F, hm, hk, _, fn⟩ := Cl.ex
  obtain ⟨oc, od, kV, doc, pm, an, cdv, ct, osl, rfl, lk, hcd⟩ := fn.ex
  refine ⟨fun pins s σ H Q I ⟨p, B, G, i3, en, q⟩ => ?_⟩
  refine wpAny_Call_Name_kw (ld_glob I hg hm ?_ hdb)
  refine PySem.W.callWith_KW0 (h₀ := X.base) I.ok.mod.kin hk hall (thn (ha.pk.run pos pins s σ H (fun vs H1 => ∃ G1 ds, (ds.length = ks.length ∧ ∃ cn y, R (pick ix ds) cn y ∧ ox cn y) ∧ Nxt p G H G1 H1 ∧ DzAll X.K G1 vs ds) I ⟨p, B, G, i3, en, fun vs ds' G1 H1 r n hv => ⟨G1, ds', r, n, hv⟩⟩) fun ws s1 ⟨zs, H1, I1, rz, G1, ds, ⟨hl, cn, y, h1, h2⟩, n, hv⟩ => ⟨I1.kIn, ?_⟩) hpl
  rw [hks]
  have hlw : ws.length = ks.length := by rw [← rz.length, dpAll_length hv]; exact hl
  have i31 := i3.nxt n
  have hsp : spX X.K X.mg R (pick ix zs) H1 Q (WE W σ) := ⟨G1, pick ix ds, cn, y, ⟨i31.gh, i31.tz⟩, pick_dz hv ix, h1, fun C d fs G' H' gC st e1 e2 hd hd2 hv2 => by
    have n2 : Nxt p G1 H1 G' H' := .ofExd i31 st e1 e2
    exact q C cn d fs y G' H' h2 gC (n.trans n2) (back_none n hd) hd2 hv2⟩
  refine wpAny_call (codeAny_mono (F.run X.A X.stack s1 H1 ⟨[], ks.zip ws⟩ (pick ix ws) (pick ix zs) Q (WE W σ) hr hgd I1.env0 (.of_eq (hb kV doc pm an cdv ct ws hlw)) (pick_vals rz ix) hsp) fun r s' hq => ?_)
  cases r with
  | error e => exact passAt tk σ pins H1 s1 e s' I1 hq
  | ok fl =>
    cases fl with
    | ret u => exact I1.after hq
    | next => exact False.elim hq
    | brk => exact False.elim hq
    | cont => exact False.elim hq
end
section
variable {X : Cx} {nm q : Str} {st : Stmt} {g : Addr} {cdg : Value} {R S : Dt → Prop} {ox : Str → Dt → Prop} {L : List Clause} {hd1 : ExceptHandler} {hdr : List ExceptHandler} {a1 a2 a4 b1 b3 b4 b6 b7 b8 b9 : Pos} {a0 : Nat}
/-- told = None / try: told = call() / except ..: told = .. / return told -/
theorem giveB (hb : defBody st = [.Assign [.Name "told" a1] (.Constant .none a0 a2) a4, .Try [.Assign [.Name "told" b1] (.Call (.Name "call" b3) [] [] b4) b6] (hd1 :: hdr) [] [] b7, .Return (some (.Name "told" b8)) b9])
    (Sg : FnScope gN ["call"] (defScope st)) (k0 : Vis (defScope st) "call") (k1 : (defScope st).names.lookup ("told" : Str) = some .local) (k2 : (envOfC nm (defScope st) 0 g cdg).kindOf "e" = some .local)
    (hds : ∀ s H, NmOk (xc X.prog X.w X.K X.mg X.base gN nm st g cdg X.A X.stack s H E0) "e" (hd1 :: hdr) (clList X.K gδ 2 1 L)) (hv : ∀ d, R d → S d)
    (hx : ∀ cn y, ox cn y → ∃ (m : Nat) (c : Clause), L[m]? = some c ∧ X.mg cn = some (.ref c.C) ∧ c.V y ∧ S (c.W y) ∧ (∀ (t : Nat) (c2 : Clause), t < m → L[t]? = some c2 → PySem.W.exmOne X.K (.ref c.C) (.ref c2.C) = some false) ∧ PySem.W.exmOne X.K (.ref c.C) (.ref c.C) = some true) :
    Gives X gN nm st g cdg "call" q (TTh X.K X.mg R ox S) := by
  intro f co s H Q tl act hco ⟨p, B, G, i3, htl, hq⟩
  rw [hb]
  have loc : Loc (xc X.prog X.w X.K X.mg X.base gN nm st g cdg X.A X.stack s H E0).env.scope "told" := .inl k1
  refine ⟨_, pss_cons (ps_set (i := 1) Sg.nd rfl loc pe_non (by rfl) (.inr k1)) (pss_cons (ps_tryN (j := 2) (nm := "e") rfl rfl Sg.nd rfl k2 takes0 (tb := fun W D σ H => ∃ (Pv : V → Hp → Prop), σ[0]? = some (some (.ref f)) ∧ H co = some (CodeO co q) ∧ (∀ Qv : VK, (∀ v H2, Pv v H2 → Qv v H2) → tl (WE W σ) H Qv) ∧ ∀ v H2, Pv v H2 → D.nx (σ.set 1 (some v)) H2)
      (fun V qn xe tk _ => ?body) (hds s H)) (pss_one (ps_ret (pe_var (i := 1) rfl (.inl k1) (by decide) (by decide))))), ?_⟩
  case body =>
    refine PSs.imp (pss_one (ps_set (i := 1) Sg.nd rfl loc (act V qn xe b3 b4 tk) (by rfl) (.inr k1))) fun D σ H ⟨Pv, e0, e1, ht, hp⟩ => ?_
    exact ⟨e0, e1, ht _ hp⟩
  refine ⟨fun v H2 => ∃ d G2, R d ∧ Nxt p G H G2 H2 ∧ Dz X.K G2 v d, rfl, hco, fun Qv hQ => htl G _ (.refl i3) Qv _ (fun v d G' H' r n dz => hQ v H' ⟨d, G', r, n, dz⟩) fun C cn dd v y G' H' r gC n h0 h1 dz => ?_, fun v H2 ⟨d, G2, r, n2, dz⟩ => ?_⟩
  · obtain ⟨m, c, hm, hmc, hV, hS, hfl, htr⟩ := hx cn y r
    have ec : C = c.C := by have := gC.symm.trans hmc; cases this; rfl
    subst ec
    have i4 : I3 p (del p H) G' H' := i3.re.nxt n
    refine wNm_hit hm hfl htr fun a _ => ⟨y, hV, p, del p H, G', dd, v, ⟨i4, env_no, rfl, rfl, rfl, h1, dz⟩, ?_⟩
    refine ⟨fun δ' σ2 G3 H3 e st3 i5 en5 => ?_, fun _ _ _ _ z => z.elim, fun _ _ _ _ z => z.elim, fun _ _ _ _ z => z.elim, fun _ _ _ _ _ z => z.elim⟩
    subst e
    obtain ⟨ov, q1, u, q2, q3⟩ := en5.slot 1 _ rfl
    subst q2
    refine ⟨u, ?_, hq u _ G3 H3 hS (Nxt.ofRe i3 ((n.stepB i3.re).trans st3) i5) q3⟩
    rw [List.getElem?_set_ne (by decide)]; exact q1
  · exact ⟨v, rfl, hq v d G2 H2 (hv d r) n2 dz⟩
end
end Dv

set_option linter.all false
set_option maxRecDepth 100000
set_option maxHeartbeats 4000000
/-! t * 1, t * 0 -/
namespace Dv
open PySem PySem.Spec PyProof.Rows L2 RZ
variable [Tbl]
theorem tuple_mul1 (l : Addr) (items : Array Value) (n : Nat) (dd : Option Addr) (sl : Array (Option Value)) (u : Tok) :
    Meets (Builtin.«tuple.__mul__» ⟨[.ref l, .int 1 u], []⟩) (fun _ R s => s.heap.get? l = some { cls := .type "tuple", dict := dd, data := .seq items n, slots := sl } ∧
      R (.ok (.ret (Value.ref l))) s) :=
  .of_wp fun prog w A R s h => by
    obtain ⟨hp, g, d, tk, os⟩ := s
    obtain ⟨hl, h⟩ := h
    have f1 := AutoSeq1.idx_int
    wp_walk using wpAny_loadPart' hl
    exact ⟨_, rfl, h⟩
theorem tuple_mul0 (l : Addr) (items : Array Value) (n : Nat) (dd : Option Addr) (sl : Array (Option Value)) (u : Tok) (hi : (items.isEmpty || (0 : Int) == 1) = false) :
    Meets (Builtin.«tuple.__mul__» ⟨[.ref l, .int 0 u], []⟩) (fun _ R s => s.heap.get? l = some { cls := .type "tuple", dict := dd, data := .seq items n, slots := sl } ∧
      R (.ok (.ret (Value.ref s.heap.objs.size))) { s with heap := s.heap.push { cls := Value.type "tuple", data := Data.seq #[] }, toks := s.toks }) :=
  .of_wp fun prog w A R s h => by
    obtain ⟨hp, g, d, tk, os⟩ := s
    obtain ⟨hl, h⟩ := h
    have f1 := AutoSeq1.idx_int
    wp_walk using wpAny_loadPart' hl
    repeat (first
      | (refine wpAny_ite_false (decide_eq_false (by rw [hi]; exact Bool.false_ne_true)) ?_; wp_walk using wpAny_loadPart' hl))
    exact ⟨_, rfl, h⟩
def rRep1 (K : PySem.W.Frag) : R2 := fun x y H Q => ∃ l xs, x = .ref l ∧ y = .int 1 ∧ SqT K H l xs ∧ Q (.ref l) H
def rRep0 (K : PySem.W.Frag) : R2 := fun x y H Q => ∃ l xs, x = .ref l ∧ y = .int 0 ∧ SqT K H l xs ∧ xs ≠ [] ∧ ∀ p, H p = none → Q (.ref p) (upd H p (.tup []))
section
variable {X : Cx} {ds : List Dt} {R : Dt → Prop}
theorem op_rep1T : OpR X (binaryOp .Mult) (rRep1 X.K) := by
  intro pins s σ H x y v u Q I rx ry h
  obtain ⟨l, xs, rfl, rfl, hT, q⟩ := h
  cases rx
  obtain ⟨t, rfl⟩ := ry
  obtain ⟨its, r, ⟨⟨cls, dd, data, sl⟩, ho, hc, n, hd⟩, hs⟩ := I.tuple hT
  simp only at hc hd
  subst hc hd
  refine wpAny_binaryOp_repeat_ref (T := "tuple") (U := "int") (by decide) ⟨_, ho, rfl⟩ (fun s' => typeIs_int s' 1 t) noFill_tuple_mul F.fills_int_mul F.slot_int_rmul repeat_tuple F.slot_int_index.lookup
    (call_meets F.slot_int_rmul (typeIs_int s 1 t) F.entry_int_rmul (F.args_int_rmul_2 _ _) (int_rmul_tuple 1 t l its.toArray n dd sl)
      ⟨ho, rfl, ⟨_, ho, rfl⟩, call_meets F.slot_tuple_mul ⟨_, ho, rfl⟩ F.entry_tuple_mul (F.args_tuple_mul_2 _ _) (tuple_mul1 l its.toArray n dd sl t) ⟨ho, ?_⟩⟩)
  exact ⟨.ref l, _, I, rfl, q⟩
theorem op_rep0T : OpR X (binaryOp .Mult) (rRep0 X.K) := by
  intro pins s σ H x y v u Q I rx ry h
  obtain ⟨l, xs, rfl, rfl, hT, hne, q⟩ := h
  cases rx
  obtain ⟨t, rfl⟩ := ry
  obtain ⟨its, r, ⟨⟨cls, dd, data, sl⟩, ho, hc, n, hd⟩, hs⟩ := I.tuple hT
  simp only at hc hd
  subst hc hd
  have hle : its.length = xs.length := r.length.symm
  have hi : (its.toArray.isEmpty || (0 : Int) == 1) = false := by
    cases its with
    | nil => exact absurd (List.eq_nil_of_length_eq_zero hle.symm) hne
    | cons a b => rfl
  refine wpAny_binaryOp_repeat_ref (T := "tuple") (U := "int") (by decide) ⟨_, ho, rfl⟩ (fun s' => typeIs_int s' 0 t) noFill_tuple_mul F.fills_int_mul F.slot_int_rmul repeat_tuple F.slot_int_index.lookup
    (call_meets F.slot_int_rmul (typeIs_int s 0 t) F.entry_int_rmul (F.args_int_rmul_2 _ _) (int_rmul_tuple 0 t l its.toArray n dd sl)
      ⟨ho, rfl, ⟨_, ho, rfl⟩, call_meets F.slot_tuple_mul ⟨_, ho, rfl⟩ F.entry_tuple_mul (F.args_tuple_mul_2 _ _) (tuple_mul0 l its.toArray n dd sl t hi) ⟨ho, ?_⟩⟩)
  refine ⟨.ref s.heap.objs.size, _, I.laid (t' := s.toks) (o := .tup []) (fun b ob q => Heap.get?_push_of_some _ q) (Nat.le_refl _) ?_, rfl, q _ (I.hok.fresh (Nat.le_refl _))⟩
  exact ⟨Nat.zero_le _, [], .nil, IsTup.new _ _⟩
/-- t * k, any k from 0 on -/
theorem bp_repA {k : Int} (h0 : ds ≠ []) (hl : ds.length ≤ 1000) (k0 : 0 ≤ k) (k1 : k ≤ 1000) (r : R (.tuple (List.replicate k.toNat ds).flatten)) : BinP X .Mult (.tuple ds) (.int k) R := by
  by_cases c1 : k = 1
  · subst c1
    have r2 : R (.tuple ds) := by
      have e : (List.replicate (1 : Int).toNat ds).flatten = ds := by show ds ++ [] = ds; rw [List.append_nil]
      rw [e] at r; exact r
    refine ⟨_, op_rep1T, ?_⟩
    intro p B G H v w i3 h1 h2 Q q
    cases h2
    cases h1 with
    | tup hs ha => exact ⟨_, _, rfl, rfl, ex_t i3.gh hs, q _ _ G H r2 (.refl i3) (.tup hs ha)⟩
  by_cases c0 : k = 0
  · subst c0
    refine ⟨_, op_rep0T, ?_⟩
    intro p B G H v w i3 h1 h2 Q q
    cases h2
    cases h1 with
    | tup hs ha => exact ⟨_, _, rfl, rfl, ex_t i3.gh hs, fun e => h0 (by subst e; cases ha; rfl), fun l hl => q _ _ _ _ r (.new i3 _ hl) (.tup (.inl (.inl upd_same)) .nil)⟩
  exact bp_repT h0 hl (by omega) k1 r
end
end Dv

set_option linter.all false
set_option maxRecDepth 100000
set_option maxHeartbeats 4000000
namespace Dv
open PySem PySem.Spec PyProof.Rows L2
open LamX (TabB)
theorem nnz {α : Type} {o : Option α} {u : α} (h : o = some u) : o ≠ none := by rw [h]; intro z; cases z
/-! the law's call where some defs make lambdas: cs, their code objects and tables -/
theorem law_callT {P : Program} {w : World} {K : Fg} {mg mb : Str → Option Value} {k : Nat} {fa a : Addr} {cs : List (Addr × Addr)} {fd : FuncData} {x : Str} {sp : Sp} {s₁ : Shared} {vs : List Value} {ns : List Int}
    (KX : K.In s₁.heap) (hns : s₁.heap.Ns mainGlobals mg) (hb : s₁.heap.Ns builtinsNs mb) (hbb : ∀ x : Str, x ≠ "__name__" → mb x = bootBuiltins x) (hlim : s₁.heap.NoLimit) (hg : s₁.gens = #[])
    (t1 : ∀ p ∈ cs, s₁.heap.get? p.2 = some { cls := .none, data := .fields #[] }) (t2 : ∀ p ∈ cs, K.lookup p.2 = none) (t3 : ∀ p ∈ cs, PySem.W.CodeHd s₁.heap p.1 p.2)
    (bmain : ∃ (bm : Addr) (ob : Obj), mg "__builtins__" = some (.ref bm) ∧ bm ≠ builtinsNs ∧ s₁.heap.get? bm = some ob ∧ ob.cls = .type "module" ∧ ob.dict = some builtinsNs ∧ ob.data = .plain)
    (ha : s₁.heap.get? a = some { cls := .type "list", data := .seq vs.toArray }) (hi : IntsAre vs ns) (hl : ns.length ≤ sizeLine) (hr : Room k callerA)
    (F : ∀ base : Heap, K.In base → base.Ns mainGlobals mg → (∀ p ∈ cs, TabB base mg p.1 p.2) → FnG P w K mg base k fa fd [x] sp) (hbind : ∀ (s : Shared) (u : Value), BindsTo s fd ⟨[u], []⟩ [(x, u)])
    (hsp : ∀ H : Hp, (∀ p ∈ cs, H p.2 = some (.tbl #[])) → SqX K H a (ns.map V.int) → (∀ p ∈ cs, p.2 ≠ a) → sp [.ref a] H (fun v _ => v = .bl true) E0) :
    codeAny (model P w) callerA (.call (.ref fa) ⟨[.ref a], []⟩) (fun r s' => r = .ok (.ret (.bool true)) ∧ OldK s₁.heap s'.heap ∧ s'.os = s₁.os ∧ AllBare s'.gens) s₁ := by
  have rv := vals_ints hi
  have lenV := hi.length
  have ne : ∀ p ∈ cs, p.2 ≠ a := fun p hp z => by
    have := t1 p hp
    rw [z, ha] at this
    cases this
  have main : ∀ H : Hp, (∀ p ∈ cs, H p.2 = some (.tbl #[])) → (∀ b, H b = none ∨ (∃ p ∈ cs, p.2 = b) ∨ ∃ o xs, H b = some (.frz o (.lst xs))) → SqX K H a (ns.map V.int) → HOk P w H s₁.heap → (∀ b, H b ≠ none → (b = a ∧ K.lookup a = none) ∨ ∃ p ∈ cs, p.2 = b) →
      codeAny (model P w) callerA (.call (.ref fa) ⟨[.ref a], []⟩) (fun r s' => r = .ok (.ret (.bool true)) ∧ OldK s₁.heap s'.heap ∧ s'.os = s₁.os ∧ AllBare s'.gens) s₁ := by
    intro H hT hO hS hok hA
    have seen : ∀ {b : Addr} {o : Obj}, s₁.heap.get? b = some o → H b = none → (hidT s₁.heap H).get? b = some o := fun e n => hidT_get e n
    have free : ∀ {b : Addr} {o : Obj}, s₁.heap.get? b = some o → (∀ us n, o.data ≠ .seq us n) → o.data ≠ .fields #[] → H b = none := fun {b o} e d1 d2 => by
      cases q : H b with
      | none => rfl
      | some u =>
        rcases hA b (nnz q) with ⟨z, _⟩ | ⟨p, hp, z⟩
        · subst z
          rw [ha] at e; cases e
          exact absurd rfl (d1 _ _)
        · rw [← z, t1 p hp] at e; cases e
          exact absurd rfl d2
    have nsT : ∀ {b : Addr} {m : Str → Option Value}, s₁.heap.Ns b m → (hidT s₁.heap H).Ns b m := fun {b m} ⟨o, es, ep, e, d, r⟩ => ⟨o, es, ep, seen e (free e (fun us n z => by rw [d] at z; cases z) fun z => by rw [d] at z; cases z), d, r⟩
    have hKb : K.In (hidT s₁.heap H) := fun b o e => seen (KX b o e) (by
      cases q : H b with
      | none => rfl
      | some u =>
        rcases hA b (nnz q) with ⟨z, z2⟩ | ⟨p, hp, z⟩
        · subst z
          rw [z2] at e; cases e
        · rw [← z, t2 p hp] at e; cases e)
    have hM : Mod K mg (hidT s₁.heap H) := ⟨hKb, nsT hns, ⟨mb, nsT hb, hbb⟩, let ⟨mc, h1, h2⟩ := hlim; ⟨mc, nsT h1, h2⟩⟩
    have tabs : ∀ p ∈ cs, TabB (hidT s₁.heap H) mg p.1 p.2 := fun p hp => by
      have here := t1 p hp
      obtain ⟨o, us, fl, tf, fg, tg, inF, tx, tt, e1, e2, e3, e4, r⟩ := t3 p hp
      obtain ⟨bm, ob, b1, b2, b3, b4, b5, b6⟩ := bmain
      have notG : bm ≠ mainGlobals := fun z => by
        obtain ⟨o2, es, ep, e, d, _⟩ := hns
        rw [z, e] at b3; cases b3
        rw [d] at b6; cases b6
      have notP : bm ≠ p.2 := fun z => by
        rw [z, here] at b3; cases b3
        cases b6
      refine ⟨⟨o, us, fl, tf, fg, tg, inF, tx, tt, seen e1 (free e1 (fun us n z => by rw [e3] at z; cases z) fun z => by rw [e3] at z; cases z; simp at e4), e2, e3, e4, r⟩, ⟨bm, ob, b1, b2, notG, notP, seen b3 (free b3 (fun us n z => by rw [b6] at z; cases z) fun z => by rw [b6] at z; cases z), b4, b5, b6⟩, fun z => ?_⟩
      obtain ⟨o2, es, ep, e, d, _⟩ := hns
      rw [z, here] at e; cases e
      cases d
    have e0 : Env0 P w K mg (hidT s₁.heap H) callerA [] s₁ H := ⟨rfl, hM, fun b o e => of_hidT e, Nat.le_of_eq (hidT_size _ _), trivial, fun b hb => absurd (show b ∈ ([] : List Addr) from hb) (by simp), hok, .of_eq hg⟩
    refine codeAny_mono ((F _ hKb (nsT hns) tabs).run callerA [] s₁ H ⟨[.ref a], []⟩ [.ref a] [.ref a] _ _ hr rfl e0 (hbind s₁ (.ref a)) (.cons rfl .nil) (hsp H hT hS ne)) fun r s' h => ?_
    cases r with
    | error e => exact False.elim h
    | ok fl =>
      cases fl with
      | next => exact False.elim h
      | brk => exact False.elim h
      | cont => exact False.elim h
      | ret u =>
        obtain ⟨v, H', os, bare, un, hok', r', q⟩ := h
        have q' : v = .bl true := q
        subst q'
        obtain rfl : u = Value.bool true := r'
        have other : ∀ b o, (∀ p ∈ cs, p.2 ≠ b) → s₁.heap.get? b = some o → s'.heap.get? b = some o := fun b o nb e => by
          cases q : H b with
          | none => exact un.keep b o e q (by intro z; exact absurd (show b ∈ ([] : List Addr) from z) (by simp)) (by simp)
          | some u =>
            rcases hO b with z | ⟨p, hp, z⟩ | ⟨ob, xs, z⟩
            · rw [q] at z; cases z
            · exact absurd z (nb p hp)
            · have z2 := un.frzs b ob _ z
              obtain ⟨e1, _⟩ := hok b _ z
              obtain ⟨e2, _⟩ := hok' b _ z2
              rw [e] at e1; cases e1
              exact e2
        have more : ∀ p ∈ cs, ∃ ws : Array Value, s'.heap.get? p.2 = some { cls := .none, data := .fields ws } := fun p hp => by
          obtain ⟨ws, z⟩ := un.tbls p.2 #[] (hT p hp)
          exact ⟨_, hok' p.2 _ z⟩
        refine ⟨rfl, ⟨fun b o e => ?_, fun b o e => ?_⟩, os, bare⟩
        · by_cases hb : ∃ p ∈ cs, p.2 = b
          · obtain ⟨p, hp, rfl⟩ := hb
            obtain ⟨ws, hw⟩ := more p hp
            rw [t1 p hp] at e; cases e
            exact .inr (.inl ⟨((t3 p hp).tab (t1 p hp)).isCodeTable, rfl, #[], ws, rfl, by rw [Array.empty_append]; exact hw⟩)
          · exact .inl (other b o (fun p hp z => hb ⟨p, hp, z⟩) e)
        · by_cases hb : ∃ p ∈ cs, p.2 = b
          · obtain ⟨p, hp, rfl⟩ := hb
            obtain ⟨ws, hw⟩ := more p hp
            exact ⟨_, hw⟩
          · exact ⟨o, other b o (fun p hp z => hb ⟨p, hp, z⟩) e⟩
  let T : Hp := fun b => if (cs.any fun p => p.2 == b) = true then some (.tbl #[]) else none
  have inT : ∀ p ∈ cs, T p.2 = some (.tbl #[]) := fun p hp => if_pos (List.any_eq_true.mpr ⟨p, hp, by simp⟩)
  have ofT : ∀ b, T b ≠ none → ∃ p ∈ cs, p.2 = b := fun b h => by
    by_cases z : (cs.any fun p => p.2 == b) = true
    · obtain ⟨p, hp, e⟩ := List.any_eq_true.mp z
      exact ⟨p, hp, eq_of_beq e⟩
    · exact absurd (if_neg z) h
  have okT : ∀ b u, T b = some u → u = .tbl #[] := fun b u h => by
    by_cases z : (cs.any fun p => p.2 == b) = true
    · rw [show T b = _ from if_pos z] at h; cases h; rfl
    · rw [show T b = _ from if_neg z] at h; cases h
  cases hk : K.lookup a with
  | some o =>
    have e := KX a o hk
    rw [ha] at e
    cases e
    refine main T inT (fun b => ?_) (.inr ⟨vs, _, hk, by rw [lenV]; exact hl, rv⟩) (fun b u z => ?_) (fun b z => .inr (ofT b z))
    · cases q : T b with
      | none => exact .inl rfl
      | some u => exact .inr (.inl (ofT b (nnz q)))
    · obtain ⟨p, hp, rfl⟩ := ofT b (nnz z)
      rw [okT _ u z]
      exact t1 p hp
  | none =>
    refine main (fun b => if b = a then some (.frz { cls := .type "list", data := .seq vs.toArray } (.lst (ns.map V.int))) else T b) (fun p hp => (if_neg (ne p hp)).trans (inT p hp)) (fun b => ?_) (.inl (.inr ⟨{ cls := .type "list", data := .seq vs.toArray }, if_pos rfl⟩)) (fun b u z => ?_) (fun b z => ?_)
    · by_cases hb : b = a
      · exact .inr (.inr ⟨_, _, if_pos hb⟩)
      · cases q : T b with
        | none => exact .inl ((if_neg hb).trans (by first | rfl | exact q))
        | some u => exact .inr (.inl (ofT b (nnz q)))
    · by_cases hb : b = a
      · have z' := (if_pos hb).symm.trans z
        cases z'
        subst hb
        exact ⟨ha, by rw [List.length_map]; exact hl, vs, _, rv, ha⟩
      · have z' := (if_neg hb).symm.trans z
        obtain ⟨p, hp, rfl⟩ := ofT b (nnz z')
        rw [okT _ u z']
        exact t1 p hp
    · by_cases hb : b = a
      · exact .inl ⟨hb, hk⟩
      · exact .inr (ofT b fun w => z ((if_neg hb).trans w))
end Dv
namespace Dv
open PySem PySem.Spec PyProof.Rows L2
open LamX (TabB)
/-- what the lambdas of the def x are called -/
def lq (x : Str) : Str := (envOfC x default 0 0 .none).qual ++ "<lambda>"
abbrev LamDef := Str × Addr × Addr
@[reducible] def tblOf (L : List LamDef) : Tbl := ⟨L.map fun p => (p.2.2, lq p.1)⟩
theorem walkGT {l : PySem.W.OpenLaw} {n k : Nat} {q : Program} {loose : List Str} {XP : (Str → Option Value) → Heap → Prop} {YP : World → Heap → Prop} {d : DefRec} {K : Params → PySem.W.Frag} {x : Str}
    (hn : l.most = some n) (hn2 : n ≤ sizeLine) (hdf : d.params.defaults = []) (hr : Room k callerA) (hY : ∀ (w : World) (h : Heap), YP w h → (K w.params).In h)
    (F : ∀ (w : World) (mg : Str → Option Value) (fa : Addr) (h : Heap), (K w.params).In h → h.Ns mainGlobals mg → mg d.name = some (.ref fa) →
      ∃ (L : List LamDef) (fd : FuncData), (∀ p ∈ L, PySem.W.tabIn (K w.params) p.1 = some p.2 ∧ (K w.params).lookup p.2.2 = none ∧ ((recsOf q).find? fun e => e.name == p.1).isSome = true) ∧ (∀ (s : Shared) (u : Value), BindsTo s fd ⟨[u], []⟩ [(x, u)]) ∧
        ∀ base : Heap, (K w.params).In base → base.Ns mainGlobals mg → (∀ p ∈ L, TabB base mg p.2.1 p.2.2) → FnG l.prog w (K w.params) mg base k fa fd [x] (@spD (tblOf L) (K w.params) (rLaw n))) :
    PySem.W.WalkO q loose XP YP l.row.toRowW d [] (fun f vs => PySem.call f vs) := by
  refine Att.attach_call hn hdf fun w s₀ s₁ mg mb fa o pm cd doc a vs ns G Y ho hd hcd hmg hobj hints hlen hg => ?_
  have KX := hY w _ Y
  obtain ⟨L, fd, hL, hb, hF⟩ := F w mg fa _ KX G.T.g hmg
  have tab : ∀ p ∈ L, PySem.W.CodeHd s₁.heap p.2.1 p.2.2 ∧ s₁.heap.get? p.2.2 = some { cls := .none, data := .fields #[] } := fun p hp => by
    obtain ⟨h1, _, h3⟩ := hL p hp
    obtain ⟨d2, h4⟩ := Option.isSome_iff_exists.mp h3
    exact PySem.W.tab_of G.T KX h4 h1
  have inL : ∀ r ∈ L.map (·.2), ∃ p ∈ L, p.2 = r := fun r hr2 => by
    obtain ⟨p, hp, e⟩ := List.mem_map.mp hr2
    exact ⟨p, hp, e⟩
  refine law_callT (cs := L.map (·.2)) KX G.T.g G.T.b G.T.builtins G.T.nolimit hg (fun r hr2 => ?_) (fun r hr2 => ?_) (fun r hr2 => ?_) G.T.bmain hobj hints (Nat.le_trans hlen hn2) hr (fun base b1 b2 b3 => hF base b1 b2 fun p hp => b3 p.2 (List.mem_map.mpr ⟨p, hp, rfl⟩)) hb fun H hT hS ne => ?_
  · obtain ⟨p, hp, rfl⟩ := inL r hr2
    exact (tab p hp).2
  · obtain ⟨p, hp, rfl⟩ := inL r hr2
    exact (hL p hp).2.1
  · obtain ⟨p, hp, rfl⟩ := inL r hr2
    exact (tab p hp).1
  let G0 : Hp := fun b => if (L.any fun p => p.2.2 == b) = true then none else H b
  have G0a : G0 a = H a := if_neg fun z => by
    obtain ⟨p, hp, e⟩ := List.any_eq_true.mp z
    exact ne p.2 (List.mem_map.mpr ⟨p, hp, rfl⟩) (eq_of_beq e)
  have le : ∀ b o, G0 b = some o → H b = some o := fun b o h => by
    by_cases z : (L.any fun p => p.2.2 == b) = true
    · rw [show G0 b = _ from if_pos z] at h; cases h
    · rw [show G0 b = _ from if_neg z] at h; exact h
  have sq : SqX (K w.params) G0 a (ns.map V.int) := by
    rcases hS with h | h
    · left
      unfold L2.Rd at h ⊢
      rw [G0a]
      exact h
    · exact .inr h
  letI : Tbl := tblOf L
  refine ⟨G0, [.list (ns.map PyData.int)], .bool true, ⟨le, fun r hr2 => ?_, fun r hr2 => ?_⟩, .cons (.lst sq (dpAll_of_ints ns)) .nil, ⟨ns, hlen, rfl, rfl⟩, fun v G' H' _ _ _ hv => by cases hv; rfl⟩
  · obtain ⟨p, hp, rfl⟩ := List.mem_map.mp hr2
    exact .nil (hT p.2 (List.mem_map.mpr ⟨p, hp, rfl⟩))
  · obtain ⟨p, hp, rfl⟩ := List.mem_map.mp hr2
    exact if_pos (List.any_eq_true.mpr ⟨p, hp, by simp⟩)
end Dv
namespace Dv
open PySem PySem.Spec PyProof.Rows L2
variable [Tbl]
/-! a def whose own code object is known -/
section
variable {P : Program} {w : World} {K : Fg} {mg : Str → Option Value} {base : Heap}
theorem fnG_ofC {x : Str} {st : Stmt} {f : Addr} {fd : FuncData} {N ps : List Str} {k : Nat} {sp : Sp} (F : Fun K x x st f fd) (S : FnScope N ps (defScope st)) (len : ∀ vs H Q E, sp vs H Q E → vs.length = ps.length)
    (body : ∀ (A : Around) (outer : List Env) (s : Shared) (H : Hp) (vs : List V) (Q : VK) (E : L2.XK), Room k (A.deeper (envOfC x (defScope st) s.heap.objs.size f fd.code)) → A.guards = some [] → sp vs H Q E →
      ∃ t, PSs (xc P w K mg base N x st f fd.code A outer s H E) (defBody st) t ∧ t { nx := fun _ H' => Q .non H', rt := Q } (start N vs) H) : FnG P w K mg base (k + 1) f fd ps sp := by
  obtain ⟨oc, od, kV, doc, pm, an, cdv, ct, osl, rfl, lk, hcd⟩ := F.ex
  refine ⟨len, fun A outer s H args us vs Q E hr hg e0 hb r hsp => ?_⟩
  have hl := len _ _ _ _ hsp
  have KX : K.In s.heap := e0.mod.kin.keeps fun b o e => (e0.bs b o e).1
  have lim : s.heap.NoLimit := e0.mod.nolimit.keeps fun b o e => (e0.bs b o e).1
  refine codeAny_call_function hr.depth (KX _ _ lk) rfl S.co S.gen rfl (PySem.W.codeRec_of KX hcd) (hb _ _ _ _ ?_)
  refine wpAny_newFunctionEnv_cells S.kind (fun ⟨n, v⟩ hy => ?_) fun env he s1 z => ?_
  · rcases S.par n (List.of_mem_zip hy).1 with q | q
    · exact .inl q
    · exact .inr ⟨q, PySem.W.cellsFrom_some _ _ _ (.inl q)⟩
  · subst he
    refine ⟨lim.keeps z.toInCall.keep, codeAny_func ?_⟩
    obtain ⟨t, ht, hq⟩ := body A outer s H vs Q E (hr.deeper _) hg hsp
    have I : Inv (cxOf CX0 P w K mg base N x (defScope st) f cdv A outer s H E) [] (start N vs) H s1 := inv_start S hr.hd e0 hl r z
    refine wpAny_mono (ht.nox.run [] s1 (start N vs) H _ I hq) (fun fl s' hs => ?_) fun e s' hs => hs
    cases fl with
    | ret u => obtain ⟨v, σ', H', J, rv, q⟩ := hs; exact ⟨v, H', J.os, J.bare, J.base, J.hok, rv, q⟩
    | next => obtain ⟨σ', H', J, q⟩ := hs; exact ⟨V.non, H', J.os, J.bare, J.base, J.hok, rfl, q⟩
    | brk => obtain ⟨_, _, _, q⟩ := hs; exact False.elim q
    | cont => obtain ⟨_, _, _, q⟩ := hs; exact False.elim q
end
section
variable {P : Program} {w : World} {K : Fg} {mg : Str → Option Value} {base : Heap} {x : Str} {st : Stmt} {f : Addr} {fd : FuncData} {N ps : List Str} {k : Nat} {R : List Dt → Dt → Prop}
theorem fn_dataC (F : Fun K x x st f fd) (S : FnScope N ps (defScope st)) (len : ∀ ds d, R ds d → ds.length = ps.length)
    (body : ∀ (A : Around) (outer : List Env) (s : Shared) (H : Hp) (E : L2.XK), Room k (xc P w K mg base N x st f fd.code A outer s H E).A → (xc P w K mg base N x st f fd.code A outer s H E).A.guards = some [] → (xc P w K mg base N x st f fd.code A outer s H E).A.units + 64 < cLine →
      ∀ ds d, R ds d → SsD (xc P w K mg base N x st f fd.code A outer s H E) (defBody st) (stD N (ds.map .d)) { nx := fun _ => d = .none, rt := fun y => y = d }) : FnG P w K mg base (k + 1) f fd ps (spD K R) := by
  refine fnG_ofC F S (fun vs H Q E ⟨G, ds, d, _, h, r, _⟩ => by rw [dpAll_length h]; exact len ds d r) fun A outer s H vs Q E hr hg ⟨G, ds, d, eg, h, r, q⟩ => ?_
  refine ⟨_, body A outer s H E hr hg hr.units ds d r, none, H, G, ⟨Exd.refl H, eg.1, (fun _ z => nomatch z), eg.2⟩, env_data h, ?_, ?_, ?_, ?_, ?_⟩
  · intro δ σ G' H' e s' i en
    subst e
    exact q .non G' H' s' i.bh i.gh .non
  · intro d' v G' H' e s' i hv
    subst e
    exact q v G' H' s' i.bh i.gh hv
  · intro _ _ _ _ z; exact z.elim
  · intro _ _ _ _ z; exact z.elim
  · intro _ _ _ _ _ z; exact z.elim
theorem fn_potC {R : List Dt → (Dt → Prop) → Prop} (F : Fun K x x st f fd) (S : FnScope N ps (defScope st)) (len : ∀ ds T, R ds T → ds.length + 1 = ps.length)
    (body : ∀ (A : Around) (outer : List Env) (s : Shared) (H : Hp) (E : L2.XK), Room k (xc P w K mg base N x st f fd.code A outer s H E).A → (xc P w K mg base N x st f fd.code A outer s H E).A.guards = some [] → (xc P w K mg base N x st f fd.code A outer s H E).A.units + 64 < cLine →
      ∀ ds T, R ds T → SsD (xc P w K mg base N x st f fd.code A outer s H E) (defBody st) (stD N (.pot :: ds.map .d)) { nx := fun _ => T .none, rt := T }) : FnG P w K mg base (k + 1) f fd ps (spP K R) := by
  refine fnG_ofC F S (fun vs H Q E ⟨B, G, q, ws, ds, T, _, e, h, r, _⟩ => by rw [e, List.length_cons, dpAll_length h]; exact len ds T r) fun A outer s H vs Q E hr hg ⟨B, G, q, ws, ds, T, i, e, h, r, qq⟩ => ?_
  subst e
  refine ⟨_, body A outer s H E hr hg hr.units ds T r, some q, B, G, i, env_pot h, ?_, ?_, ?_, ?_, ?_⟩
  · intro δ σ G' H' t s' i' en
    exact qq .non .none G' H' t s' i' .non
  · intro d' v G' H' t s' i' hv
    exact qq v d' G' H' t s' i' hv
  · intro _ _ _ _ z; exact z.elim
  · intro _ _ _ _ z; exact z.elim
  · intro _ _ _ _ _ z; exact z.elim
end
end Dv

set_option linter.all false
set_option maxRecDepth 100000
set_option maxHeartbeats 4000000
namespace Dv
open PySem PySem.Spec PyProof.Rows L2 RZ
variable [Tbl]
section
variable {X : Cx} {a b e : Expr} {δ : De} {p pos p3 p4 : Pos} {S : List Dt → Prop} {R : Dt → Prop}
/-- list(range(i, j)) -/
theorem c_listRg2 (h : XD X a δ fun d => XD X b δ fun d2 => ∃ i j : Int, d = .int i ∧ d2 = .int j ∧ RgOk i j ∧ R (.list ((List.range (j - i).toNat).map fun k : Nat => PyData.int (i + ((k : Nat) : Int))))) (F : Free X.mg := by assumption) (hc : X.calm = true := by rfl) (hg : Gl X "list" := by rfl) (hg2 : Gl X "range" := by rfl)
    (hs1 : starEach [a, b] X.env = (false, eval a X.env) :: starEach [b] X.env := by rfl) (hs2 : starEach [b] X.env = (false, eval b X.env) :: starEach [] X.env := by rfl) (hp : (backTo p4 (starEach [b] X.env)).any (·.1) = false := by rfl) (hs3 : starEach [.Call (.Name "range" p3) [a, b] [] p4] X.env = (false, eval (.Call (.Name "range" p3) [a, b] [] p4) X.env) :: starEach [] X.env := by rfl) :
    XD X (.Call (.Name "list" p) [.Call (.Name "range" p3) [a, b] [] p4] [] pos) δ R :=
  PE.imp (pe_listRg hc hg (F "list" (by decide +kernel)) (prg_2 hg2 (F "range" (by decide +kernel)) h (pe_later (δ := δ)) hs1 hs2 hp) hs3) fun σ H Q ⟨p, B, G, i3, en, q⟩ => two_c i3 en fun v w d1 d2 G' H' ⟨i, j, e1, e2, hr, k⟩ n i' h1 h2 => by
    subst e1; subst e2
    cases h1; cases h2
    refine ⟨_, _, rfl, rfl, hr, fun l hl => q _ _ _ _ k (n.trans (.new i' _ hl)) (.lst (.inl (.inl upd_same)) ?_)⟩
    have e1 : rgV i j = ((List.range (j - i).toNat).map fun k : Nat => i + ((k : Nat) : Int)).map V.int := by
      unfold rgV
      rw [List.map_map]
      rfl
    have e2 : ((List.range (j - i).toNat).map fun k : Nat => PyData.int (i + ((k : Nat) : Int))) = ((List.range (j - i).toNat).map fun k : Nat => i + ((k : Nat) : Int)).map PyData.int := by rw [List.map_map]; rfl
    rw [e1, e2]
    exact dpAll_of_ints _
end
end Dv

set_option linter.all false
set_option maxRecDepth 100000
set_option maxHeartbeats 4000000
section
open PySem PySem.Spec PyProof.Rows L2 RZ Dv in
local macro_rules | `(tactic| infer_instance) => `(tactic| first
  | (refine is_var ?_; refine c_var (by repeat (first | exact Nx.z | apply Nx.s)) (by rfl) ?_)
  | (refine is_var ?_; refine c_globI (by assumption) ?_)
  | (refine c_int ?_)
  | (refine c_bl ?_)
  | (refine c_str ?_)
  | (refine c_non ?_)
  | (refine c_dict0 ?_)
  | (refine c_ix ?_)
  | (refine ip_tup (by rfl) ?_)
  | (refine ip_list (by rfl) ?_)
  | (refine ip_tup at0 ?_)
  | (refine ip_list at0 ?_)
  | (refine c_bin ?_)
  | (refine bp_add ?_)
  | (refine bp_sub ?_)
  | (refine c_cmp (nomark _) ?_)
  | (refine c_cmpV (nomark _) ?_)
  | (refine cp_lt ?_)
  | (refine cp_le ?_)
  | (refine cp_gt ?_)
  | (refine cp_ge ?_)
  | (refine cp_eqI ?_)
  | (refine cp_neI ?_)
  | (refine cp_eqB ?_)
  | (refine cp_neB ?_)
  | (refine cp_isN ?_)
  | (refine cp_notN ?_)
  | (refine cp_eqS ?_)
  | (refine cp_neS ?_)
  | (refine c_tup ?_)
  | (refine c_lst ?_)
  | (refine a_c ?_)
  | (refine a_n ?_)
  | (refine c_w ?_)
  | (refine w_a ?_)
  | (refine w_o ?_)
  | (refine w_a1 ?_)
  | (refine w_o1 ?_)
  | (refine v_a ?_)
  | (refine v_o ?_)
  | (refine v_1 ?_)
  | (refine c_not ?_)
  | (refine c_notV ?_)
  | (refine c_if ?_)
  | (refine c_neg ?_)
  | (refine c_chain ?_)
  | (refine c_chainT ?_)
  | (refine c_len ?_)
  | (refine f_lenL ?_)
  | (refine f_lenT ?_)
  | (refine c_isiI ?_)
  | (refine c_isiB ?_)
  | (refine c_isiT ?_)
  | (refine c_isiL ?_)
  | (refine c_isiS ?_)
  | (refine c_isiLT ?_)
  | (refine c_repr ?_)
  | (refine c_tuple ?_)
  | (refine f_tupL ?_)
  | (refine f_tupT ?_)
  | (refine c_list ?_)
  | (refine f_listL ?_)
  | (refine f_listT ?_)
  | (refine c_max2 ?_)
  | (refine c_min2 ?_)
  | (refine f_max2 ?_)
  | (refine f_min2 ?_)
  | (refine c_slice ?_)
  | (refine c_sum ?_)
  | (refine f_sum ?_)
  | (refine f_sumT ?_)
  | (refine o_n ?_)
  | (refine o_s ?_)
  | (refine sl_l ?_)
  | (refine sl_t ?_)
  | (refine is_callN ?_; refine c_call (by assumption) ?_)
  | (refine is_rng ?_; refine s_rng1 (by repeat (first | exact Nx.z | apply Nx.s)) (by intro _; repeat (first | exact SetR.z | apply SetR.s)) ?_)
  | (refine is_let ?_; refine s_let (by repeat (first | exact Nx.z | apply Nx.s)) (by intro _; repeat (first | exact SetR.z | apply SetR.s)) ?_)
  | (refine s_ret' ?_)
  | (refine s_ifs ?_)
  | (refine is_two ?_; refine s_two (by repeat (first | exact Nx.z | apply Nx.s)) (by repeat (first | exact Nx.z | apply Nx.s)) (by intro _; repeat (first | exact SetR.z | apply SetR.s)) (by intro _ _; repeat (first | exact SetR.z | apply SetR.s)) ?_)
  | (refine is_three ?_; refine s_three (by repeat (first | exact Nx.z | apply Nx.s)) (by repeat (first | exact Nx.z | apply Nx.s)) (by repeat (first | exact Nx.z | apply Nx.s)) (by intro _; repeat (first | exact SetR.z | apply SetR.s)) (by intro _ _; repeat (first | exact SetR.z | apply SetR.s)) (by intro _ _ _; repeat (first | exact SetR.z | apply SetR.s)) ?_)
  | (refine s_do ?_)
  | (refine ss_n ?_)
  | (refine ⟨_, ⟨_, rfl, rfl⟩, ?_⟩)
  | (refine ⟨_, ⟨_, by assumption, rfl, rfl⟩, ?_⟩)
  | (refine ⟨_, ⟨_, _, rfl, rfl⟩, ?_⟩)
  | (refine ⟨_, ⟨_, _, _, rfl, rfl⟩, ?_⟩)
  | (refine ⟨_, ⟨_, _, _, _, rfl, rfl⟩, ?_⟩)
  | (refine ⟨_, ⟨_, _, _, by decide, rfl, rfl⟩, ?_⟩)
  | (refine i_range1 ?_)
  | (refine i_range2 ?_)
  | (refine i_zip ?_)
  | (refine is_src ?_; refine i_rngV (by repeat (first | exact Nx.z | apply Nx.s)) (by rfl) ?_ ?_)
  | (refine i_seq ?_)
  | (refine seq_l ?_)
  | (refine seq_t ?_)
  | (refine c_val ?_)
  | (refine s_unp ?_)
  | (refine is_exT ?_; refine ⟨_, _, by nofun, ?_⟩)
  | (refine br_t ?_)
  | (refine br_f ?_)
  | (refine br_t' ?_)
  | (refine br_f' ?_)
  | (refine ⟨_, _, rfl, rfl, ?_⟩)
  | (refine ⟨_, rfl, ?_⟩))
open PySem PySem.Spec PyProof.Rows L2 RZ Dv in
local macro_rules | `(tactic| and_intros) => `(tactic| first
  | (refine s_st (by repeat (first | exact StR.nil | apply StR.d | apply StR.no)) ?_; refine s_eq (by conv => { lhs; whnf }) ?_; (repeat infer_instance))
  | (infer_instance; (repeat infer_instance)))
open PySem PySem.Spec PyProof.Rows L2 RZ Dv in
local macro_rules | `(tactic| nofun) => `(tactic| first
  | (apply is_tgN; exact g_name (by assumption) (by repeat (first | exact Nx.z | apply Nx.s)) (by repeat (first | exact SetR.z | apply SetR.s)))
  | (apply is_tgN; refine g_sub (g_name (by assumption) (by repeat (first | exact Nx.z | apply Nx.s)) (by repeat (first | exact SetR.z | apply SetR.s))) (by rfl))
  | (apply is_tgT; first
    | exact g_tup (gs_c (by nofun) (gs_c (by nofun) tgs_nil))
    | exact g_tup (gs_c (by nofun) (gs_c (by nofun) (gs_c (by nofun) tgs_nil)))
    | exact g_tup (gs_c (by nofun) (gs_c (by nofun) (gs_c (by nofun) (gs_c (by nofun) tgs_nil))))
    | exact g_tup (gs_c (by nofun) (gs_c (by nofun) (gs_c (by nofun) (gs_c (by nofun) (gs_c (by nofun) tgs_nil)))))))
namespace K19
open PySem PySem.Spec PyProof.Rows L2 RZ Dv
variable [Tbl]
abbrev sInteger : Stmt := at_def "is_integer"
abbrev sWithin : Stmt := at_def "is_within"
abbrev sTuple : Stmt := at_def "is_tuple"
abbrev sWord : Stmt := at_def "is_word"
abbrev sNamed : Stmt := at_def "is_named"
def isIntB : Dt → Bool
  | .int _ => true
  | _ => false
def withinB (v : Dt) (a b : Int) : Bool := match v with
  | .int i => decide (a ≤ i) && decide (i ≤ b)
  | _ => false
def tupB (v : Dt) (a b : Int) : Bool := match v with
  | .tuple es => decide (a ≤ (es.length : Int)) && decide ((es.length : Int) ≤ b)
  | _ => false
def wordB (v : Dt) (ss : List Str) : Bool := match v with
  | .str x => ss.any fun y => y == x
  | _ => false
def namedB (v : Dt) (x : Str) (n : Int) : Bool := tupB v n n && match v with
  | .tuple (e :: _) => wordB e [x]
  | _ => false
theorem tupB_of {v : Dt} {a b : Int} (h : tupB v a b = true) : ∃ es, v = .tuple es ∧ a ≤ (es.length : Int) ∧ (es.length : Int) ≤ b := by
  cases v with
  | tuple es =>
    simp only [tupB, Bool.and_eq_true, decide_eq_true_eq] at h
    exact ⟨es, rfl, h⟩
  | _ => cases h
theorem len2 {α : Type} {es : List α} (h : es.length = 2) : ∃ x y, es = [x, y] := by
  match es, h with
  | [x, y], _ => exact ⟨x, y, rfl⟩
theorem len3 {α : Type} {es : List α} (h : es.length = 3) : ∃ x y z, es = [x, y, z] := by
  match es, h with
  | [x, y, z], _ => exact ⟨x, y, z, rfl⟩
section
variable {P : Program} {w : World} {K : Fg} {mg : Str → Option Value} {base : Heap} {f : Addr} {fd : FuncData}
theorem scInteger : FnScope ["value"] ["value"] (defScope sInteger) := ⟨rfl, rfl, rfl, by decide +kernel, rfl, by decide +kernel, by decide +kernel⟩
def rInteger (ds : List Dt) (d : Dt) : Prop := ∃ v, ds = [v] ∧ d = .bool (isIntB v)
theorem f_integer (T : Free mg) (F : Fun K "is_integer" "is_integer" sInteger f fd) : FnG P w K mg base 1 f fd ["value"] (spD K rInteger) := by
  refine fn_data F scInteger (fun ds d ⟨i, e, _⟩ => by subst e; rfl) fun cdv A outer s H E hr hgd hu ds d h => ?_
  obtain ⟨v, rfl, rfl⟩ := h
  have hN := scInteger.nd
  and_intros
  refine ⟨fun h1 => ?_, fun h1 => ?_⟩
  · and_intros
    cases v <;> first | rfl | cases h1
  · cases v <;> first | rfl | cases h1
theorem scWithin : FnScope ["value", "least", "most"] ["value", "least", "most"] (defScope sWithin) := ⟨rfl, rfl, rfl, by decide +kernel, rfl, by decide +kernel, by decide +kernel⟩
def rWithin (ds : List Dt) (d : Dt) : Prop := ∃ v a b, ds = [v, .int a, .int b] ∧ d = .bool (withinB v a b)
theorem f_within (C1 : Cal P w K mg base 1 "is_integer" ["value"] sInteger (spD K rInteger)) (F : Fun K "is_within" "is_within" sWithin f fd) : FnG P w K mg base 2 f fd ["value", "least", "most"] (spD K rWithin) := by
  refine fn_data F scWithin (fun ds d ⟨i, _, _, e, _⟩ => by subst e; rfl) fun cdv A outer s H E hr hgd hu ds d h => ?_
  obtain ⟨v, a, b, rfl, rfl⟩ := h
  have hN := scWithin.nd
  and_intros
  refine ⟨fun h1 => ?_, fun h1 => ?_⟩
  · cases v with
    | int i =>
      and_intros
      refine ⟨fun h2 => ?_, fun h2 => ?_⟩
      · and_intros
        show _ = PyData.bool (decide (a ≤ i) && _)
        rw [decide_eq_true h2]; rfl
      · show _ = PyData.bool (decide (a ≤ i) && _)
        rw [decide_eq_false h2]; rfl
    | _ => cases h1
  · cases v <;> first | rfl | cases h1
theorem scTuple : FnScope ["value", "least", "most"] ["value", "least", "most"] (defScope sTuple) := ⟨rfl, rfl, rfl, by decide +kernel, rfl, by decide +kernel, by decide +kernel⟩
def rTuple (ds : List Dt) (d : Dt) : Prop := ∃ (v : Dt) (a b : Int), ds = [v, .int a, .int b] ∧ d = .bool (tupB v a b)
theorem f_tuple (T : Free mg) (F : Fun K "is_tuple" "is_tuple" sTuple f fd) : FnG P w K mg base 1 f fd ["value", "least", "most"] (spD K rTuple) := by
  refine fn_data F scTuple (fun ds d ⟨i, _, _, e, _⟩ => by subst e; rfl) fun cdv A outer s H E hr hgd hu ds d h => ?_
  obtain ⟨v, a, b, rfl, rfl⟩ := h
  have hN := scTuple.nd
  and_intros
  refine ⟨fun h1 => ?_, fun h1 => ?_⟩
  · cases v with
    | tuple es =>
      and_intros
      refine ⟨fun h2 => ?_, fun h2 => ?_⟩
      · and_intros
        show _ = PyData.bool (decide (a ≤ _) && _)
        rw [decide_eq_true h2]; rfl
      · show _ = PyData.bool (decide (a ≤ _) && _)
        rw [decide_eq_false h2]; rfl
    | _ => cases h1
  · cases v <;> first | rfl | cases h1
theorem scWord : FnScope ["value", "words"] ["value", "words"] (defScope sWord) := ⟨rfl, rfl, rfl, by decide +kernel, rfl, by decide +kernel, by decide +kernel⟩
def rWord (ds : List Dt) (d : Dt) : Prop := ∃ (v : Dt) (ss : List Str), ds = [v, .tuple (ss.map PyData.str)] ∧ d = .bool (wordB v ss)
theorem f_word (T : Free mg) (F : Fun K "is_word" "is_word" sWord f fd) : FnG P w K mg base 1 f fd ["value", "words"] (spD K rWord) := by
  refine fn_data F scWord (fun ds d ⟨i, _, e, _⟩ => by subst e; rfl) fun cdv A outer s H E hr hgd hu ds d h => ?_
  obtain ⟨v, ss, rfl, rfl⟩ := h
  have hN := scWord.nd
  and_intros
  refine ⟨fun h1 => ?_, fun h1 => ?_⟩
  · cases v with
    | str x =>
      refine v_1 ?_
      refine c_cmpV rfl ?_
      and_intros
      refine cp_inS ?_
      rfl
    | _ => cases h1
  · cases v <;> first | rfl | cases h1
theorem scNamed : FnScope ["value", "word", "many"] ["value", "word", "many"] (defScope sNamed) := ⟨rfl, rfl, rfl, by decide +kernel, rfl, by decide +kernel, by decide +kernel⟩
def rNamed (ds : List Dt) (d : Dt) : Prop := ∃ (v : Dt) (x : Str) (n : Int), 1 ≤ n ∧ ds = [v, .str x, .int n] ∧ d = .bool (namedB v x n)
theorem f_named (C1 : Cal P w K mg base 1 "is_tuple" ["value", "least", "most"] sTuple (spD K rTuple)) (C2 : Cal P w K mg base 1 "is_word" ["value", "words"] sWord (spD K rWord)) (F : Fun K "is_named" "is_named" sNamed f fd) : FnG P w K mg base 2 f fd ["value", "word", "many"] (spD K rNamed) := by
  refine fn_data F scNamed (fun ds d ⟨i, _, _, _, e, _⟩ => by subst e; rfl) fun cdv A outer s H E hr hgd hu ds d h => ?_
  obtain ⟨v, x, n, hn, rfl, rfl⟩ := h
  have hN := scNamed.nd
  and_intros
  refine ⟨fun h1 => ?_, fun h1 => ?_⟩
  · cases v with
    | tuple es =>
      cases es with
      | nil =>
        simp only [tupB, List.length_nil, Bool.and_eq_true, decide_eq_true_eq] at h1
        omega
      | cons e es =>
        and_intros
        refine ⟨by simp, ?_⟩
        and_intros
        refine ⟨_, ⟨e, [x], rfl, rfl⟩, ?_⟩
        show _ = PyData.bool (tupB _ _ _ && _)
        rw [h1]; rfl
    | _ => cases h1
  · show _ = PyData.bool (tupB _ _ _ && _)
    rw [h1]; rfl
abbrev sAreWithin : Stmt := at_def "are_within"
def tupOf : Dt → List Dt
  | .tuple es => es
  | _ => []
def arewB (v : Dt) (n a b : Int) : Bool := tupB v n n && (tupOf v).all fun x => withinB x a b
theorem arewB_of {v : Dt} {n a b : Int} (h : arewB v n a b = true) : ∃ ns : List Int, v = .tuple (ns.map PyData.int) ∧ (ns.length : Int) = n ∧ ∀ i ∈ ns, a ≤ i ∧ i ≤ b := by
  simp only [arewB, Bool.and_eq_true] at h
  obtain ⟨es, rfl, k1, k2⟩ := tupB_of h.1
  have e := h.2
  simp only [tupOf, List.all_eq_true] at e
  clear h
  have key : ∀ es : List Dt, (∀ x ∈ es, withinB x a b = true) → ∃ ns : List Int, es = ns.map PyData.int ∧ ∀ i ∈ ns, a ≤ i ∧ i ≤ b := fun es => by
    induction es with
    | nil => exact fun _ => ⟨[], rfl, by simp⟩
    | cons x xs ih =>
      intro h
      obtain ⟨ns, e1, e2⟩ := ih fun y hy => h y (List.mem_cons_of_mem _ hy)
      have hx := h x List.mem_cons_self
      cases x with
      | int i =>
        simp only [withinB, Bool.and_eq_true, decide_eq_true_eq] at hx
        exact ⟨i :: ns, by rw [e1]; rfl, fun k hk => by
          rcases List.mem_cons.mp hk with rfl | hk
          · exact hx
          · exact e2 k hk⟩
      | _ => cases hx
  obtain ⟨ns, e1, e2⟩ := key es e
  subst e1
  rw [List.length_map] at k1 k2
  exact ⟨ns, rfl, by omega, e2⟩
theorem arewB_ints {ns : List Int} {n a b : Int} (hn : (ns.length : Int) = n) (h : ∀ i ∈ ns, a ≤ i ∧ i ≤ b) : arewB (.tuple (ns.map PyData.int)) n a b = true := by
  simp only [arewB, tupB, tupOf, Bool.and_eq_true, List.length_map, decide_eq_true_eq, List.all_map, List.all_eq_true]
  exact ⟨⟨by omega, by omega⟩, fun i hi => by simpa [withinB] using h i hi⟩
theorem scAreWithin : FnScope ["value", "many", "least", "most", "part"] ["value", "many", "least", "most"] (defScope sAreWithin) := ⟨rfl, rfl, rfl, by decide +kernel, rfl, by decide +kernel, by decide +kernel⟩
def rAreWithin (ds : List Dt) (d : Dt) : Prop := ∃ v n a b, n ≤ 100000 ∧ ds = [v, .int n, .int a, .int b] ∧ d = .bool (arewB v n a b)
theorem f_arewithin (T : Free mg) (C1 : Cal P w K mg base 1 "is_tuple" ["value", "least", "most"] sTuple (spD K rTuple)) (C2 : Cal P w K mg base 2 "is_within" ["value", "least", "most"] sWithin (spD K rWithin)) (F : Fun K "are_within" "are_within" sAreWithin f fd) : FnG P w K mg base 3 f fd ["value", "many", "least", "most"] (spD K rAreWithin) := by
  refine fn_data F scAreWithin (fun ds d ⟨i, _, _, _, _, e, _⟩ => by subst e; rfl) fun cdv A outer s H E hr hgd hu ds d h => ?_
  obtain ⟨v, n, a, b, hl, rfl, rfl⟩ := h
  have hN := scAreWithin.nd
  and_intros
  refine ⟨fun h1 => ?_, fun h1 => ?_⟩
  · and_intros
    have h2 : tupB v n n = false := by simpa using h1
    show _ = PyData.bool (tupB v n n && _)
    rw [h2]; rfl
  · have h2 : tupB v n n = true := by simpa using h1
    obtain ⟨es, rfl, k2, k3⟩ := tupB_of h2
    and_intros
    refine c_allF (α := Dt) [("part", 4)] (blkOk_by (N := ["value", "many", "least", "most", "part"]) (sc := defScope sAreWithin) (by decide +kernel)) ?_
    and_intros
    refine ⟨es, _root_.id, fun x => withinB x a b, by simp, by omega, fun i x hx => ⟨_, fun s H C cl fp => by nofun, fun s H C cl fp => ?_⟩, ?_⟩
    · and_intros
      rfl
    · show _ = PyData.bool (tupB _ n n && _)
      rw [h2]; rfl
end
end K19

set_option linter.all false
set_option maxRecDepth 100000
set_option maxHeartbeats 4000000
namespace K19
open PySem PySem.Spec PyProof.Rows L2 RZ Dv
variable [Tbl]
abbrev sIsCity : Stmt := at_def "is_city"
abbrev sWayTable : Stmt := at_def "is_way_table"
abbrev sIsWay : Stmt := at_def "is_way"
abbrev sIsClosed : Stmt := at_def "is_closed"
abbrev sShortest : Stmt := at_def "is_shortest"
structure Cn4 (mg : Str → Option Value) : Prop where
  stops : ∃ t, mg "MOST_STOPS" = some (.int 12 t)
  zone : ∃ t, mg "LAST_ZONE" = some (.int 4 t)
  change : ∃ t, mg "LONGEST_CHANGE" = some (.int 9 t)
  way : ∃ t, mg "LONGEST_WAY" = some (.int 120 t)
def intOf : Dt → Int
  | .int i => i
  | _ => 0
def matOf (v : Dt) (i j : Nat) : Int := intOf ((tupOf ((tupOf v).getD i .none)).getD j .none)
def szD (v : Dt) : Nat := (tupOf v).length
def tabB (v : Dt) : Bool := tupB v 1 12 && (tupOf v).all fun r => arewB r ((szD v : Nat) : Int) 0 120
def pairW (C : Nat → Nat → Int) (i j : Nat) : Bool := decide (C i j = C j i) && decide (decide (C i j = 0) = decide (i = j))
def shortW (n : Nat) (C : Nat → Nat → Int) (i j : Nat) : Bool := (List.range n).all fun k => decide (C i j ≤ C i k + C k j)
def waysB (v : Dt) : Bool := tabB v && (List.range (szD v)).all fun i => (List.range (szD v)).all (pairW (matOf v) i)
def closedB (v : Dt) : Bool := waysB v && (List.range (szD v)).all fun i => (List.range (szD v)).all (shortW (szD v) (matOf v) i)
structure TabI (v : Dt) : Prop where
  eq : v = tabD (szD v) (matOf v)
  n1 : 1 ≤ szD v
  n2 : szD v ≤ 12
  b : ∀ i j, i < szD v → j < szD v → 0 ≤ matOf v i j ∧ matOf v i j ≤ 120
  out : ∀ i j, ¬ (i < szD v ∧ j < szD v) → matOf v i j = 0
theorem tab_of {v : Dt} (h : tabB v = true) : TabI v := by
  unfold tabB at h
  rw [Bool.and_eq_true] at h
  obtain ⟨es, rfl, k1, k2⟩ := tupB_of h.1
  have hr : ∀ r ∈ es, ∃ ns : List Int, r = .tuple (ns.map PyData.int) ∧ ns.length = es.length ∧ ∀ i ∈ ns, 0 ≤ i ∧ i ≤ 120 := fun r hr => by
    obtain ⟨ns, e1, e2, e3⟩ := arewB_of (List.all_eq_true.mp h.2 r hr)
    exact ⟨ns, e1, by have : ((ns.length : Nat) : Int) = ((es.length : Nat) : Int) := e2; omega, e3⟩
  have sz : szD (.tuple es) = es.length := rfl
  have row : ∀ i, i < es.length → ∃ ns : List Int, es[i]? = some (.tuple (ns.map PyData.int)) ∧ ns.length = es.length ∧ (∀ x ∈ ns, 0 ≤ x ∧ x ≤ 120) ∧ ∀ j, matOf (.tuple es) i j = ns.getD j 0 := fun i hi => by
    obtain ⟨ns, e1, e2, e3⟩ := hr _ (List.getElem_mem hi)
    have e4 : es[i]? = some (.tuple (ns.map PyData.int)) := by rw [List.getElem?_eq_getElem hi, e1]
    refine ⟨ns, e4, e2, e3, fun j => ?_⟩
    show intOf ((tupOf (es.getD i .none)).getD j .none) = _
    rw [List.getD_eq_getElem?_getD (l := es), e4]
    show intOf ((ns.map PyData.int).getD j .none) = _
    rw [List.getD_eq_getElem?_getD, List.getElem?_map, List.getD_eq_getElem?_getD]
    cases ns[j]? <;> rfl
  refine ⟨?_, by rw [sz]; omega, by rw [sz]; omega, fun i j hi hj => ?_, fun i j hn => ?_⟩
  · unfold tabD
    congr 1
    apply List.ext_getElem?
    intro i
    rw [sz, List.getElem?_map]
    by_cases hi : i < es.length
    · obtain ⟨ns, e4, e2, _, e5⟩ := row i hi
      rw [e4, List.getElem?_range hi]
      show _ = some (PyData.tuple (rowD es.length (matOf (.tuple es)) i))
      congr 2
      unfold rowD
      apply List.ext_getElem?
      intro j
      rw [List.getElem?_map, List.getElem?_map]
      by_cases hj : j < es.length
      · rw [List.getElem?_range hj, List.getElem?_eq_getElem (by omega)]
        show some (PyData.int ns[j]) = some (PyData.int (matOf (.tuple es) i j))
        rw [e5, List.getD_eq_getElem?_getD, List.getElem?_eq_getElem (by omega)]; rfl
      · rw [List.getElem?_eq_none (by omega), List.getElem?_eq_none (by rw [List.length_range]; omega)]; rfl
    · rw [List.getElem?_eq_none (by omega), List.getElem?_eq_none (by rw [List.length_range]; omega)]; rfl
  · obtain ⟨ns, _, e2, e3, e5⟩ := row i hi
    have hj' : j < es.length := hj
    rw [e5, List.getD_eq_getElem?_getD, List.getElem?_eq_getElem (by omega)]
    exact e3 _ (List.getElem_mem _)
  · rw [sz] at hn
    by_cases hi : i < es.length
    · obtain ⟨ns, _, e2, _, e5⟩ := row i hi
      rw [e5, List.getD_eq_getElem?_getD, List.getElem?_eq_none (by omega)]; rfl
    · show intOf ((tupOf (es.getD i .none)).getD j .none) = 0
      rw [List.getD_eq_getElem?_getD (l := es), List.getElem?_eq_none (by omega)]; rfl
theorem ways_tab {v : Dt} (h : waysB v = true) : tabB v = true := by unfold waysB at h; rw [Bool.and_eq_true] at h; exact h.1
theorem ways_of {v : Dt} (h : waysB v = true) : Way (szD v) 120 (matOf v) ∧ ∀ i j, matOf v i j = matOf v j i := by
  have t := tab_of (ways_tab h)
  unfold waysB at h
  rw [Bool.and_eq_true] at h
  have hp : ∀ i j, i < szD v → j < szD v → matOf v i j = matOf v j i ∧ (decide (matOf v i j = 0) = decide (i = j)) := fun i j hi hj => by
    have z := List.all_eq_true.mp (List.all_eq_true.mp h.2 i (List.mem_range.mpr hi)) j (List.mem_range.mpr hj)
    unfold pairW at z
    rw [Bool.and_eq_true] at z
    exact ⟨of_decide_eq_true z.1, of_decide_eq_true z.2⟩
  refine ⟨⟨fun i j hi hj => (hp i j hi hj).1, fun i hi => ?_, fun i j hi hj ne => ?_⟩, fun i j => ?_⟩
  · have := (hp i i hi hi).2
    rw [decide_eq_true (rfl : i = i)] at this
    exact of_decide_eq_true this
  · have z := (hp i j hi hj).2
    rw [decide_eq_false ne] at z
    have := of_decide_eq_false z
    have := t.b i j hi hj
    omega
  · by_cases e : i < szD v ∧ j < szD v
    · exact (hp i j e.1 e.2).1
    · rw [t.out i j e, t.out j i fun q => e ⟨q.2, q.1⟩]
section
variable {P : Program} {w : World} {K : Fg} {mg : Str → Option Value} {base : Heap} {f : Addr} {fd : FuncData}
theorem scIsWay : FnScope ["table", "one", "other"] ["table", "one", "other"] (defScope sIsWay) := ⟨rfl, rfl, rfl, by decide +kernel, rfl, by decide +kernel, by decide +kernel⟩
def rIsWay (ds : List Dt) (d : Dt) : Prop := ∃ (n : Nat) (C : Nat → Nat → Int) (i j : Nat), i < n ∧ j < n ∧ ds = [tabD n C, .int ((i : Nat) : Int), .int ((j : Nat) : Int)] ∧ d = .bool (pairW C i j)
theorem f_isway (F : Fun K "is_way" "is_way" sIsWay f fd) : FnG P w K mg base 1 f fd ["table", "one", "other"] (spD K rIsWay) := by
  refine fn_data F scIsWay (fun ds d ⟨_, _, _, _, _, _, e, _⟩ => by subst e; rfl) fun cdv A outer s H E hr hgd hu ds d h => ?_
  obtain ⟨n, C, i, j, hi, hj, rfl, rfl⟩ := h
  have hN := scIsWay.nd
  and_intros
  refine ip_tup (at_tabD hi) ?_
  and_intros
  refine ip_tup (at_rowD hj) ?_
  and_intros
  refine ip_tup (at_tabD hj) ?_
  and_intros
  refine ip_tup (at_rowD hi) ?_
  and_intros
  refine ⟨fun h1 => ?_, fun h1 => ?_⟩
  · and_intros
    refine ip_tup (at_tabD hi) ?_
    and_intros
    refine ip_tup (at_rowD hj) ?_
    and_intros
    show _ = PyData.bool (pairW C i j)
    unfold pairW
    rw [h1, Bool.true_and, show decide (((i : Nat) : Int) = ((j : Nat) : Int)) = decide (i = j) from decide_eq_decide.mpr (by omega)]
  · show _ = PyData.bool (pairW C i j)
    unfold pairW
    rw [h1]; rfl
abbrev NW : List Str := ["value", "many", "places", "row", "one", "other"]
theorem scWayTable : FnScope NW ["value"] (defScope sWayTable) := ⟨rfl, rfl, rfl, by decide +kernel, rfl, by decide +kernel, by decide +kernel⟩
def rWayTable (ds : List Dt) (d : Dt) : Prop := ∃ v : Dt, ds = [v] ∧ d = .bool (waysB v)
theorem f_waytable (T : Free mg) (c4 : Cn4 mg) (C1 : Cal P w K mg base 1 "is_tuple" ["value", "least", "most"] sTuple (spD K rTuple)) (C2 : Cal P w K mg base 3 "are_within" ["value", "many", "least", "most"] sAreWithin (spD K rAreWithin)) (C3 : Cal P w K mg base 1 "is_way" ["table", "one", "other"] sIsWay (spD K rIsWay)) (F : Fun K "is_way_table" "is_way_table" sWayTable f fd) : FnG P w K mg base 4 f fd ["value"] (spD K rWayTable) := by
  refine fn_data F scWayTable (fun ds d ⟨_, e, _⟩ => by subst e; rfl) fun cdv A outer s H E hr hgd hu ds d h => ?_
  obtain ⟨v, rfl, rfl⟩ := h
  have hN := scWayTable.nd
  obtain ⟨c1, c2, c3, c4⟩ := c4
  and_intros
  refine ⟨fun h1 => ?_, fun h1 => ?_⟩
  · and_intros
    show _ = PyData.bool ((tupB v 1 12 && _) && _)
    rw [show tupB v 1 12 = false by simpa using h1]; rfl
  have h2 : tupB v 1 12 = true := by simpa using h1
  obtain ⟨es, rfl, k2, k3⟩ := tupB_of h2
  have go : waysB (.tuple es) = ((tupB (.tuple es) 1 12 && es.all fun r => arewB r ((es.length : Nat) : Int) 0 120) && (List.range es.length).all fun i => (List.range es.length).all (pairW (matOf (.tuple es)) i)) := rfl
  have tb : tabB (.tuple es) = (tupB (.tuple es) 1 12 && es.all fun r => arewB r ((es.length : Nat) : Int) 0 120) := rfl
  rw [go, h2, Bool.true_and]
  and_intros
  refine c_allF (α := Dt) [("row", 3)] (blkOk_by (N := NW) (sc := defScope sWayTable) (by decide +kernel)) ?_
  and_intros
  refine ⟨es, _root_.id, fun r => arewB r ((es.length : Nat) : Int) 0 120, by simp, by omega, fun i x hx => ⟨_, fun s H C cl fp => by nofun, fun s H C cl fp => ?_⟩, ?_⟩
  · and_intros
    exact ⟨_, ⟨_, _, _, _, by omega, rfl, rfl⟩, rfl⟩
  and_intros
  refine ⟨fun h3 => ?_, fun h3 => ?_⟩
  · and_intros
    rw [show (es.all fun r => arewB r ((es.length : Nat) : Int) 0 120) = false by simpa using h3]; rfl
  have h4 : (es.all fun r => arewB r ((es.length : Nat) : Int) 0 120) = true := by simpa using h3
  have t := tab_of (v := .tuple es) (by rw [tb, h2, h4]; rfl)
  have ev := t.eq
  rw [h4, Bool.true_and]
  and_intros
  refine c_all2F es.length (pairW (matOf (.tuple es))) [("one", 4), ("other", 5)] [5] (blkOk_by (N := NW) (sc := defScope sWayTable) (by decide +kernel)) ?_
  and_intros
  · omega
  refine ⟨by congr 1, by omega, fun i hi => ?_, rfl⟩
  refine ⟨_, fun s H C cl fp => by nofun, rfl, fun s H C cl fp => ?_, fun j hj => ?_⟩
  · and_intros
    · omega
    · congr 1
  · refine ⟨_, fun s H C cl fp => by nofun, fun s H C cl fp => ?_⟩
    and_intros
    exact ⟨_, ⟨es.length, _, i, j, hi, hj, by rw [← show PyData.tuple es = tabD es.length (matOf (.tuple es)) from ev], rfl⟩, rfl⟩
theorem scShortest : FnScope ["table", "one", "other", "over"] ["table", "one", "other"] (defScope sShortest) := ⟨rfl, rfl, rfl, by decide +kernel, rfl, by decide +kernel, by decide +kernel⟩
def rShortest (ds : List Dt) (d : Dt) : Prop := ∃ (n : Nat) (C : Nat → Nat → Int) (i j : Nat), n ≤ 12 ∧ i < n ∧ j < n ∧ ds = [tabD n C, .int ((i : Nat) : Int), .int ((j : Nat) : Int)] ∧ d = .bool (shortW n C i j)
theorem f_shortest (T : Free mg) (F : Fun K "is_shortest" "is_shortest" sShortest f fd) : FnG P w K mg base 1 f fd ["table", "one", "other"] (spD K rShortest) := by
  refine fn_data F scShortest (fun ds d ⟨_, _, _, _, _, _, _, e, _⟩ => by subst e; rfl) fun cdv A outer s H E hr hgd hu ds d h => ?_
  obtain ⟨n, C, i, j, n2, hi, hj, rfl, rfl⟩ := h
  have hN := scShortest.nd
  and_intros
  refine c_allF (α := Nat) [("over", 3)] (blkOk_by (N := ["table", "one", "other", "over"]) (sc := defScope sShortest) (by decide +kernel)) ?_
  and_intros
  rw [List.length_map, List.length_range]
  refine ⟨by omega, List.range n, fun h => .int (0 + ((h : Nat) : Int)), fun k => decide (C i j ≤ C i k + C k j), by unfold rngD; rw [show ((n : Nat) : Int).toNat = n by omega], by rw [List.length_range]; omega, fun m x hx => ?_, rfl⟩
  have hx2 : x < n := List.mem_range.mp (List.mem_of_getElem? hx)
  refine ⟨_, fun s H C cl fp => by nofun, fun s H C cl fp => ?_⟩
  dsimp only
  rw [show (0 : Int) + ((x : Nat) : Int) = ((x : Nat) : Int) by omega]
  and_intros
  refine ip_tup (at_tabD hi) ?_
  and_intros
  refine ip_tup (at_rowD hj) ?_
  and_intros
  refine ip_tup (at_tabD hi) ?_
  and_intros
  refine ip_tup (at_rowD hx2) ?_
  and_intros
  refine ip_tup (at_tabD hx2) ?_
  and_intros
  refine ip_tup (at_rowD hj) ?_
  and_intros
  rfl
abbrev NC2 : List Str := ["value", "places", "one", "other"]
theorem scIsClosed : FnScope NC2 ["value"] (defScope sIsClosed) := ⟨rfl, rfl, rfl, by decide +kernel, rfl, by decide +kernel, by decide +kernel⟩
def rIsClosed (ds : List Dt) (d : Dt) : Prop := ∃ v : Dt, ds = [v] ∧ d = .bool (closedB v)
theorem f_isclosed (T : Free mg) (C1 : Cal P w K mg base 4 "is_way_table" ["value"] sWayTable (spD K rWayTable)) (C2 : Cal P w K mg base 1 "is_shortest" ["table", "one", "other"] sShortest (spD K rShortest)) (F : Fun K "is_closed" "is_closed" sIsClosed f fd) : FnG P w K mg base 5 f fd ["value"] (spD K rIsClosed) := by
  refine fn_data F scIsClosed (fun ds d ⟨_, e, _⟩ => by subst e; rfl) fun cdv A outer s H E hr hgd hu ds d h => ?_
  obtain ⟨v, rfl, rfl⟩ := h
  have hN := scIsClosed.nd
  and_intros
  have go : closedB v = (waysB v && (List.range (szD v)).all fun i => (List.range (szD v)).all (shortW (szD v) (matOf v) i)) := rfl
  rw [go]
  refine ⟨fun h1 => ?_, fun h1 => ?_⟩
  · and_intros
    rw [show waysB v = false by simpa using h1]; rfl
  have h2 : waysB v = true := by simpa using h1
  have t := tab_of (ways_tab h2)
  have n2 := t.n2
  have ev := t.eq
  rw [h2, Bool.true_and]
  generalize en : szD v = n at *
  generalize matOf v = C at *
  subst ev
  and_intros
  rw [List.length_map, List.length_range]
  refine c_all2F n (shortW n C) [("one", 2), ("other", 3)] [3] (blkOk_by (N := NC2) (sc := defScope sIsClosed) (by decide +kernel)) ?_
  and_intros
  · omega
  refine ⟨by congr 1, by omega, fun i hi => ?_, rfl⟩
  refine ⟨_, fun s H C cl fp => by nofun, rfl, fun s H C cl fp => ?_, fun j hj => ?_⟩
  · and_intros
    · omega
    · congr 1
  · refine ⟨_, fun s H C cl fp => by nofun, fun s H C cl fp => ?_⟩
    and_intros
    exact ⟨_, ⟨n, _, i, j, n2, hi, hj, rfl, rfl⟩, rfl⟩
end
end K19

set_option linter.all false
set_option maxRecDepth 100000
set_option maxHeartbeats 4000000
namespace K19
open PySem PySem.Spec PyProof.Rows L2 RZ Dv
variable [Tbl]
def tblB (v : Dt) (m : Nat) : Bool := closedB v && decide (((szD v : Nat) : Int) = ((m : Nat) : Int))
def cityB (v : Dt) : Bool := match v with
  | .tuple [x0, x1, x2, x3, x4] => wordB x0 ["city"] && (tupB x1 1 12 && (arewB x1 ((szD x1 : Nat) : Int) 1 4 && (arewB x2 ((szD x1 : Nat) : Int) 0 9 && (tblB x3 (szD x1) && tblB x4 (szD x1)))))
  | _ => false
theorem named5 {v : Dt} {x : Str} (h : namedB v x 5 = true) : ∃ x0 x1 x2 x3 x4, v = .tuple [x0, x1, x2, x3, x4] ∧ wordB x0 [x] = true := by
  unfold namedB at h
  rw [Bool.and_eq_true] at h
  obtain ⟨es, rfl, k1, k2⟩ := tupB_of h.1
  match es, (show es.length = 5 by omega) with
  | [x0, x1, x2, x3, x4], _ => exact ⟨x0, x1, x2, x3, x4, rfl, h.2⟩
theorem city_not {v : Dt} (h : namedB v "city" 5 = false) : cityB v = false := by
  unfold cityB
  split
  · rename_i x0 x1 x2 x3 x4
    have e : wordB x0 ["city"] = false := h
    rw [e]; rfl
  · rfl
theorem closed_tab {v : Dt} (h : closedB v = true) : TabI v := by
  unfold closedB at h
  rw [Bool.and_eq_true] at h
  exact tab_of (ways_tab h.1)
section
variable {P : Program} {w : World} {K : Fg} {mg : Str → Option Value} {base : Heap} {f : Addr} {fd : FuncData}
abbrev NIC : List Str := ["value", "_", "zones", "changes", "walks", "drives", "many", "table"]
theorem scIsCity : FnScope NIC ["value"] (defScope sIsCity) := ⟨rfl, rfl, rfl, by decide +kernel, rfl, by decide +kernel, by decide +kernel⟩
def rIsCity (ds : List Dt) (d : Dt) : Prop := ∃ v : Dt, ds = [v] ∧ d = .bool (cityB v)
theorem f_iscity (T : Free mg) (c4 : Cn4 mg) (C1 : Cal P w K mg base 2 "is_named" ["value", "word", "many"] sNamed (spD K rNamed)) (C2 : Cal P w K mg base 1 "is_tuple" ["value", "least", "most"] sTuple (spD K rTuple)) (C3 : Cal P w K mg base 3 "are_within" ["value", "many", "least", "most"] sAreWithin (spD K rAreWithin)) (C4 : Cal P w K mg base 5 "is_closed" ["value"] sIsClosed (spD K rIsClosed)) (F : Fun K "is_city" "is_city" sIsCity f fd) : FnG P w K mg base 6 f fd ["value"] (spD K rIsCity) := by
  refine fn_data F scIsCity (fun ds d ⟨_, e, _⟩ => by subst e; rfl) fun cdv A outer s H E hr hgd hu ds d h => ?_
  obtain ⟨v, rfl, rfl⟩ := h
  have hN := scIsCity.nd
  obtain ⟨c1, c2, c3, c4⟩ := c4
  and_intros
  refine ⟨fun h1 => ?_, fun h1 => ?_⟩
  · and_intros
    rw [city_not (by simpa using h1)]
  obtain ⟨x0, x1, x2, x3, x4, rfl, h0⟩ := named5 (v := v) (x := "city") (by simpa using h1)
  have go : cityB (.tuple [x0, x1, x2, x3, x4]) = (tupB x1 1 12 && (arewB x1 ((szD x1 : Nat) : Int) 1 4 && (arewB x2 ((szD x1 : Nat) : Int) 0 9 && (tblB x3 (szD x1) && tblB x4 (szD x1))))) := by
    show (wordB x0 ["city"] && _) = _
    rw [h0, Bool.true_and]
  rw [go]
  and_intros
  refine ⟨fun h2 => ?_, fun h2 => ?_⟩
  · and_intros
    rw [show tupB x1 1 12 = false by simpa using h2]; rfl
  have h3 : tupB x1 1 12 = true := by simpa using h2
  rw [h3, Bool.true_and]
  obtain ⟨es, rfl, k2, k3⟩ := tupB_of h3
  have sz : szD (.tuple es) = es.length := rfl
  rw [sz]
  and_intros
  refine ⟨_, ⟨_, _, _, _, by omega, rfl, rfl⟩, ?_⟩
  and_intros
  refine ⟨fun h4 => ?_, fun h4 => ?_⟩
  case refine_2 =>
    have h4 : arewB (.tuple es) ((es.length : Nat) : Int) 1 4 = false := by simpa using h4
    and_intros
    rw [h4]; rfl
  have h5 : arewB (.tuple es) ((es.length : Nat) : Int) 1 4 = true := by simpa using h4
  rw [h5, Bool.true_and]
  and_intros
  refine ⟨_, ⟨_, _, _, _, by omega, rfl, rfl⟩, ?_⟩
  and_intros
  refine ⟨fun h6 => ?_, fun h6 => ?_⟩
  · and_intros
    rw [show arewB x2 ((es.length : Nat) : Int) 0 9 = false by simpa using h6]; rfl
  have h7 : arewB x2 ((es.length : Nat) : Int) 0 9 = true := by simpa using h6
  rw [h7, Bool.true_and]
  and_intros
  refine c_allF (α := Dt) [("table", 7)] (blkOk_by (N := NIC) (sc := defScope sIsCity) (by decide +kernel)) ?_
  refine i_seq ?_
  and_intros
  refine ⟨by simp, ?_⟩
  refine seq_t ⟨[x3, x4], _root_.id, fun t => tblB t es.length, by simp, by simp, fun i x hx => ⟨_, fun s H C cl fp => by nofun, fun s H C cl fp => ?_⟩, ?_⟩
  · and_intros
    refine ⟨fun h8 => ?_, fun h8 => ?_⟩
    · have h8 : closedB x = true := h8
      have t := closed_tab h8
      have ev := t.eq
      have go2 : tblB x es.length = decide (((szD x : Nat) : Int) = ((es.length : Nat) : Int)) := by unfold tblB; rw [h8, Bool.true_and]
      show XD _ _ _ fun y => y = PyData.bool (tblB x es.length)
      rw [go2]
      have : ∃ rs, x = .tuple rs ∧ szD x = rs.length := ⟨_, ev, by rw [List.length_map, List.length_range]⟩
      obtain ⟨rs, rfl, e2⟩ := this
      rw [e2]
      and_intros
      rfl
    · have h8 : closedB x = false := h8
      show PyData.bool false = PyData.bool (tblB x es.length)
      unfold tblB
      rw [h8]; rfl
  · show PyData.bool ([x3, x4].all fun t => tblB t es.length) = _
    rw [List.all_cons, List.all_cons, List.all_nil, Bool.and_true]
end
end K19

set_option linter.all false
set_option maxRecDepth 100000
set_option maxHeartbeats 4000000
namespace K19
open PySem PySem.Spec PyProof.Rows L2 RZ Dv
variable [Tbl]
abbrev sClosed : Stmt := at_def "closed"
theorem T0.of {K : Fg} {mg : Str → Option Value} (F : Free mg) : T0 K mg := by constructor <;> exact F _ (by decide +kernel)
/-! ### the program's own way: over each place in turn -/
structure Mid (n : Nat) (A D : Nat → Nat → Int) (m : Nat) : Prop where
  le : ∀ i j, i < n → j < n → D i j ≤ A i j
  dia : ∀ i, i < n → D i i = 0
  nn : ∀ i j, i < n → j < n → 0 ≤ D i j
  wk : ∀ i j, i < n → j < n → Wk n A i j (D i j)
  tri : ∀ i j k, i < n → j < n → k < m → D i j ≤ D i k + D k j
def stepD (D : Nat → Nat → Int) (m i j : Nat) : Int := min (D i j) (D i m + D m j)
theorem Mid.step {n m : Nat} {h : Int} {A D : Nat → Nat → Int} (w : Way n h A) (g : Mid n A D m) (hm : m < n) : Mid n A (stepD D m) (m + 1) := by
  have dm := g.dia m hm
  have rowm : ∀ j, j < n → stepD D m m j = D m j := fun j hj => by unfold stepD; rw [dm]; omega
  have colm : ∀ i, i < n → stepD D m i m = D i m := fun i hi => by unfold stepD; rw [dm]; omega
  refine ⟨fun i j hi hj => ?_, fun i hi => ?_, fun i j hi hj => ?_, fun i j hi hj => ?_, fun i j k hi hj hk => ?_⟩
  · have := g.le i j hi hj
    unfold stepD; omega
  · have h0 := g.dia i hi
    have h1 := g.nn i m hi hm
    have h2 := g.nn m i hm hi
    unfold stepD; omega
  · have h0 := g.nn i j hi hj
    have h1 := g.nn i m hi hm
    have h2 := g.nn m j hm hj
    unfold stepD; omega
  · unfold stepD
    by_cases c : D i j ≤ D i m + D m j
    · rw [Int.min_eq_left c]; exact g.wk i j hi hj
    · rw [Int.min_eq_right (by omega)]; exact (g.wk i m hi hm).cat (g.wk m j hm hj)
  · by_cases e : k = m
    · subst e
      rw [rowm j hj, colm i hi]
      unfold stepD; omega
    · have hk2 : k < m := by omega
      have kn : k < n := by omega
      have t1 := g.tri i j k hi hj hk2
      have t2 := g.tri i m k hi hm hk2
      have t3 := g.tri m j k hm hj hk2
      have n1 := g.nn m k hm kn
      have n2 := g.nn k m kn hm
      unfold stepD; omega
theorem mid_close {n : Nat} {h : Int} {A D : Nat → Nat → Int} (w : Way n h A) (g : Mid n A D n) : ∀ i j, i < n → j < n → D i j = closeL n A i j := fun i j hi hj => by
  have gd : Good n A D := ⟨g.le, g.dia, fun i j hi hj ne => walk_pos w (g.wk i j hi hj) ne, g.wk⟩
  have f1 : Fin1 n A D := fun i j k hi hj hk => by
    have := g.tri i j k hi hj hk
    have := g.le k j hk hj
    omega
  exact (close_eq ⟨g.wk i j hi hj, fun u hu => least_walk gd f1 hi hu⟩).symm
/-- within the turn m: rows ahead of one, and in row one places ahead of other, are done -/
def partD (D : Nat → Nat → Int) (m one other i j : Nat) : Int := if i < one ∨ (i = one ∧ j < other) then stepD D m i j else D i j
theorem part_at {n m one other : Nat} {h : Int} {A D : Nat → Nat → Int} (g : Mid n A D m) (hm : m < n) (h1 : one < n) (h2 : other < n) : min (partD D m one other one other) (partD D m one other one m + partD D m one other m other) = stepD D m one other := by
  have dm := g.dia m hm
  have e1 : partD D m one other one other = D one other := by unfold partD; rw [if_neg (by omega)]
  have e2 : partD D m one other one m = D one m := by
    unfold partD
    by_cases c : one < one ∨ (one = one ∧ m < other)
    · rw [if_pos c]; unfold stepD; rw [dm]; omega
    · rw [if_neg c]
  have e3 : partD D m one other m other = D m other := by
    unfold partD
    by_cases c : m < one ∨ (m = one ∧ other < other)
    · rw [if_pos c]; unfold stepD; rw [dm]; omega
    · rw [if_neg c]
  rw [e1, e2, e3]; rfl
theorem part_next {D : Nat → Nat → Int} {m one other : Nat} : upT (partD D m one other) one other (stepD D m one other) = partD D m one (other + 1) := by
  funext i j
  unfold upT partD
  by_cases e : i = one ∧ j = other
  · rw [if_pos e, e.1, e.2, if_pos (by omega)]
  · rw [if_neg e]
    by_cases c : i < one ∨ (i = one ∧ j < other)
    · rw [if_pos c, if_pos (by omega)]
    · rw [if_neg c, if_neg (by omega)]
theorem part_row {n : Nat} {D : Nat → Nat → Int} {m one : Nat} : matD n (partD D m one n) = matD n (partD D m (one + 1) 0) := matD_congr fun i j hi hj => by
  unfold partD
  by_cases c : i < one ∨ (i = one ∧ j < n)
  · rw [if_pos c, if_pos (by omega)]
  · rw [if_neg c, if_neg (by omega)]
theorem part_end {n : Nat} {D : Nat → Nat → Int} {m : Nat} : matD n (partD D m n 0) = matD n (stepD D m) := matD_congr fun i j hi hj => by
  unfold partD
  rw [if_pos (by omega)]
theorem part_start {n : Nat} {D : Nat → Nat → Int} {m : Nat} : matD n (partD D m 0 0) = matD n D := matD_congr fun i j hi hj => by
  unfold partD
  rw [if_neg (by omega)]
section
variable {P : Program} {w : World} {K : Fg} {mg : Str → Option Value} {base : Heap} {f : Addr} {fd : FuncData}
abbrev NCl : List Str := ["table", "places", "rows", "over", "one", "other", "row", "number"]
theorem scClosed : FnScope NCl ["table"] (defScope sClosed) := ⟨rfl, rfl, rfl, by decide +kernel, rfl, by decide +kernel, by decide +kernel⟩
def rClosed (ds : List Dt) (d : Dt) : Prop := ∃ v : Dt, waysB v = true ∧ ds = [v] ∧ d = tabD (szD v) (closeL (szD v) (matOf v))
theorem f_closed (T : Free mg) (C1 : Cal P w K mg base 4 "is_way_table" ["value"] sWayTable (spD K rWayTable)) (F : Fun K "closed" "closed" sClosed f fd) : FnG P w K mg base 5 f fd ["table"] (spD K rClosed) := by
  refine fn_data F scClosed (fun ds d ⟨_, _, e, _⟩ => by subst e; rfl) fun cdv A' outer s H E hr hgd hu ds d h => ?_
  obtain ⟨v, hw, rfl, rfl⟩ := h
  have hN := scClosed.nd
  have T0 := T0.of (K := K) T
  obtain ⟨way, sym⟩ := ways_of hw
  have t := tab_of (ways_tab hw)
  have n1 := t.n1
  have n2 := t.n2
  have ev := t.eq
  rw [ev] at hw
  clear t
  generalize szD v = n at *
  generalize matOf v = C at *
  subst ev
  and_intros
  refine br_nby hw ?_
  and_intros
  rw [List.length_map, List.length_range]
  have getA : ∀ (i : Nat) d, ((List.range n).map fun i => PyData.tuple (rowD n C i))[i]? = some d → i < n ∧ d = .tuple (rowD n C i) := fun i d e => by
    have hi : i < n := by
      have := (List.getElem?_eq_some_iff.mp e).1
      rw [List.length_map, List.length_range] at this
      exact this
    rw [List.getElem?_map, List.getElem?_range hi] at e
    cases e
    exact ⟨hi, rfl⟩
  refine ss_seq (N := fun y => ∃ as, y = [.d (tabD n C), .rng 0 ((n : Nat) : Int), .own2 as (matD n C), .no, .no, .no, .no, .no]) ?_ fun δ' ⟨as, e⟩ => ?_
  · refine sd_lc2 (R := fun dss => dss = (List.range ((List.range n).map fun i => PyData.tuple (rowD n C i)).length).map fun i => rowD n C i) 2 hN ?_ fun as dss e => ⟨as, by rw [e, List.length_map, List.length_range]; rfl⟩
    refine lc2_of (es := (List.range n).map fun i => PyData.tuple (rowD n C i)) (own := [("row", 6)]) (i_tup (pd_v 0)) (blkOk_by (N := NCl) (sc := defScope sClosed) (by decide +kernel)) (by rw [List.length_map, List.length_range]; omega) (fun i => rowD n C i) (fun d => [.d (tabD n C), .rng 0 ((n : Nat) : Int), .no, .no, .no, .no, .d d, .no]) (fun s H C' cl fp i d e => tg_name 6 scClosed.nd) (fun s H C' cl fp i d e => ?_)
    obtain ⟨hi, rfl⟩ := getA i d e
    refine (lco_fun (α := Nat) [("number", 7)] ?_ ?_).xo hN
    · exact blkOk_by (N := NCl) (sc := { kind := .function, names := [(".0", .local), ("row", .local)], isGenerator := false, isCoroutine := false }) (by decide +kernel)
    · refine i_seq ?_
      and_intros
      refine ⟨List.range n, fun j => PyData.int (C i j), fun j => PyData.int (C i j), rfl, by rw [List.length_range]; omega, fun j x hx => ⟨_, fun s H C cl fp => by nofun, fun s H C cl fp => ?_⟩, rfl⟩
      refine c_intc ?_
      and_intros
      exact f_int rfl
  subst e
  have g0 : Mid n C C 0 := ⟨fun _ _ _ _ => Int.le_refl _, way.dia, fun i j hi hj => by
    by_cases e : i = j
    · subst e; rw [way.dia i hi]; omega
    · have := (way.pos i j hi hj e).1; omega, fun i j hi hj => by
    have := Wk.snoc hi hj (Wk.nil (n := n) (A := C) i)
    rw [Int.zero_add] at this
    exact this, fun i j k hi hj hk => absurd hk (Nat.not_lt_zero _)⟩
  refine s_for ?_
  infer_instance
  · omega
  refine ⟨fun m y => ∃ (as : List Addr) (D : Nat → Nat → Int) (a b c : En), Mid n C D m ∧ y = [.d (tabD n C), .rng 0 ((n : Nat) : Int), .own2 as (matD n D), a, b, c, .no, .no], ⟨as, C, _, _, _, g0, rfl⟩, fun m v δ' hd iv => ?_, fun δ' iv => ?_⟩
  case refine_2 =>
    obtain ⟨as, D, a, b, c, g, rfl⟩ := iv
    rw [rngD_length, show (((n : Nat) : Int) - 0).toNat = n by omega] at g
    refine ss_frz2 2 rfl ?_
    refine s_ret' (c_tuple (c_comp (α := Nat) [("row", 6)] (blkOk_by (N := NCl) (sc := defScope sClosed) (by decide +kernel)) ?_))
    refine i_seq ?_
    and_intros
    refine ⟨List.range n, fun i => .list (rowD n D i), fun i => .tuple (rowD n D i), by unfold matD; rw [List.map_map]; rfl, by rw [List.length_range]; omega, fun j x hx => ⟨_, fun s H C cl fp => by nofun, fun s H C cl fp => ?_⟩, ?_⟩
    · and_intros
      rfl
    refine f_tupL ?_
    exact tabD_congr (mid_close way g)
  obtain ⟨as, D, a, b, c, g, rfl⟩ := iv
  obtain ⟨hm, rfl⟩ := rngD_at hd
  rw [show (0 : Int) + ((m : Nat) : Int) = ((m : Nat) : Int) by omega]
  have hm : m < n := by omega
  refine ⟨_, _, by nofun, ?_⟩
  refine s_for ?_
  infer_instance
  · omega
  refine ⟨fun one y => ∃ (as : List Addr) (b c : En), y = [.d (tabD n C), .rng 0 ((n : Nat) : Int), .own2 as (matD n (partD D m one 0)), .d (.int ((m : Nat) : Int)), b, c, .no, .no], ⟨as, _, _, by rw [part_start]⟩, fun one v δ' hd iv => ?_, fun δ' iv => ?_⟩
  case refine_2 =>
    obtain ⟨as, b, c, rfl⟩ := iv
    rw [rngD_length, show (((n : Nat) : Int) - 0).toNat = n by omega, part_end]
    and_intros
    exact ⟨as, stepD D m, _, _, _, g.step way hm, rfl⟩
  obtain ⟨as, b, c, rfl⟩ := iv
  obtain ⟨h1, rfl⟩ := rngD_at hd
  rw [show (0 : Int) + ((one : Nat) : Int) = ((one : Nat) : Int) by omega]
  have h1 : one < n := by omega
  refine ⟨_, _, by nofun, ?_⟩
  refine s_for ?_
  infer_instance
  · omega
  refine ⟨fun other y => ∃ (as : List Addr) (c : En), y = [.d (tabD n C), .rng 0 ((n : Nat) : Int), .own2 as (matD n (partD D m one other)), .d (.int ((m : Nat) : Int)), .d (.int ((one : Nat) : Int)), c, .no, .no], ⟨as, _, rfl⟩, fun other v δ' hd iv => ?_, fun δ' iv => ?_⟩
  case refine_2 =>
    obtain ⟨as, c, rfl⟩ := iv
    rw [rngD_length, show (((n : Nat) : Int) - 0).toNat = n by omega, part_row]
    and_intros
    exact ⟨as, _, _, rfl⟩
  obtain ⟨as, c, rfl⟩ := iv
  obtain ⟨h2, rfl⟩ := rngD_at hd
  rw [show (0 : Int) + ((other : Nat) : Int) = ((other : Nat) : Int) by omega]
  have h2 : other < n := by omega
  refine ⟨_, _, by nofun, ?_⟩
  refine s_unpX ?_
  refine c_min2 (c_of (pd_own2At 2 one rfl (pd_v 4) (pd_v 5) (at_row h1) (matD_row h1) (at_rowD h2)) (c_bin (c_of (pd_own2At 2 one rfl (pd_v 4) (pd_v 3) (at_row h1) (matD_row h1) (at_rowD hm)) (c_of (pd_own2At 2 m rfl (pd_v 3) (pd_v 5) (at_row hm) (matD_row hm) (at_rowD h2)) (bp_add (f_min2 ?_))))))
  rw [part_at g hm h1 h2]
  refine ⟨_, tx_row 2 one other rfl (pd_v 4) (pd_v 5) (at_row h1) (matD_row h1) (ix_row h2), ?_⟩
  and_intros
  · exact ⟨as, _, by rw [mat_set h1 h2, part_next]; rfl⟩
  exact 0
end
end K19

set_option linter.all false
set_option maxRecDepth 100000
set_option maxHeartbeats 4000000
namespace K19
open PySem PySem.Spec PyProof.Rows L2 RZ Dv
variable [Tbl]
abbrev sCkCity : Stmt := at_def "check_city"
abbrev sIsStop : Stmt := at_def "is_stop"
abbrev sCkStops : Stmt := at_def "check_stops"
abbrev sDriveOf : Stmt := at_def "drive_of"
abbrev sDrive : Stmt := at_def "drive_between"
theorem mat_tab {n : Nat} {C : Nat → Nat → Int} {i j : Nat} (hi : i < n) (hj : j < n) : matOf (tabD n C) i j = C i j := by
  show intOf ((tupOf (((List.range n).map fun i => PyData.tuple (rowD n C i)).getD i .none)).getD j .none) = _
  rw [List.getD_eq_getElem?_getD (l := (List.range n).map _), List.getElem?_map, List.getElem?_range hi]
  show intOf ((rowD n C i).getD j .none) = _
  unfold rowD
  rw [List.getD_eq_getElem?_getD, List.getElem?_map, List.getElem?_range hj]; rfl
theorem sz_tab {n : Nat} {C : Nat → Nat → Int} : szD (tabD n C) = n := by show ((List.range n).map _).length = n; rw [List.length_map, List.length_range]
theorem ways_ok {n : Nat} {C : Nat → Nat → Int} (w : Way n 120 C) (n1 : 1 ≤ n) (n2 : n ≤ 12) : waysB (tabD n C) = true := by
  have tl : ((List.range n).map fun i => PyData.tuple (rowD n C i)).length = n := by rw [List.length_map, List.length_range]
  unfold waysB
  rw [Bool.and_eq_true]
  constructor
  · unfold tabB
    rw [sz_tab, Bool.and_eq_true]
    constructor
    · show (decide (1 ≤ ((((List.range n).map fun i => PyData.tuple (rowD n C i)).length : Nat) : Int)) && decide (((((List.range n).map fun i => PyData.tuple (rowD n C i)).length : Nat) : Int) ≤ 12)) = true
      rw [tl, decide_eq_true (by omega), decide_eq_true (by omega)]; rfl
    · show (((List.range n).map fun i => PyData.tuple (rowD n C i)).all _) = true
      rw [List.all_map, List.all_eq_true]
      intro i hi
      have hi := List.mem_range.mp hi
      show arewB (.tuple (rowD n C i)) ((n : Nat) : Int) 0 120 = true
      rw [show rowD n C i = ((List.range n).map (C i)).map PyData.int by unfold rowD; rw [List.map_map]; rfl]
      refine arewB_ints (by rw [List.length_map, List.length_range]) fun x hx => ?_
      obtain ⟨j, hj, rfl⟩ := List.mem_map.mp hx
      have hj := List.mem_range.mp hj
      by_cases e : i = j
      · subst e; rw [w.dia i hi]; omega
      · have := w.pos i j hi hj e; omega
  · rw [sz_tab, List.all_eq_true]
    intro i hi
    rw [List.all_eq_true]
    intro j hj
    have hi := List.mem_range.mp hi
    have hj := List.mem_range.mp hj
    unfold pairW
    rw [mat_tab hi hj, mat_tab hj hi, decide_eq_true (w.sym i j hi hj), Bool.true_and]
    refine decide_eq_true ?_
    by_cases e : i = j
    · subst e
      rw [decide_eq_true (w.dia i hi), decide_eq_true rfl]
    · have := (w.pos i j hi hj e).1
      rw [decide_eq_false (by omega), decide_eq_false e]
theorem short_ok {n : Nat} {C : Nat → Nat → Int} : ((List.range (szD (tabD n C))).all fun i => (List.range (szD (tabD n C))).all (shortW (szD (tabD n C)) (matOf (tabD n C)) i)) = true ↔ ∀ i j k, i < n → j < n → k < n → C i j ≤ C i k + C k j := by
  rw [sz_tab, List.all_eq_true]
  constructor
  · intro h i j k hi hj hk
    have := of_decide_eq_true (List.all_eq_true.mp (List.all_eq_true.mp (h i (List.mem_range.mpr hi)) j (List.mem_range.mpr hj)) k (List.mem_range.mpr hk))
    rw [mat_tab hi hj, mat_tab hi hk, mat_tab hk hj] at this
    exact this
  · intro h i hi
    rw [List.all_eq_true]
    intro j hj
    unfold shortW
    rw [List.all_eq_true]
    intro k hk
    have hi := List.mem_range.mp hi
    have hj := List.mem_range.mp hj
    have hk := List.mem_range.mp hk
    refine decide_eq_true ?_
    rw [mat_tab hi hj, mat_tab hi hk, mat_tab hk hj]
    exact h i j k hi hj hk
theorem closed_ok {n : Nat} {C : Nat → Nat → Int} (c : Closed n 120 C) (n1 : 1 ≤ n) (n2 : n ≤ 12) : closedB (tabD n C) = true := by
  unfold closedB
  rw [ways_ok c.way n1 n2, Bool.true_and]
  exact short_ok.mpr fun i j k hi hj hk => c.tri i j k hi hj hk
theorem city_ok {c : City} (ok : c.ok) : cityB c.d = true := by
  have n1 := ok.n1
  have n2 := ok.n2
  have zl := ok.zl
  have cl0 := ok.cl
  have sz : szD (intsT c.zones) = c.n := by show (c.zones.map PyData.int).length = _; rw [List.length_map, zl]
  show (wordB (.str "city") ["city"] && (tupB (intsT c.zones) 1 12 && (arewB (intsT c.zones) ((szD (intsT c.zones) : Nat) : Int) 1 4 && (arewB (intsT c.changes) ((szD (intsT c.zones) : Nat) : Int) 0 9 && (tblB (tabD c.n c.walk) (szD (intsT c.zones)) && tblB (tabD c.n c.drive) (szD (intsT c.zones))))))) = true
  rw [sz]
  have e1 : tupB (intsT c.zones) 1 12 = true := by
    show (decide (1 ≤ (((c.zones.map PyData.int).length : Nat) : Int)) && decide ((((c.zones.map PyData.int).length : Nat) : Int) ≤ 12)) = true
    rw [List.length_map, decide_eq_true (by omega), decide_eq_true (by omega)]; rfl
  have e4 : ∀ C, Closed c.n 120 C → tblB (tabD c.n C) c.n = true := fun C cc => by unfold tblB; rw [closed_ok cc n1 n2, sz_tab, decide_eq_true rfl]; rfl
  rw [e1, arewB_ints (by rw [zl]) ok.zb, arewB_ints (by rw [cl0]) ok.cb, e4 _ ok.wk, e4 _ ok.dr]
  rfl
structure ErrIs (K : Fg) (mg : Str → Option Value) (C C0 : Addr) : Prop where
  g0 : mg "CityError" = some (.ref C0)
  ex : L2.ExcC K C
  is0 : PySem.W.kitOne K (.ref C) (.ref C0) = some true
  isV : PySem.W.kitOne K (.ref C) (.type "ValueError") = some true
section
variable {P : Program} {w : World} {K : Fg} {mg : Str → Option Value} {base : Heap} {f : Addr} {fd : FuncData}
theorem scCkCity : FnScope ["city"] ["city"] (defScope sCkCity) := ⟨rfl, rfl, rfl, by decide +kernel, rfl, by decide +kernel, by decide +kernel⟩
def rCkCity (ds : List Dt) (d : Dt) : Prop := ∃ c : City, c.ok ∧ ds = [c.d] ∧ d = .none
theorem f_ckcity (C1 : Cal P w K mg base 6 "is_city" ["value"] sIsCity (spD K rIsCity)) (F : Fun K "check_city" "check_city" sCkCity f fd) : FnG P w K mg base 7 f fd ["city"] (spD K rCkCity) := by
  refine fn_data F scCkCity (fun ds d ⟨_, _, e, _⟩ => by subst e; rfl) fun cdv A outer s H E hr hgd hu ds d h => ?_
  obtain ⟨y, ok, rfl, rfl⟩ := h
  have hN := scCkCity.nd
  and_intros
  refine br_nby (city_ok ok) ?_
  and_intros
  rfl
theorem scIsStop : FnScope ["city", "value"] ["city", "value"] (defScope sIsStop) := ⟨rfl, rfl, rfl, by decide +kernel, rfl, by decide +kernel, by decide +kernel⟩
def rIsStop (ds : List Dt) (d : Dt) : Prop := ∃ (c : City) (v : Dt), c.ok ∧ ds = [c.d, v] ∧ d = .bool (withinB v 0 ((c.n : Nat) - 1))
theorem f_isstop (T : Free mg) (C1 : Cal P w K mg base 2 "is_within" ["value", "least", "most"] sWithin (spD K rWithin)) (F : Fun K "is_stop" "is_stop" sIsStop f fd) : FnG P w K mg base 3 f fd ["city", "value"] (spD K rIsStop) := by
  refine fn_data F scIsStop (fun ds d ⟨_, _, _, e, _⟩ => by subst e; rfl) fun cdv A outer s H E hr hgd hu ds d h => ?_
  obtain ⟨y, v, ok, rfl, rfl⟩ := h
  have hN := scIsStop.nd
  and_intros
  rw [List.length_map, ok.zl]
abbrev NCS : List Str := ["city", "one", "other", "stop"]
theorem scCkStops : FnScope NCS ["city", "one", "other"] (defScope sCkStops) := ⟨rfl, rfl, rfl, by decide +kernel, rfl, by decide +kernel, by decide +kernel⟩
def rCkStops (ds : List Dt) (d : Dt) : Prop := ∃ (c : City) (i j : Nat), c.ok ∧ i < c.n ∧ j < c.n ∧ ds = [c.d, .int ((i : Nat) : Int), .int ((j : Nat) : Int)] ∧ d = .none
theorem f_ckstops (C1 : Cal P w K mg base 7 "check_city" ["city"] sCkCity (spD K rCkCity)) (C2 : Cal P w K mg base 3 "is_stop" ["city", "value"] sIsStop (spD K rIsStop)) (F : Fun K "check_stops" "check_stops" sCkStops f fd) : FnG P w K mg base 8 f fd ["city", "one", "other"] (spD K rCkStops) := by
  refine fn_data F scCkStops (fun ds d ⟨_, _, _, _, _, _, e, _⟩ => by subst e; rfl) fun cdv A outer s H E hr hgd hu ds d h => ?_
  obtain ⟨y, i, j, ok, hi, hj, rfl, rfl⟩ := h
  have hN := scCkStops.nd
  and_intros
  refine s_for ?_
  and_intros
  refine ⟨by simp, seq_t ⟨fun _ z => ∃ e, z = [.d y.d, .d (.int ((i : Nat) : Int)), .d (.int ((j : Nat) : Int)), e], ⟨_, rfl⟩, fun k d δ' hd iv => ?_, fun δ' iv => ?_⟩⟩
  · obtain ⟨e, rfl⟩ := iv
    have key : ∃ m : Nat, m < y.n ∧ d = .int ((m : Nat) : Int) := by
      match k, hd with
      | 0, hd => cases hd; exact ⟨i, hi, rfl⟩
      | 1, hd => cases hd; exact ⟨j, hj, rfl⟩
      | k + 2, hd => simp at hd
    obtain ⟨m, hm, rfl⟩ := key
    refine ⟨_, _, by nofun, ?_⟩
    and_intros
    refine ⟨_, ⟨y, _, ok, rfl, rfl⟩, ?_⟩
    and_intros
    refine br_nby (by simp [withinB]; omega) ?_
    and_intros
    exact ⟨_, rfl⟩
  · obtain ⟨e, rfl⟩ := iv
    and_intros
    rfl
theorem scDriveOf : FnScope ["city", "one", "other"] ["city", "one", "other"] (defScope sDriveOf) := ⟨rfl, rfl, rfl, by decide +kernel, rfl, by decide +kernel, by decide +kernel⟩
def rDriveOf (ds : List Dt) (d : Dt) : Prop := ∃ (c : City) (i j : Nat), c.ok ∧ i < c.n ∧ j < c.n ∧ ds = [c.d, .int ((i : Nat) : Int), .int ((j : Nat) : Int)] ∧ d = .int (c.drive i j)
theorem f_driveof (T : Free mg) (F : Fun K "drive_of" "drive_of" sDriveOf f fd) : FnG P w K mg base 1 f fd ["city", "one", "other"] (spD K rDriveOf) := by
  refine fn_data F scDriveOf (fun ds d ⟨_, _, _, _, _, _, e, _⟩ => by subst e; rfl) fun cdv A outer s H E hr hgd hu ds d h => ?_
  obtain ⟨y, i, j, ok, hi, hj, rfl, rfl⟩ := h
  have hN := scDriveOf.nd
  and_intros
  refine c_intc ?_
  and_intros
  refine ip_tup (at_tabD hi) ?_
  and_intros
  refine ip_tup (at_rowD hj) ?_
  exact f_int rfl
theorem getD_at {ns : List Int} {i : Nat} (h : i < ns.length) : ns[i]? = some (ns.getD i 0) := by rw [List.getD_eq_getElem?_getD, List.getElem?_eq_getElem h]; rfl
theorem scDrive : FnScope ["city", "one", "other"] ["city", "one", "other"] (defScope sDrive) := ⟨rfl, rfl, rfl, by decide +kernel, rfl, by decide +kernel, by decide +kernel⟩
theorem f_drive (C1 : Cal P w K mg base 8 "check_stops" ["city", "one", "other"] sCkStops (spD K rCkStops)) (C2 : Cal P w K mg base 1 "drive_of" ["city", "one", "other"] sDriveOf (spD K rDriveOf)) (F : Fun K "drive_between" "drive_between" sDrive f fd) : FnG P w K mg base 9 f fd ["city", "one", "other"] (spD K rDriveOf) := by
  refine fn_data F scDrive (fun ds d ⟨_, _, _, _, _, _, e, _⟩ => by subst e; rfl) fun cdv A outer s H E hr hgd hu ds d h => ?_
  obtain ⟨y, i, j, ok, hi, hj, rfl, rfl⟩ := h
  have hN := scDrive.nd
  and_intros
  refine ⟨_, ⟨y, i, j, ok, hi, hj, rfl, rfl⟩, ?_⟩
  and_intros
  exact ⟨_, ⟨y, i, j, ok, hi, hj, rfl, rfl⟩, rfl⟩
/-! ### what is refused -/
def rClosedX (ds : List Dt) (cn : Str) (d : Dt) : Prop := ∃ v : Dt, waysB v = false ∧ ds = [v] ∧ cn = "InvalidTable" ∧ d = v
theorem fx_closed {C fI : Addr} (T : Free mg) (C1 : Cal P w K mg base 4 "is_way_table" ["value"] sWayTable (spD K rWayTable)) (Er : ErrTxt K mg "InvalidTable" "InvalidTable.__init__" C fI) (F : Fun K "closed" "closed" sClosed f fd) : FnX P w K mg base 5 f fd ["table"] (spX K mg rClosedX) := by
  refine fnX_data F scClosed (fun ds cn d ⟨_, _, e, _⟩ => by subst e; rfl) fun cdv A outer s H E hr hgd hu ds cn d h => ?_
  obtain ⟨v, hw, rfl, rfl, rfl⟩ := h
  have hN := scClosed.nd
  refine s_start (by repeat (first | exact StR.nil | apply StR.d | apply StR.no)) ?_
  refine x_eq (by conv => { lhs; whnf }) ?_
  refine x_if ?_ (x_raise Er ?_)
  · and_intros
    rw [hw]; rfl
  · and_intros
    exact ⟨rfl, rfl⟩
end
end K19

set_option linter.all false
set_option maxRecDepth 100000
set_option maxHeartbeats 4000000
namespace K19
open PySem PySem.Spec PyProof.Rows L2 RZ Dv
variable [Tbl]
structure Cn (mg : Str → Option Value) : Prop where
  stops : ∃ t, mg "MOST_STOPS" = some (.int 12 t)
  zone : ∃ t, mg "LAST_ZONE" = some (.int 4 t)
  change : ∃ t, mg "LONGEST_CHANGE" = some (.int 9 t)
  way : ∃ t, mg "LONGEST_WAY" = some (.int 120 t)
  lines : ∃ t, mg "MOST_LINES" = some (.int 8 t)
  lstops : ∃ t, mg "MOST_LINE_STOPS" = some (.int 8 t)
  hop : ∃ t, mg "LONGEST_HOP" = some (.int 99 t)
  stand : ∃ t, mg "LONGEST_STAND" = some (.int 30 t)
  apart : ∃ t, mg "MOST_APART" = some (.int 30 t)
theorem row_ints {n i : Nat} {C : Nat → Nat → Int} : rowD n C i = ((List.range n).map (C i)).map PyData.int := by unfold rowD; rw [List.map_map]; rfl
abbrev sIsLine : Stmt := at_def "is_line"
abbrev sAreLines : Stmt := at_def "are_lines"
abbrev sAreLinesOf : Stmt := at_def "are_lines_of"
abbrev sIsLineOf : Stmt := at_def "is_line_of"
abbrev sLineStops : Stmt := at_def "are_line_stops"
abbrev sDrivable : Stmt := at_def "are_drivable"
abbrev sLeast : Stmt := at_def "least_between"
def neD : Dt → Dt → Bool
  | .int a, .int b => !decide (a = b)
  | _, _ => false
def pairsB (f : Dt → Dt → Bool) : List Dt → Bool
  | a :: b :: r => f a b && pairsB f (b :: r)
  | _ => true
def stopsB (c : City) (v : Dt) : Bool := tupB v 2 8 && ((tupOf v).all (fun x => withinB x 0 ((c.n : Nat) - 1)) && pairsB neD (tupOf v))
def lenD (v : Dt) : Int := ((tupOf v).length : Int)
def driveD (c : City) : Dt → Dt → Int
  | .int a, .int b => c.drive a.toNat b.toNat
  | _, _ => 0
def drivB (c : City) : List Dt → List Dt → Bool
  | a :: b :: r, .int l :: ls => decide (driveD c a b ≤ l) && drivB c (b :: r) ls
  | _, _ => true
def lineB (c : City) (v : Dt) : Bool := match v with
  | .tuple [x0, x1, x2, x3, x4] => wordB x0 ["line"] && (stopsB c x1 && (arewB x2 (lenD x1 - 1) 1 99 && (arewB x3 (lenD x1 - 2) 0 30 && (withinB x4 1 30 && drivB c (tupOf x1) (tupOf x2)))))
  | _ => false
/-- known stops -/
theorem all_ints {a b : Int} : ∀ {es : List Dt}, (es.all fun x => withinB x a b) = true → ∃ ns : List Int, es = ns.map PyData.int ∧ ∀ i ∈ ns, a ≤ i ∧ i ≤ b
  | [], _ => ⟨[], rfl, by simp⟩
  | x :: xs, h => by
    simp only [List.all_cons, Bool.and_eq_true] at h
    obtain ⟨ns, e1, e2⟩ := all_ints h.2
    have hx := h.1
    cases x with
    | int i =>
      simp only [withinB, Bool.and_eq_true, decide_eq_true_eq] at hx
      exact ⟨i :: ns, by rw [e1]; rfl, fun k hk => by
        rcases List.mem_cons.mp hk with rfl | hk
        · exact hx
        · exact e2 k hk⟩
    | _ => cases hx
theorem pairs_all {f : Dt → Dt → Bool} : ∀ {es : List Dt}, pairsB f es = (List.range (es.length - 1)).all fun i => f (es.getD i .none) (es.getD (i + 1) .none)
  | [] => rfl
  | [_] => rfl
  | a :: b :: r => by
    show (f a b && pairsB f (b :: r)) = _
    rw [pairs_all, show (a :: b :: r).length - 1 = ((b :: r).length - 1) + 1 by simp, List.range_succ_eq_map, List.all_cons, List.all_map]
    rfl
theorem driv_all {c : City} : ∀ {es ls : List Dt}, es.length = ls.length + 1 → (∀ x ∈ ls, ∃ i, x = .int i) → drivB c es ls = (List.range ls.length).all fun i => match ls.getD i .none with
    | .int l => decide (driveD c (es.getD i .none) (es.getD (i + 1) .none) ≤ l)
    | _ => true
  | [], _, h, _ => by simp at h
  | [_], [], _, _ => rfl
  | _ :: _ :: _, [], h, _ => by simp at h
  | [_], _ :: _, h, _ => by simp at h
  | a :: b :: r, x :: ls, h, hi => by
    obtain ⟨l, rfl⟩ := hi x List.mem_cons_self
    show (decide (driveD c a b ≤ l) && drivB c (b :: r) ls) = _
    rw [driv_all (by simpa using h) fun x hx => hi x (List.mem_cons_of_mem _ hx), List.length_cons, List.range_succ_eq_map, List.all_cons, List.all_map]
    rfl
theorem getD_int {ns : List Int} {i : Nat} {k : Int} (h : ns[i]? = some k) : (ns.map PyData.int).getD i .none = .int k := by
  rw [List.getD_eq_getElem?_getD, List.getElem?_map, h]; rfl
section
variable {P : Program} {w : World} {K : Fg} {mg : Str → Option Value} {base : Heap} {f : Addr} {fd : FuncData}
abbrev NS : List Str := ["city", "value", "stop", "hop"]
theorem scLineStops : FnScope NS ["city", "value"] (defScope sLineStops) := ⟨rfl, rfl, rfl, by decide +kernel, rfl, by decide +kernel, by decide +kernel⟩
def rLineStops (ds : List Dt) (d : Dt) : Prop := ∃ (c : City) (v : Dt), c.ok ∧ ds = [c.d, v] ∧ d = .bool (stopsB c v)
theorem f_linestops (T : Free mg) (c : Cn mg) (C1 : Cal P w K mg base 1 "is_tuple" ["value", "least", "most"] sTuple (spD K rTuple)) (C2 : Cal P w K mg base 3 "is_stop" ["city", "value"] sIsStop (spD K rIsStop)) (F : Fun K "are_line_stops" "are_line_stops" sLineStops f fd) : FnG P w K mg base 4 f fd ["city", "value"] (spD K rLineStops) := by
  refine fn_data F scLineStops (fun ds d ⟨_, _, _, e, _⟩ => by subst e; rfl) fun cdv A outer s H E hr hgd hu ds d h => ?_
  obtain ⟨y, v, ok, rfl, rfl⟩ := h
  have hN := scLineStops.nd
  obtain ⟨c1, c2, c3, c4, c5, c6, c7, c8, c9⟩ := c
  and_intros
  refine ⟨fun h1 => ?_, fun h1 => ?_⟩
  · and_intros
    show _ = PyData.bool (tupB v 2 8 && _)
    rw [show tupB v 2 8 = false by simpa using h1]; rfl
  have h2 : tupB v 2 8 = true := by simpa using h1
  obtain ⟨es, rfl, k2, k3⟩ := tupB_of h2
  and_intros
  refine c_allF (α := Dt) [("stop", 2)] (blkOk_by (N := NS) (sc := defScope sLineStops) (by decide +kernel)) ?_
  and_intros
  refine ⟨es, _root_.id, fun x => withinB x 0 ((y.n : Nat) - 1), by simp, by omega, fun i x hx => ⟨_, fun s H C cl fp => by nofun, fun s H C cl fp => ?_⟩, ?_⟩
  · and_intros
    exact ⟨_, ⟨y, _, ok, rfl, rfl⟩, rfl⟩
  and_intros
  refine ⟨fun h3 => ?_, fun h3 => ?_⟩
  · and_intros
    show _ = PyData.bool (tupB (.tuple es) 2 8 && ((es.all _) && _))
    rw [show (es.all fun x => withinB x 0 ((y.n : Nat) - 1)) = false by simpa using h3, Bool.false_and, Bool.and_false]
  have h4 : (es.all fun x => withinB x 0 ((y.n : Nat) - 1)) = true := by simpa using h3
  obtain ⟨ns, rfl, hns⟩ := all_ints h4
  rw [List.length_map] at k2 k3
  and_intros
  refine c_allF (α := Nat) [("hop", 3)] (blkOk_by (N := NS) (sc := defScope sLineStops) (by decide +kernel)) ?_
  and_intros
  rw [List.length_map]
  refine ⟨by omega, List.range (ns.length - 1), fun i => .int (0 + ((i : Nat) : Int)), fun i => neD ((ns.map PyData.int).getD i .none) ((ns.map PyData.int).getD (i + 1) .none), by unfold rngD; rw [show ((ns.length : Int) - 1).toNat = ns.length - 1 by omega], by rw [List.length_range]; omega, fun k x hx => ?_, ?_⟩
  · have hx2 : x < ns.length - 1 := List.mem_range.mp (List.mem_of_getElem? hx)
    have e1 : ns[x]? = some ns[x] := List.getElem?_eq_getElem (by omega)
    have e2 : ns[x + 1]? = some ns[x + 1] := List.getElem?_eq_getElem (by omega)
    refine ⟨_, fun s H C cl fp => by nofun, fun s H C cl fp => ?_⟩
    dsimp only
    rw [show (0 : Int) + ((x : Nat) : Int) = ((x : Nat) : Int) by omega]
    and_intros
    refine ip_tup (at_map e1) ?_
    and_intros
    refine ip_tup (at_map (i := x + 1) e2) ?_
    and_intros
    rw [getD_int e1, getD_int e2]
    rfl
  · show _ = PyData.bool (tupB (.tuple _) 2 8 && (((ns.map PyData.int).all _) && pairsB neD (ns.map PyData.int)))
    rw [h4, h2, pairs_all, List.length_map]; rfl
abbrev ND : List Str := ["city", "stops", "leasts", "hop"]
theorem scDrivable : FnScope ND ["city", "stops", "leasts"] (defScope sDrivable) := ⟨rfl, rfl, rfl, by decide +kernel, rfl, by decide +kernel, by decide +kernel⟩
def rDrivable (ds : List Dt) (d : Dt) : Prop := ∃ (c : City) (ns ls : List Int), c.ok ∧ ns.length = ls.length + 1 ∧ ls.length ≤ 100 ∧ (∀ i ∈ ns, 0 ≤ i ∧ i ≤ (c.n : Nat) - 1) ∧ ds = [c.d, .tuple (ns.map PyData.int), .tuple (ls.map PyData.int)] ∧ d = .bool (drivB c (ns.map PyData.int) (ls.map PyData.int))
theorem f_drivable (T : Free mg) (C1 : Cal P w K mg base 1 "drive_of" ["city", "one", "other"] sDriveOf (spD K rDriveOf)) (F : Fun K "are_drivable" "are_drivable" sDrivable f fd) : FnG P w K mg base 2 f fd ["city", "stops", "leasts"] (spD K rDrivable) := by
  refine fn_data F scDrivable (fun ds d ⟨_, _, _, _, _, _, _, e, _⟩ => by subst e; rfl) fun cdv A outer s H E hr hgd hu ds d h => ?_
  obtain ⟨y, ns, ls, ok, hl, h100, hb, rfl, rfl⟩ := h
  have hN := scDrivable.nd
  and_intros
  refine c_allF (α := Nat) [("hop", 3)] (blkOk_by (N := ND) (sc := defScope sDrivable) (by decide +kernel)) ?_
  and_intros
  rw [List.length_map]
  refine ⟨by omega, List.range ls.length, fun i => .int (0 + ((i : Nat) : Int)), fun i => match (ls.map PyData.int).getD i .none with
    | .int l => decide (driveD y ((ns.map PyData.int).getD i .none) ((ns.map PyData.int).getD (i + 1) .none) ≤ l)
    | _ => true, by unfold rngD; rw [show ((ls.length : Int)).toNat = ls.length by omega], by rw [List.length_range]; omega, fun k x hx => ?_, ?_⟩
  · have hx2 : x < ls.length := List.mem_range.mp (List.mem_of_getElem? hx)
    have e0 : ls[x]? = some ls[x] := List.getElem?_eq_getElem (by omega)
    have e1 : ns[x]? = some ns[x] := List.getElem?_eq_getElem (by omega)
    have e2 : ns[x + 1]? = some ns[x + 1] := List.getElem?_eq_getElem (by omega)
    have b1 := hb _ (List.mem_of_getElem? e1)
    have b2 := hb _ (List.mem_of_getElem? e2)
    obtain ⟨p, hp⟩ := Int.eq_ofNat_of_zero_le b1.1
    obtain ⟨q, hq⟩ := Int.eq_ofNat_of_zero_le b2.1
    refine ⟨_, fun s H C cl fp => by nofun, fun s H C cl fp => ?_⟩
    dsimp only
    rw [show (0 : Int) + ((x : Nat) : Int) = ((x : Nat) : Int) by omega]
    and_intros
    refine ip_tup (at_map e0) ?_
    and_intros
    refine ip_tup (at_map e1) ?_
    and_intros
    refine ip_tup (at_map (i := x + 1) e2) ?_
    and_intros
    rw [hp, hq]
    refine ⟨_, ⟨y, p, q, ok, by omega, by omega, rfl, rfl⟩, ?_⟩
    and_intros
    rw [getD_int e0, getD_int e1, getD_int e2, hp, hq]
    rfl
  · rw [driv_all (by rw [List.length_map, List.length_map]; exact hl) (fun x hx => by obtain ⟨i, _, e⟩ := List.mem_map.mp hx; exact ⟨i, e.symm⟩), List.length_map]
    rfl
end
end K19

set_option linter.all false
set_option maxRecDepth 100000
set_option maxHeartbeats 4000000
namespace Dv
theorem cut_two {α : Type} {xs : List α} {F : α → Dt} {i j : Nat} (h : i ≤ j) (hj : j ≤ xs.length) : cutD (xs.map F) (some ((i : Nat) : Int)) (some ((j : Nat) : Int)) = ((xs.drop i).take (j - i)).map F := by
  unfold cutD
  rw [HT.sIx_nat, HT.sIx_nat, ← List.map_drop, ← List.map_take, List.length_map, Nat.min_eq_left hj, Nat.min_eq_left (Nat.le_trans h hj)]
end Dv
namespace K19
open PySem PySem.Spec PyProof.Rows L2 RZ Dv
variable [Tbl]
theorem line_not {c : City} {v : Dt} (h : namedB v "line" 5 = false) : lineB c v = false := by
  unfold lineB
  split
  · rename_i x0 x1 x2 x3 x4
    have e : wordB x0 ["line"] = false := h
    rw [e]; rfl
  · rfl
section
variable {P : Program} {w : World} {K : Fg} {mg : Str → Option Value} {base : Heap} {f : Addr} {fd : FuncData}
abbrev NLo : List Str := ["city", "value", "_", "stops", "leasts", "stands", "apart", "hops"]
theorem scIsLineOf : FnScope NLo ["city", "value"] (defScope sIsLineOf) := ⟨rfl, rfl, rfl, by decide +kernel, rfl, by decide +kernel, by decide +kernel⟩
def rIsLine (ds : List Dt) (d : Dt) : Prop := ∃ (c : City) (v : Dt), c.ok ∧ ds = [c.d, v] ∧ d = .bool (lineB c v)
theorem f_islineof (T : Free mg) (c : Cn mg) (C1 : Cal P w K mg base 2 "is_named" ["value", "word", "many"] sNamed (spD K rNamed)) (C2 : Cal P w K mg base 4 "are_line_stops" ["city", "value"] sLineStops (spD K rLineStops)) (C3 : Cal P w K mg base 3 "are_within" ["value", "many", "least", "most"] sAreWithin (spD K rAreWithin)) (C4 : Cal P w K mg base 2 "is_within" ["value", "least", "most"] sWithin (spD K rWithin)) (C5 : Cal P w K mg base 2 "are_drivable" ["city", "stops", "leasts"] sDrivable (spD K rDrivable)) (F : Fun K "is_line_of" "is_line_of" sIsLineOf f fd) : FnG P w K mg base 5 f fd ["city", "value"] (spD K rIsLine) := by
  refine fn_data F scIsLineOf (fun ds d ⟨_, _, _, e, _⟩ => by subst e; rfl) fun cdv A outer s H E hr hgd hu ds d h => ?_
  obtain ⟨y, v, ok, rfl, rfl⟩ := h
  have hN := scIsLineOf.nd
  obtain ⟨c1, c2, c3, c4, c5, c6, c7, c8, c9⟩ := c
  and_intros
  refine ⟨fun h1 => ?_, fun h1 => ?_⟩
  · and_intros
    rw [line_not (by simpa using h1)]
  obtain ⟨x0, x1, x2, x3, x4, rfl, h0⟩ := named5 (v := v) (x := "line") (by simpa using h1)
  and_intros
  refine ⟨_, ⟨y, x1, ok, rfl, rfl⟩, ?_⟩
  and_intros
  have go : lineB y (.tuple [x0, x1, x2, x3, x4]) = (stopsB y x1 && (arewB x2 (lenD x1 - 1) 1 99 && (arewB x3 (lenD x1 - 2) 0 30 && (withinB x4 1 30 && drivB y (tupOf x1) (tupOf x2))))) := by
    show (wordB x0 ["line"] && _) = _
    rw [h0, Bool.true_and]
  rw [go]
  refine ⟨fun h2 => ?_, fun h2 => ?_⟩
  · and_intros
    rw [show stopsB y x1 = false by simpa using h2]; rfl
  have h3 : stopsB y x1 = true := by simpa using h2
  rw [h3, Bool.true_and]
  have h3' := h3
  simp only [stopsB, Bool.and_eq_true] at h3'
  obtain ⟨es, rfl, k1, k2⟩ := tupB_of h3'.1
  obtain ⟨ns, e0, hns⟩ := all_ints h3'.2.1
  have e0' : es = ns.map PyData.int := e0
  subst e0'
  rw [List.length_map] at k1 k2
  have ld : lenD (.tuple (ns.map PyData.int)) = (ns.length : Int) := by unfold lenD tupOf; rw [List.length_map]
  rw [ld]
  and_intros
  rw [List.length_map]
  refine ⟨_, ⟨x2, _, _, _, by omega, rfl, rfl⟩, ?_⟩
  and_intros
  refine ⟨fun h4 => ?_, fun h4 => ?_⟩
  · have h5 : arewB x2 ((ns.length : Int) - 1) 1 99 = true := by simpa using h4
    rw [h5, Bool.true_and]
    and_intros
    refine ⟨_, ⟨x3, _, _, _, by omega, rfl, rfl⟩, ?_⟩
    rw [show (ns.length : Int) - 1 - 1 = (ns.length : Int) - 2 by omega]
    and_intros
    refine ⟨fun h6 => ?_, fun h6 => ?_⟩
    · and_intros
      rw [show arewB x3 ((ns.length : Int) - 2) 0 30 = false by simpa using h6]; rfl
    · rw [show arewB x3 ((ns.length : Int) - 2) 0 30 = true by simpa using h6, Bool.true_and]
      and_intros
      refine ⟨fun h7 => ?_, fun h7 => ?_⟩
      · rw [h7, Bool.true_and]
        obtain ⟨ls, rfl, l1, l2⟩ := arewB_of h5
        and_intros
        exact ⟨_, ⟨y, ns, ls, ok, by omega, by omega, hns, rfl, rfl⟩, rfl⟩
      · rw [h7]; rfl
  · and_intros
    rw [show arewB x2 ((ns.length : Int) - 1) 1 99 = false by simpa using h4]; rfl
theorem scAreLinesOf : FnScope ["city", "value", "line"] ["city", "value"] (defScope sAreLinesOf) := ⟨rfl, rfl, rfl, by decide +kernel, rfl, by decide +kernel, by decide +kernel⟩
def linesB (c : City) (v : Dt) : Bool := tupB v 1 8 && (tupOf v).all (lineB c)
def rAreLines (ds : List Dt) (d : Dt) : Prop := ∃ (c : City) (v : Dt), c.ok ∧ ds = [c.d, v] ∧ d = .bool (linesB c v)
theorem f_arelinesof (T : Free mg) (c : Cn mg) (C1 : Cal P w K mg base 1 "is_tuple" ["value", "least", "most"] sTuple (spD K rTuple)) (C2 : Cal P w K mg base 5 "is_line_of" ["city", "value"] sIsLineOf (spD K rIsLine)) (F : Fun K "are_lines_of" "are_lines_of" sAreLinesOf f fd) : FnG P w K mg base 6 f fd ["city", "value"] (spD K rAreLines) := by
  refine fn_data F scAreLinesOf (fun ds d ⟨_, _, _, e, _⟩ => by subst e; rfl) fun cdv A outer s H E hr hgd hu ds d h => ?_
  obtain ⟨y, v, ok, rfl, rfl⟩ := h
  have hN := scAreLinesOf.nd
  obtain ⟨c1, c2, c3, c4, c5, c6, c7, c8, c9⟩ := c
  and_intros
  refine ⟨fun h1 => ?_, fun h1 => ?_⟩
  · and_intros
    show _ = PyData.bool (tupB v 1 8 && _)
    rw [show tupB v 1 8 = false by simpa using h1]; rfl
  have h2 : tupB v 1 8 = true := by simpa using h1
  obtain ⟨es, rfl, k2, k3⟩ := tupB_of h2
  and_intros
  refine c_allF (α := Dt) [("line", 2)] (blkOk_by (N := ["city", "value", "line"]) (sc := defScope sAreLinesOf) (by decide +kernel)) ?_
  and_intros
  refine ⟨es, _root_.id, lineB y, by simp, by omega, fun i x hx => ⟨_, fun s H C cl fp => by nofun, fun s H C cl fp => ?_⟩, ?_⟩
  · and_intros
    exact ⟨_, ⟨y, _, ok, rfl, rfl⟩, rfl⟩
  · show _ = PyData.bool (tupB (.tuple es) 1 8 && _)
    rw [h2]; rfl
theorem scAreLines : FnScope ["city", "value"] ["city", "value"] (defScope sAreLines) := ⟨rfl, rfl, rfl, by decide +kernel, rfl, by decide +kernel, by decide +kernel⟩
theorem f_arelines (C1 : Cal P w K mg base 7 "check_city" ["city"] sCkCity (spD K rCkCity)) (C2 : Cal P w K mg base 6 "are_lines_of" ["city", "value"] sAreLinesOf (spD K rAreLines)) (F : Fun K "are_lines" "are_lines" sAreLines f fd) : FnG P w K mg base 8 f fd ["city", "value"] (spD K rAreLines) := by
  refine fn_data F scAreLines (fun ds d ⟨_, _, _, e, _⟩ => by subst e; rfl) fun cdv A outer s H E hr hgd hu ds d h => ?_
  obtain ⟨y, v, ok, rfl, rfl⟩ := h
  have hN := scAreLines.nd
  and_intros
  exact ⟨_, ⟨y, v, ok, rfl, rfl⟩, rfl⟩
abbrev NB : List Str := ["line", "first", "last", "_", "leasts", "stands"]
theorem scLeast : FnScope NB ["line", "first", "last"] (defScope sLeast) := ⟨rfl, rfl, rfl, by decide +kernel, rfl, by decide +kernel, by decide +kernel⟩
def leastL (l : Line) (i j : Nat) : Int := ((l.leasts.drop i).take (j + 1 - i)).sum + ((l.stands.drop i).take (j - i)).sum
def rLeast (ds : List Dt) (d : Dt) : Prop := ∃ (l : Line) (i j : Nat), i ≤ j ∧ j < l.leasts.length ∧ l.stands.length + 1 = l.leasts.length ∧ ds = [l.d, .int ((i : Nat) : Int), .int ((j : Nat) : Int)] ∧ d = .int (leastL l i j)
theorem f_least (T : Free mg) (C1 : Cal P w K mg base 2 "is_within" ["value", "least", "most"] sWithin (spD K rWithin)) (F : Fun K "least_between" "least_between" sLeast f fd) : FnG P w K mg base 3 f fd ["line", "first", "last"] (spD K rLeast) := by
  refine fn_data F scLeast (fun ds d ⟨_, _, _, _, _, _, e, _⟩ => by subst e; rfl) fun cdv A outer s H E hr hgd hu ds d h => ?_
  obtain ⟨l, i, j, hij, hj, hl, rfl, rfl⟩ := h
  have hN := scLeast.nd
  and_intros
  refine br_nby ?_ ?_
  · simp [withinB]; omega
  and_intros
  refine br_nby ?_ ?_
  · simp [withinB]; omega
  and_intros
  rw [show ((j : Nat) : Int) + 1 = ((j + 1 : Nat) : Int) by omega, cut_two (by omega) (by omega)]
  and_intros
  rw [cut_two hij (by omega)]
  and_intros
  rfl
end
end K19

set_option linter.all false
set_option maxRecDepth 100000
set_option maxHeartbeats 4000000
namespace K19
open PySem PySem.Spec PyProof.Rows L2 RZ Dv
variable [Tbl]
abbrev sLWithin : Stmt := at_def "_law_is_within"
abbrev sLPot : Stmt := at_def "_law_pot"
theorem all_and2 {α : Type} {l : List α} {p q : α → Bool} : (l.all fun x => p x && q x) = (l.all p && l.all q) := by
  induction l with
  | nil => rfl
  | cons a l ih => rw [List.all_cons, List.all_cons, List.all_cons, ih]; cases p a <;> cases q a <;> cases l.all p <;> cases l.all q <;> rfl
theorem all_congr2 {α : Type} : ∀ {l : List α} {p q : α → Bool}, (∀ i ∈ l, p i = q i) → l.all p = l.all q
  | [], _, _, _ => rfl
  | a :: l, p, q, h => by rw [List.all_cons, List.all_cons, h a (List.mem_cons_self ..), all_congr2 fun i hi => h i (List.mem_cons_of_mem _ hi)]
theorem sum_step {ns : List Int} {i k : Nat} {v : Int} (h : ns[i + k]? = some v) : ((ns.drop i).take (k + 1)).sum = ((ns.drop i).take k).sum + v := by
  rw [List.take_succ, List.sum_append, List.getElem?_drop, h]; simp
theorem sum_in {b : Int} : ∀ {ns : List Int}, (∀ x ∈ ns, 0 ≤ x ∧ x ≤ b) → 0 ≤ ns.sum ∧ ns.sum ≤ b * (ns.length : Int)
  | [], _ => by simp
  | x :: ns, h => by
    have h1 := h x (List.mem_cons_self ..)
    have h2 := sum_in fun y hy => h y (List.mem_cons_of_mem _ hy)
    rw [List.sum_cons, List.length_cons]
    have e : b * ((ns.length + 1 : Nat) : Int) = b * (ns.length : Int) + b := by rw [show ((ns.length + 1 : Nat) : Int) = (ns.length : Int) + 1 by omega, Int.mul_add, Int.mul_one]
    rw [e]; omega
theorem at_ints {ns : List Int} {p : Nat} (h : p < ns.length) : atI (ns.map PyData.int) ((p : Nat) : Int) = some (.int (ns.getD p 0)) := at_map (getD_at h)
theorem all_true {α : Type} {xs : List α} : (xs.map fun _ => true).all _root_.id = true := by rw [List.all_map]; exact List.all_eq_true.mpr fun _ _ => rfl
def absL (i : Int) : Int := if i < 0 then -i else i
def cellL (ns : List Int) (k : Int) : Int := if decide (k < ((ns.length : Nat) : Int)) = true then absL (ns.getD k.toNat 0) else 67 * k + 47
def potA (ns : List Int) (k : Int) : Int := max 0 (cellL ns k - 10 ^ (18 : Int).toNat)
def potB (ns : List Int) (k : Int) : Int := (cellL ns k % 2147483563 * 47017 + 9203 * k + 811) % 2147483587 + 1
theorem pot_ok (ns : List Int) (k : Int) : potOk (potA ns k) (potB ns k) := by
  unfold potOk potA potB
  have h1 := Int.emod_nonneg (cellL ns k % 2147483563 * 47017 + 9203 * k + 811) (b := 2147483587) (by omega)
  have h2 := Int.emod_lt_of_pos (cellL ns k % 2147483563 * 47017 + 9203 * k + 811) (b := 2147483587) (by omega)
  omega
section
variable {P : Program} {w : World} {K : Fg} {mg : Str → Option Value} {base : Heap} {f : Addr} {fd : FuncData}
theorem scLPot : FnScope ["script", "k", "cell"] ["script", "k"] (defScope sLPot) := ⟨rfl, rfl, rfl, by decide +kernel, rfl, by decide +kernel, by decide +kernel⟩
def rLPot (ds es : List Dt) : Prop := ∃ (ns : List Int) (k : Int), 0 ≤ k ∧ k ≤ 2 ∧ ds = [.list (ns.map PyData.int), .int k] ∧ es = [.int (potA ns k), .int (potB ns k)]
theorem f_lpot (T : T0 K mg) (F : Fun K "_law_pot" "_law_pot" sLPot f fd) : FnG P w K mg base 1 f fd ["script", "k"] (spO K rLPot) := by
  refine fn_own F scLPot (fun ds d ⟨_, _, _, _, e, _⟩ => by subst e; rfl) fun cdv A outer s H E hr hgd hu ds d h => ?_
  obtain ⟨ns, k, k0, k1, rfl, rfl⟩ := h
  refine s_set 2 scLPot.nd (d := .int (cellL ns k)) (pd_if (k := decide (k < ((ns.length : Nat) : Int))) ((pt_lt (pd_v 1) (pd_len_list T.len (pa_c (pd_v 0) pa_n))).mono fun c e => by rw [e, List.length_map]) (fun h => ?_) (fun h => ?_)) ?_
  · have hk : k.toNat < ns.length := by have := of_decide_eq_true h; omega
    refine (pd_abs T.abs (pa_c (pd_ixL (d := .int (ns.getD k.toNat 0)) (pd_v 0) (pd_v 1) ?_) pa_n)).is ?_
    · obtain ⟨j, rfl⟩ := Int.eq_ofNat_of_zero_le k0
      exact at_ints (by simpa using hk)
    · unfold cellL absL; rw [if_pos h]
  · refine (pd_add (pd_mul pd_int (pd_v 1) (by unfold CMul; omega)) pd_int).is ?_
    unfold cellL; rw [if_neg (by rw [h]; decide)]
  · refine s_retLst (pa_c (pd_max2 rfl T.max (pa_c pd_int (pa_c (pd_sub (pd_v 2) (pd_pow pd_int pd_int (by unfold CPow; decide))) pa_n))) (pa_c (pd_add (pd_mod (pd_int1 T.int (pa_c (pd_add (pd_add (pd_mul (pd_mod (pd_int1 T.int (pa_c (pd_v 2) pa_n)) pd_int (by decide)) pd_int (by unfold CMul; omega)) (pd_mul pd_int (pd_v 1) (by unfold CMul; omega))) pd_int) pa_n)) pd_int (by decide)) pd_int) pa_n)) rfl
end
end K19

set_option linter.all false
set_option maxRecDepth 100000
set_option maxHeartbeats 4000000
namespace K19
open PySem PySem.Spec PyProof.Rows L2 RZ Dv
variable [Tbl]
abbrev sSlacks : Stmt := at_def "slacks"
abbrev sIsHop : Stmt := at_def "is_hop"
abbrev sToldDep : Stmt := at_def "told_departure"
abbrev sToldArr : Stmt := at_def "told_arrival"
structure Lfit (l : Line) : Prop where
  sl : l.stops.length = l.leasts.length + 1
  tl : l.stands.length + 1 = l.leasts.length
  few : l.leasts.length ≤ 100
def slackI (l : Line) (told : List Int) (h : Nat) : Int := told.getD (h + 1) 0 - told.getD h 0 - l.leasts.getD h 0 - l.stands.getD h 0
def linesD (ls : List Line) : Dt := .tuple (ls.map Line.d)
section
variable {P : Program} {w : World} {K : Fg} {mg : Str → Option Value} {base : Heap} {f : Addr} {fd : FuncData}
abbrev NSl : List Str := ["lines", "trip", "_", "line", "told", "leasts", "stands", "hop"]
theorem scSlacks : FnScope NSl ["lines", "trip"] (defScope sSlacks) := ⟨rfl, rfl, rfl, by decide +kernel, rfl, by decide +kernel, by decide +kernel⟩
def rSlacks (ds es : List Dt) : Prop := ∃ (ls : List Line) (l : Line) (i : Nat) (x : Dt) (told : List Int), ls[i]? = some l ∧ Lfit l ∧ told.length = l.leasts.length ∧ ds = [linesD ls, .tuple [x, .int ((i : Nat) : Int), .tuple (told.map PyData.int)]] ∧
  es = (List.range l.stands.length).map fun h => .int (slackI l told h)
theorem f_slacks (T : Free mg) (F : Fun K "slacks" "slacks" sSlacks f fd) : FnG P w K mg base 1 f fd ["lines", "trip"] (spO K rSlacks) := by
  refine fn_own F scSlacks (fun ds d ⟨_, _, _, _, _, _, _, _, e, _⟩ => by subst e; rfl) fun cdv A outer s H E hr hgd hu ds d h => ?_
  obtain ⟨ls, l, i, x, told, hi, fit, tl, rfl, rfl⟩ := h
  have hN := scSlacks.nd
  have h1 := fit.tl
  have h2 := fit.few
  and_intros
  refine ip_tup (at_map hi) ?_
  refine ⟨_, _, by unfold Line.d; nofun, ?_⟩
  refine s_retE ((lco_fun (α := Nat) [("hop", 7)] (blkOk_by (N := NSl) (sc := defScope sSlacks) (by decide +kernel)) ?_).xo hN)
  and_intros
  rw [List.length_map]
  refine ⟨by omega, List.range l.stands.length, fun h => .int (0 + ((h : Nat) : Int)), fun h => .int (slackI l told h), by unfold rngD; rw [show ((l.stands.length : Int)).toNat = l.stands.length by omega], by rw [List.length_range]; omega, fun k x hx => ?_, rfl⟩
  have hx2 : x < l.stands.length := List.mem_range.mp (List.mem_of_getElem? hx)
  refine ⟨_, fun s H C cl fp => by nofun, fun s H C cl fp => ?_⟩
  dsimp only
  rw [show (0 : Int) + ((x : Nat) : Int) = ((x : Nat) : Int) by omega]
  and_intros
  refine ip_tup (at_map (i := x + 1) (getD_at (by omega))) ?_
  and_intros
  refine ip_tup (at_map (getD_at (by omega))) ?_
  and_intros
  refine ip_tup (at_map (getD_at (by omega))) ?_
  and_intros
  refine ip_tup (at_map (getD_at (by omega))) ?_
  and_intros
  rfl
theorem scIsHop : FnScope ["trip", "value"] ["trip", "value"] (defScope sIsHop) := ⟨rfl, rfl, rfl, by decide +kernel, rfl, by decide +kernel, by decide +kernel⟩
def rIsHop (ds : List Dt) (d : Dt) : Prop := ∃ (x y v : Dt) (told : List Int), ds = [.tuple [x, y, .tuple (told.map PyData.int)], v] ∧ d = .bool (withinB v 0 ((told.length : Int) - 1))
theorem f_ishop (T : Free mg) (C1 : Cal P w K mg base 2 "is_within" ["value", "least", "most"] sWithin (spD K rWithin)) (F : Fun K "is_hop" "is_hop" sIsHop f fd) : FnG P w K mg base 3 f fd ["trip", "value"] (spD K rIsHop) := by
  refine fn_data F scIsHop (fun ds d ⟨_, _, _, _, e, _⟩ => by subst e; rfl) fun cdv A outer s H E hr hgd hu ds d h => ?_
  obtain ⟨x, y, v, told, rfl, rfl⟩ := h
  have hN := scIsHop.nd
  and_intros
  rw [List.length_map]
end
end K19

set_option linter.all false
set_option maxRecDepth 100000
set_option maxHeartbeats 4000000
namespace K19
open PySem PySem.Spec PyProof.Rows L2 RZ Dv
variable [Tbl]
abbrev sIsTripOf : Stmt := at_def "is_trip_of"
structure Cn2 (mg : Str → Option Value) : Prop where
  last : ∃ t, mg "LAST_MINUTE" = some (.int 1999 t)
  trips : ∃ t, mg "MOST_TRIPS" = some (.int 16 t)
def noLine : Line := ⟨[], [], [], 0⟩
def intsOf : Dt → List Int
  | .tuple es => es.map fun e => match e with
    | .int i => i
    | _ => 0
  | _ => []
theorem intsOf_ints {ns : List Int} : intsOf (.tuple (ns.map PyData.int)) = ns := by
  show ((ns.map PyData.int).map _) = ns
  rw [List.map_map]
  exact List.map_id ns
def slackB (l : Line) (told : List Int) : Bool := (List.range l.stands.length).all fun h => decide (0 ≤ slackI l told h)
def fitB (ls : List Line) : Dt → Dt → Bool
  | .int i, x2 => arewB x2 ((ls.getD i.toNat noLine).leasts.length : Int) 0 1999 && slackB (ls.getD i.toNat noLine) (intsOf x2)
  | _, _ => false
def tripB (ls : List Line) (v : Dt) : Bool := match v with
  | .tuple [x0, x1, x2] => wordB x0 ["trip"] && (withinB x1 0 ((ls.length : Int) - 1) && fitB ls x1 x2)
  | _ => false
theorem named3 {v : Dt} {x : Str} (h : namedB v x 3 = true) : ∃ x0 x1 x2, v = .tuple [x0, x1, x2] ∧ wordB x0 [x] = true := by
  unfold namedB at h
  rw [Bool.and_eq_true] at h
  obtain ⟨es, rfl, h1, h2⟩ := tupB_of h.1
  obtain ⟨x0, x1, x2, rfl⟩ := len3 (es := es) (by omega)
  exact ⟨x0, x1, x2, rfl, h.2⟩
theorem trip_not {ls : List Line} {v : Dt} (h : namedB v "trip" 3 = false) : tripB ls v = false := by
  unfold tripB
  split
  · rename_i x0 x1 x2
    have : wordB x0 ["trip"] = false := by
      have h2 : (tupB (.tuple [x0, x1, x2]) 3 3 && wordB x0 ["trip"]) = false := h
      rw [show tupB (.tuple [x0, x1, x2]) 3 3 = true by simp [tupB], Bool.true_and] at h2
      exact h2
    rw [this]; rfl
  · rfl
section
variable {P : Program} {w : World} {K : Fg} {mg : Str → Option Value} {base : Heap} {f : Addr} {fd : FuncData}
theorem scToldDep : FnScope ["trip", "hop"] ["trip", "hop"] (defScope sToldDep) := ⟨rfl, rfl, rfl, by decide +kernel, rfl, by decide +kernel, by decide +kernel⟩
def rToldDep (ds : List Dt) (d : Dt) : Prop := ∃ (x y : Dt) (told : List Int) (h : Nat), h < told.length ∧ ds = [.tuple [x, y, .tuple (told.map PyData.int)], .int ((h : Nat) : Int)] ∧ d = .int (told.getD h 0)
theorem f_tolddep (T : Free mg) (C1 : Cal P w K mg base 3 "is_hop" ["trip", "value"] sIsHop (spD K rIsHop)) (F : Fun K "told_departure" "told_departure" sToldDep f fd) : FnG P w K mg base 4 f fd ["trip", "hop"] (spD K rToldDep) := by
  refine fn_data F scToldDep (fun ds d ⟨_, _, _, _, _, e, _⟩ => by subst e; rfl) fun cdv A outer s H E hr hgd hu ds d h => ?_
  obtain ⟨x, y, told, h, hh, rfl, rfl⟩ := h
  have hN := scToldDep.nd
  and_intros
  refine br_nby (by simp [withinB]; omega) ?_
  and_intros
  refine c_intc ?_
  and_intros
  refine ip_tup (at_map (getD_at hh)) ?_
  exact f_int rfl
theorem scToldArr : FnScope ["lines", "trip", "hop"] ["lines", "trip", "hop"] (defScope sToldArr) := ⟨rfl, rfl, rfl, by decide +kernel, rfl, by decide +kernel, by decide +kernel⟩
def rToldArr (ds : List Dt) (d : Dt) : Prop := ∃ (ls : List Line) (l : Line) (i h : Nat) (x : Dt) (told : List Int), ls[i]? = some l ∧ told.length = l.leasts.length ∧ h < told.length ∧ ds = [linesD ls, .tuple [x, .int ((i : Nat) : Int), .tuple (told.map PyData.int)], .int ((h : Nat) : Int)] ∧ d = .int (told.getD h 0 + l.leasts.getD h 0)
theorem f_toldarr (C1 : Cal P w K mg base 4 "told_departure" ["trip", "hop"] sToldDep (spD K rToldDep)) (F : Fun K "told_arrival" "told_arrival" sToldArr f fd) : FnG P w K mg base 5 f fd ["lines", "trip", "hop"] (spD K rToldArr) := by
  refine fn_data F scToldArr (fun ds d ⟨_, _, _, _, _, _, _, _, _, e, _⟩ => by subst e; rfl) fun cdv A outer s H E hr hgd hu ds d h => ?_
  obtain ⟨ls, l, i, h, x, told, hi, tl, hh, rfl, rfl⟩ := h
  have hN := scToldArr.nd
  and_intros
  refine ⟨_, ⟨x, _, told, h, hh, rfl, rfl⟩, ?_⟩
  and_intros
  refine ip_tup (at_map hi) ?_
  and_intros
  refine ip_tup (at_map (getD_at (by omega))) ?_
  and_intros
  rfl
abbrev NTo : List Str := ["lines", "value", "_", "line", "told", "slack"]
theorem scIsTripOf : FnScope NTo ["lines", "value"] (defScope sIsTripOf) := ⟨rfl, rfl, rfl, by decide +kernel, rfl, by decide +kernel, by decide +kernel⟩
def rIsTrip (ds : List Dt) (d : Dt) : Prop := ∃ (ls : List Line) (v : Dt), ls.length ≤ 100 ∧ (∀ l ∈ ls, Lfit l) ∧ ds = [linesD ls, v] ∧ d = .bool (tripB ls v)
theorem f_istripof (T : Free mg) (c : Cn2 mg) (C1 : Cal P w K mg base 2 "is_named" ["value", "word", "many"] sNamed (spD K rNamed)) (C2 : Cal P w K mg base 2 "is_within" ["value", "least", "most"] sWithin (spD K rWithin)) (C3 : Cal P w K mg base 3 "are_within" ["value", "many", "least", "most"] sAreWithin (spD K rAreWithin)) (C4 : Cal P w K mg base 1 "slacks" ["lines", "trip"] sSlacks (spO K rSlacks)) (F : Fun K "is_trip_of" "is_trip_of" sIsTripOf f fd) : FnG P w K mg base 4 f fd ["lines", "value"] (spD K rIsTrip) := by
  refine fn_data F scIsTripOf (fun ds d ⟨_, _, _, _, e, _⟩ => by subst e; rfl) fun cdv A outer s H E hr hgd hu ds d h => ?_
  obtain ⟨ls, v, few, fit, rfl, rfl⟩ := h
  have hN := scIsTripOf.nd
  have C4 := C4.ofO
  obtain ⟨c1, c2⟩ := c
  and_intros
  refine ⟨fun h1 => ?_, fun h1 => ?_⟩
  · and_intros
    rw [trip_not (by simpa using h1)]
  obtain ⟨x0, x1, x2, rfl, h0⟩ := named3 (v := v) (x := "trip") (by simpa using h1)
  and_intros
  have go : tripB ls (.tuple [x0, x1, x2]) = (withinB x1 0 ((ls.length : Int) - 1) && fitB ls x1 x2) := by
    show (wordB x0 ["trip"] && _) = _
    rw [h0]; rfl
  rw [go, List.length_map]
  refine ⟨fun h2 => ?_, fun h2 => ?_⟩
  · and_intros
    rw [show withinB x1 0 ((ls.length : Int) - 1) = false by simpa using h2]; rfl
  have h3 : withinB x1 0 ((ls.length : Int) - 1) = true := by simpa using h2
  rw [h3, Bool.true_and]
  obtain ⟨i, rfl⟩ : ∃ i, x1 = .int i := by cases x1 <;> first | exact ⟨_, rfl⟩ | cases h3
  have h4 : 0 ≤ i ∧ i ≤ (ls.length : Int) - 1 := by simpa [withinB] using h3
  obtain ⟨p, rfl⟩ := Int.eq_ofNat_of_zero_le h4.1
  have e1 : ls[p]? = some (ls.getD p noLine) := by rw [List.getD_eq_getElem?_getD, List.getElem?_eq_getElem (by omega)]; rfl
  have ft := fit _ (List.mem_of_getElem? e1)
  have f1 := ft.few
  have go2 : fitB ls (.int ((p : Nat) : Int)) x2 = (arewB x2 ((ls.getD p noLine).leasts.length : Int) 0 1999 && slackB (ls.getD p noLine) (intsOf x2)) := rfl
  rw [go2]
  generalize ls.getD p noLine = l at *
  and_intros
  refine ip_tup (at_map e1) ?_
  and_intros
  rw [List.length_map]
  refine ⟨_, ⟨x2, _, _, _, by omega, rfl, rfl⟩, ?_⟩
  and_intros
  refine ⟨fun h5 => ?_, fun h5 => ?_⟩
  · and_intros
    rw [show arewB x2 ((l.leasts.length : Nat) : Int) 0 1999 = false by simpa using h5]; rfl
  have h6 : arewB x2 ((l.leasts.length : Nat) : Int) 0 1999 = true := by simpa using h5
  rw [h6, Bool.true_and]
  obtain ⟨told, rfl, tl, tb⟩ := arewB_of h6
  rw [intsOf_ints]
  and_intros
  refine c_allF (α := Nat) [("slack", 5)] (blkOk_by (N := NTo) (sc := defScope sIsTripOf) (by decide +kernel)) ?_
  and_intros
  refine ⟨_, ⟨_, ⟨ls, l, p, x0, told, e1, ft, by omega, rfl, rfl⟩, rfl⟩, ?_⟩
  refine seq_l ⟨List.range l.stands.length, fun h => .int (slackI l told h), fun h => decide (0 ≤ slackI l told h), rfl, by rw [List.length_range]; have := ft.tl; omega, fun k x hx => ⟨_, fun s H C cl fp => by nofun, fun s H C cl fp => ?_⟩, rfl⟩
  and_intros
  rfl
end
end K19

set_option linter.all false
set_option maxRecDepth 100000
set_option maxHeartbeats 4000000
namespace K19
open PySem PySem.Spec PyProof.Rows L2 RZ Dv
variable [Tbl]
abbrev sPosAhead : Stmt := at_def "position_ahead"
structure Tr where
  x : Dt
  line : Nat
  told : List Int
def Tr.d (t : Tr) : Dt := .tuple [t.x, .int ((t.line : Nat) : Int), .tuple (t.told.map PyData.int)]
def noTr : Tr := ⟨.none, 0, []⟩
def aheads (ts : List Tr) (at' : Nat) : List Nat := (List.range at').filter fun o => decide ((ts.getD o noTr).line = (ts.getD at' noTr).line)
def posD (ts : List Tr) (at' : Nat) : Dt := match (aheads ts at').getLast? with
  | some o => .int ((o : Nat) : Int)
  | none => .none
theorem tr_at {ts : List Tr} {p : Nat} (h : p < ts.length) : ts[p]? = some (ts.getD p noTr) := by rw [List.getD_eq_getElem?_getD, List.getElem?_eq_getElem h]; rfl
section
variable {P : Program} {w : World} {K : Fg} {mg : Str → Option Value} {base : Heap} {f : Addr} {fd : FuncData}
abbrev NPA : List Str := ["trips", "at", "ahead", "other"]
theorem scPosAhead : FnScope NPA ["trips", "at"] (defScope sPosAhead) := ⟨rfl, rfl, rfl, by decide +kernel, rfl, by decide +kernel, by decide +kernel⟩
def rPosAhead (ds : List Dt) (d : Dt) : Prop := ∃ (ts : List Tr) (p : Nat), p < ts.length ∧ ts.length ≤ 1000 ∧ ds = [.tuple (ts.map Tr.d), .int ((p : Nat) : Int)] ∧ d = posD ts p
theorem f_posahead (T : Free mg) (F : Fun K "position_ahead" "position_ahead" sPosAhead f fd) : FnG P w K mg base 1 f fd ["trips", "at"] (spD K rPosAhead) := by
  refine fn_data F scPosAhead (fun ds d ⟨_, _, _, _, e, _⟩ => by subst e; rfl) fun cdv A outer s H E hr hgd hu ds d h => ?_
  obtain ⟨ts, p, hp, few, rfl, rfl⟩ := h
  have hN := scPosAhead.nd
  refine s_st (by repeat (first | exact StR.nil | apply StR.d | apply StR.no)) ?_
  refine s_eq (by conv => { lhs; whnf }) ?_
  refine s_letC (i := 2) (F := fun d => [.d (.tuple (ts.map Tr.d)), .d (.int ((p : Nat) : Int)), .d d, .no]) (by repeat (first | exact Nx.z | apply Nx.s)) (by intro _; repeat (first | exact SetR.z | apply SetR.s)) ?_
  refine lco_filter (α := Nat) [("other", 3)] (blkOk_by (N := NPA) (sc := defScope sPosAhead) (by decide +kernel)) ?_
  and_intros
  refine ⟨by omega, List.range p, fun o => .int (0 + ((o : Nat) : Int)), fun o => .int ((o : Nat) : Int), fun o => decide ((ts.getD o noTr).line = (ts.getD p noTr).line), by unfold rngD; rw [show ((p : Nat) : Int).toNat = p by omega], by rw [List.length_range]; omega, fun k o ho => ?_, ?_⟩
  · have ho2 : o < p := List.mem_range.mp (List.mem_of_getElem? ho)
    refine ⟨_, fun s H C cl fp => by nofun, fun s H C cl fp => ?_, fun _ s H C cl fp => ?_⟩
    · dsimp only
      rw [show (0 : Int) + ((o : Nat) : Int) = ((o : Nat) : Int) by omega]
      and_intros
      refine ip_tup (at_map (tr_at (by omega))) ?_
      and_intros
      refine ip_tup (at_map (tr_at hp)) ?_
      and_intros
      exact decide_eq_decide.mpr (by omega)
    · dsimp only
      rw [show (0 : Int) + ((o : Nat) : Int) = ((o : Nat) : Int) by omega]
      and_intros
      rfl
  refine s_ret' (c_if (t_list ?_))
  and_intros
  have e : posD ts p = match (List.filter (fun o => decide ((ts.getD o noTr).line = (ts.getD p noTr).line)) (List.range p)).getLast? with
    | some o => .int ((o : Nat) : Int)
    | none => .none := rfl
  rw [e]
  generalize List.filter (fun o => decide ((ts.getD o noTr).line = (ts.getD p noTr).line)) (List.range p) = gs
  rcases List.eq_nil_or_concat gs with rfl | ⟨init, z, rfl⟩
  · refine br_byf rfl ?_
    and_intros
    rfl
  · refine br_by (by simp) ?_
    rw [List.concat_eq_append] at *
    and_intros
    rw [List.map_append]
    refine ip_list (atI_last _ _) ?_
    rw [List.getLast?_append]
    rfl
end
end K19

set_option linter.all false
set_option maxRecDepth 100000
set_option maxHeartbeats 4000000
namespace K19
open PySem PySem.Spec PyProof.Rows L2 RZ Dv
variable [Tbl]
abbrev sKeeps : Stmt := at_def "keeps_apart"
def apartB (ls : List Line) (ts : List Tr) (p : Nat) : Bool := match (aheads ts p).getLast? with
  | some o => (List.range (ts.getD p noTr).told.length).all fun h => decide ((ls.getD (ts.getD p noTr).line noLine).apart ≤ (ts.getD p noTr).told.getD h 0 - (ts.getD o noTr).told.getD h 0)
  | none => true
structure TrFit (ls : List Line) (t : Tr) : Prop where
  li : t.line < ls.length
  tl : t.told.length = (ls.getD t.line noLine).leasts.length
theorem li_at {ls : List Line} {i : Nat} (h : i < ls.length) : ls[i]? = some (ls.getD i noLine) := by rw [List.getD_eq_getElem?_getD, List.getElem?_eq_getElem h]; rfl
section
variable {P : Program} {w : World} {K : Fg} {mg : Str → Option Value} {base : Heap} {f : Addr} {fd : FuncData}
abbrev NKA : List Str := ["lines", "trips", "at", "ahead", "_", "line", "told", "apart", "hop"]
theorem scKeeps : FnScope NKA ["lines", "trips", "at"] (defScope sKeeps) := ⟨rfl, rfl, rfl, by decide +kernel, rfl, by decide +kernel, by decide +kernel⟩
def rKeeps (ds : List Dt) (d : Dt) : Prop := ∃ (ls : List Line) (ts : List Tr) (p : Nat), p < ts.length ∧ ts.length ≤ 1000 ∧ (∀ l ∈ ls, Lfit l) ∧ (∀ t ∈ ts, TrFit ls t) ∧ ds = [linesD ls, .tuple (ts.map Tr.d), .int ((p : Nat) : Int)] ∧ d = .bool (apartB ls ts p)
theorem f_keeps (T : Free mg) (C1 : Cal P w K mg base 1 "position_ahead" ["trips", "at"] sPosAhead (spD K rPosAhead)) (F : Fun K "keeps_apart" "keeps_apart" sKeeps f fd) : FnG P w K mg base 2 f fd ["lines", "trips", "at"] (spD K rKeeps) := by
  refine fn_data F scKeeps (fun ds d ⟨_, _, _, _, _, _, _, e, _⟩ => by subst e; rfl) fun cdv A outer s H E hr hgd hu ds d h => ?_
  obtain ⟨ls, ts, p, hp, few, fl, ft, rfl, rfl⟩ := h
  have hN := scKeeps.nd
  and_intros
  refine ⟨_, ⟨ts, p, hp, few, rfl, rfl⟩, ?_⟩
  have e1 : posD ts p = match (aheads ts p).getLast? with
    | some o => .int ((o : Nat) : Int)
    | none => .none := rfl
  have e2 : apartB ls ts p = match (aheads ts p).getLast? with
    | some o => (List.range (ts.getD p noTr).told.length).all fun h => decide ((ls.getD (ts.getD p noTr).line noLine).apart ≤ (ts.getD p noTr).told.getD h 0 - (ts.getD o noTr).told.getD h 0)
    | none => true := rfl
  rw [e1, e2]
  cases ho : (aheads ts p).getLast? with
  | none =>
    and_intros
    rfl
  | some o =>
    have hm := List.mem_of_getLast? ho
    obtain ⟨h1, h2⟩ := List.mem_filter.mp hm
    have h1 := List.mem_range.mp h1
    have h2 := of_decide_eq_true h2
    have tp := tr_at hp
    have to := tr_at (ts := ts) (p := o) (by omega)
    have fp := ft _ (List.mem_of_getElem? tp)
    have fo := ft _ (List.mem_of_getElem? to)
    have lp : ls[(ts.getD p noTr).line]? = some (ls.getD (ts.getD p noTr).line noLine) := li_at fp.li
    have len := fo.tl
    rw [h2, ← fp.tl] at len
    have big := (fl _ (List.mem_of_getElem? lp)).few
    rw [← fp.tl] at big
    dsimp only
    clear e1 e2 hm
    generalize ts.getD p noTr = t at *
    generalize ts.getD o noTr = u at *
    generalize ls.getD t.line noLine = l at *
    and_intros
    refine ip_tup (at_map tp) ?_
    refine ⟨_, _, by unfold Tr.d; nofun, ?_⟩
    and_intros
    refine ip_tup (at_map lp) ?_
    and_intros
    refine c_allF (α := Nat) [("hop", 8)] (blkOk_by (N := NKA) (sc := defScope sKeeps) (by decide +kernel)) ?_
    and_intros
    rw [List.length_map]
    refine ⟨by omega, List.range t.told.length, fun h => .int (0 + ((h : Nat) : Int)), fun h => decide (l.apart ≤ t.told.getD h 0 - u.told.getD h 0), by unfold rngD; rw [show ((t.told.length : Nat) : Int).toNat = t.told.length by omega], by rw [List.length_range]; omega, fun k x hx => ?_, rfl⟩
    have hx2 : x < t.told.length := List.mem_range.mp (List.mem_of_getElem? hx)
    refine ⟨_, fun s H C cl fp => by nofun, fun s H C cl fp => ?_⟩
    dsimp only
    rw [show (0 : Int) + ((x : Nat) : Int) = ((x : Nat) : Int) by omega]
    and_intros
    refine ip_tup (at_map (getD_at hx2)) ?_
    and_intros
    refine ip_tup (at_map to) ?_
    and_intros
    refine ip_tup (at_map (getD_at (by omega))) ?_
    and_intros
    rfl
end
end K19

set_option linter.all false
set_option maxRecDepth 100000
set_option maxHeartbeats 4000000
namespace K19
open PySem PySem.Spec PyProof.Rows L2 RZ Dv
variable [Tbl]
abbrev sAreTripsOf : Stmt := at_def "are_trips_of"
def trOf : Dt → Tr
  | .tuple [x, .int i, y] => ⟨x, i.toNat, intsOf y⟩
  | _ => noTr
theorem trip_tr {ls : List Line} {v : Dt} (h : tripB ls v = true) : v = (trOf v).d ∧ TrFit ls (trOf v) := by
  unfold tripB at h
  split at h
  · rename_i x0 x1 x2
    simp only [Bool.and_eq_true] at h
    obtain ⟨h0, h1, h2⟩ := h
    obtain ⟨i, rfl⟩ : ∃ i, x1 = .int i := by cases x1 <;> first | exact ⟨_, rfl⟩ | cases h1
    have h4 : 0 ≤ i ∧ i ≤ (ls.length : Int) - 1 := by simpa [withinB] using h1
    obtain ⟨p, rfl⟩ := Int.eq_ofNat_of_zero_le h4.1
    have h5 : (arewB x2 ((ls.getD p noLine).leasts.length : Int) 0 1999 && slackB (ls.getD p noLine) (intsOf x2)) = true := h2
    rw [Bool.and_eq_true] at h5
    obtain ⟨told, rfl, tl, tb⟩ := arewB_of h5.1
    have e : trOf (.tuple [x0, .int ((p : Nat) : Int), .tuple (told.map PyData.int)]) = ⟨x0, p, told⟩ := by
      show (⟨x0, ((p : Nat) : Int).toNat, intsOf (.tuple (told.map PyData.int))⟩ : Tr) = _
      rw [intsOf_ints]; rfl
    rw [e]
    exact ⟨rfl, by show p < ls.length; omega, by show told.length = (ls.getD p noLine).leasts.length; omega⟩
  · cases h
def tripsB (ls : List Line) (v : Dt) : Bool := tupB v 1 16 && ((tupOf v).all (tripB ls) && (List.range (tupOf v).length).all (apartB ls ((tupOf v).map trOf)))
section
variable {P : Program} {w : World} {K : Fg} {mg : Str → Option Value} {base : Heap} {f : Addr} {fd : FuncData}
abbrev NAT : List Str := ["lines", "value", "trip", "at"]
theorem scAreTripsOf : FnScope NAT ["lines", "value"] (defScope sAreTripsOf) := ⟨rfl, rfl, rfl, by decide +kernel, rfl, by decide +kernel, by decide +kernel⟩
def rAreTrips (ds : List Dt) (d : Dt) : Prop := ∃ (ls : List Line) (v : Dt), ls.length ≤ 100 ∧ (∀ l ∈ ls, Lfit l) ∧ ds = [linesD ls, v] ∧ d = .bool (tripsB ls v)
theorem f_aretripsof (T : Free mg) (c : Cn2 mg) (C1 : Cal P w K mg base 1 "is_tuple" ["value", "least", "most"] sTuple (spD K rTuple)) (C2 : Cal P w K mg base 4 "is_trip_of" ["lines", "value"] sIsTripOf (spD K rIsTrip)) (C3 : Cal P w K mg base 2 "keeps_apart" ["lines", "trips", "at"] sKeeps (spD K rKeeps)) (F : Fun K "are_trips_of" "are_trips_of" sAreTripsOf f fd) : FnG P w K mg base 5 f fd ["lines", "value"] (spD K rAreTrips) := by
  refine fn_data F scAreTripsOf (fun ds d ⟨_, _, _, _, e, _⟩ => by subst e; rfl) fun cdv A outer s H E hr hgd hu ds d h => ?_
  obtain ⟨ls, v, few, fl, rfl, rfl⟩ := h
  have hN := scAreTripsOf.nd
  obtain ⟨c1, c2⟩ := c
  and_intros
  refine ⟨fun h1 => ?_, fun h1 => ?_⟩
  · and_intros
    show _ = PyData.bool (tupB v 1 16 && _)
    rw [show tupB v 1 16 = false by simpa using h1]; rfl
  have h2 : tupB v 1 16 = true := by simpa using h1
  obtain ⟨es, rfl, k2, k3⟩ := tupB_of h2
  have go : tripsB ls (.tuple es) = (es.all (tripB ls) && (List.range es.length).all (apartB ls (es.map trOf))) := by
    show (tupB (.tuple es) 1 16 && (es.all (tripB ls) && (List.range es.length).all (apartB ls (es.map trOf)))) = _
    rw [h2, Bool.true_and]
  rw [go]
  and_intros
  refine c_allF (α := Dt) [("trip", 2)] (blkOk_by (N := NAT) (sc := defScope sAreTripsOf) (by decide +kernel)) ?_
  and_intros
  refine ⟨es, _root_.id, tripB ls, by simp, by omega, fun i x hx => ⟨_, fun s H C cl fp => by nofun, fun s H C cl fp => ?_⟩, ?_⟩
  · and_intros
    exact ⟨_, ⟨ls, _, few, fl, rfl, rfl⟩, rfl⟩
  and_intros
  refine ⟨fun h3 => ?_, fun h3 => ?_⟩
  · and_intros
    rw [show es.all (tripB ls) = false by simpa using h3]; rfl
  have h4 : es.all (tripB ls) = true := by simpa using h3
  rw [h4, Bool.true_and]
  rw [List.all_eq_true] at h4
  have em : es = (es.map trOf).map Tr.d := by
    rw [List.map_map]
    conv => lhs; rw [← List.map_id es]
    exact List.map_congr_left fun v hv => (trip_tr (h4 v hv)).1
  have fit : ∀ t ∈ es.map trOf, TrFit ls t := fun t ht => by
    obtain ⟨v, hv, rfl⟩ := List.mem_map.mp ht
    exact (trip_tr (h4 v hv)).2
  and_intros
  refine c_allF (α := Nat) [("at", 3)] (blkOk_by (N := NAT) (sc := defScope sAreTripsOf) (by decide +kernel)) ?_
  and_intros
  refine ⟨by omega, List.range es.length, fun h => .int (0 + ((h : Nat) : Int)), apartB ls (es.map trOf), by unfold rngD; rw [show ((es.length : Nat) : Int).toNat = es.length by omega], by rw [List.length_range]; omega, fun k x hx => ?_, rfl⟩
  have hx2 : x < es.length := List.mem_range.mp (List.mem_of_getElem? hx)
  refine ⟨_, fun s H C cl fp => by nofun, fun s H C cl fp => ?_⟩
  dsimp only
  rw [show (0 : Int) + ((x : Nat) : Int) = ((x : Nat) : Int) by omega]
  and_intros
  exact ⟨_, ⟨ls, es.map trOf, x, by rw [List.length_map]; exact hx2, by rw [List.length_map]; omega, fl, fit, by rw [← em], rfl⟩, rfl⟩
end
end K19

set_option linter.all false
set_option maxRecDepth 100000
set_option maxHeartbeats 4000000
namespace K19
open PySem PySem.Spec PyProof.Rows L2 RZ Dv
variable [Tbl]
abbrev sCkLines : Stmt := at_def "check_lines"
abbrev sAreTrips : Stmt := at_def "are_trips"
abbrev sTripAhead : Stmt := at_def "trip_ahead"
section
variable {P : Program} {w : World} {K : Fg} {mg : Str → Option Value} {base : Heap} {f : Addr} {fd : FuncData}
theorem scCkLines : FnScope ["city", "lines"] ["city", "lines"] (defScope sCkLines) := ⟨rfl, rfl, rfl, by decide +kernel, rfl, by decide +kernel, by decide +kernel⟩
def rCkLines (ds : List Dt) (d : Dt) : Prop := ∃ (c : City) (v : Dt), c.ok ∧ linesB c v = true ∧ ds = [c.d, v] ∧ d = .none
theorem f_cklines (C1 : Cal P w K mg base 8 "are_lines" ["city", "value"] sAreLines (spD K rAreLines)) (F : Fun K "check_lines" "check_lines" sCkLines f fd) : FnG P w K mg base 9 f fd ["city", "lines"] (spD K rCkLines) := by
  refine fn_data F scCkLines (fun ds d ⟨_, _, _, _, e, _⟩ => by subst e; rfl) fun cdv A outer s H E hr hgd hu ds d h => ?_
  obtain ⟨c, v, ok, hl, rfl, rfl⟩ := h
  have hN := scCkLines.nd
  and_intros
  refine ⟨_, ⟨c, v, ok, rfl, rfl⟩, ?_⟩
  and_intros
  refine br_nby hl ?_
  and_intros
  rfl
theorem scAreTrips : FnScope ["city", "lines", "value"] ["city", "lines", "value"] (defScope sAreTrips) := ⟨rfl, rfl, rfl, by decide +kernel, rfl, by decide +kernel, by decide +kernel⟩
def rTripsAre (ds : List Dt) (d : Dt) : Prop := ∃ (c : City) (ls : List Line) (v : Dt), c.ok ∧ linesB c (linesD ls) = true ∧ ls.length ≤ 100 ∧ (∀ l ∈ ls, Lfit l) ∧ ds = [c.d, linesD ls, v] ∧ d = .bool (tripsB ls v)
theorem f_aretrips (C1 : Cal P w K mg base 9 "check_lines" ["city", "lines"] sCkLines (spD K rCkLines)) (C2 : Cal P w K mg base 5 "are_trips_of" ["lines", "value"] sAreTripsOf (spD K rAreTrips)) (F : Fun K "are_trips" "are_trips" sAreTrips f fd) : FnG P w K mg base 10 f fd ["city", "lines", "value"] (spD K rTripsAre) := by
  refine fn_data F scAreTrips (fun ds d ⟨_, _, _, _, _, _, _, e, _⟩ => by subst e; rfl) fun cdv A outer s H E hr hgd hu ds d h => ?_
  obtain ⟨c, ls, v, ok, hl, few, fl, rfl, rfl⟩ := h
  have hN := scAreTrips.nd
  and_intros
  refine ⟨_, ⟨c, linesD ls, ok, hl, rfl, rfl⟩, ?_⟩
  and_intros
  exact ⟨_, ⟨ls, v, few, fl, rfl, rfl⟩, rfl⟩
end
end K19

set_option linter.all false
set_option maxRecDepth 100000
set_option maxHeartbeats 4000000
namespace K19
open PySem PySem.Spec PyProof.Rows L2 RZ Dv PySem.W
variable [Tbl]
structure LineG (l : Line) : Prop where
  fit : Lfit l
  h4 : l.leasts.length ≤ 4
  lb : ∀ h, h < l.leasts.length → 1 ≤ l.leasts.getD h 0 ∧ l.leasts.getD h 0 ≤ 123
  sb : ∀ h, h < l.stands.length → 0 ≤ l.stands.getD h 0 ∧ l.stands.getD h 0 ≤ 4
  a1 : 1 ≤ l.apart
  a2 : l.apart ≤ 30
theorem getD_lt {ns : List Int} {x : Int} {h : Nat} (hh : h < ns.length) : (ns ++ [x]).getD h 0 = ns.getD h 0 := by rw [List.getD_eq_getElem?_getD, List.getElem?_append_left hh, ← List.getD_eq_getElem?_getD]
theorem getD_eq {ns : List Int} {x : Int} : (ns ++ [x]).getD ns.length 0 = x := by rw [List.getD_eq_getElem?_getD, List.getElem?_concat_length]; rfl
theorem getD_mapL {α β : Type} {ns : List α} {F : α → β} {h : Nat} {z : β} {y : α} (hh : h < ns.length) : (ns.map F).getD h z = F (ns.getD h y) := by
  rw [List.getD_eq_getElem?_getD, List.getElem?_map, List.getD_eq_getElem?_getD, List.getElem?_eq_getElem hh]; rfl
theorem getD_rng {β : Type} {n h : Nat} {F : Nat → β} {z : β} (hh : h < n) : ((List.range n).map F).getD h z = F h := by
  rw [List.getD_eq_getElem?_getD, List.getElem?_map, List.getElem?_range hh]; rfl
theorem at_last {ns : List Int} {k : Nat} (h : ns.length = k + 1) : atI (ns.map PyData.int) (-1) = some (.int (ns.getD k 0)) := by
  rcases List.eq_nil_or_concat ns with rfl | ⟨init, z, rfl⟩
  · simp at h
  · rw [List.concat_eq_append] at *
    have e : init.length = k := by simpa using h
    subst e
    rw [getD_eq, List.map_append]
    exact atI_last _ _
theorem at_lastR {n : Nat} {F : Nat → Dt} (h : 0 < n) : atI ((List.range n).map F) (-1) = some (F (n - 1)) := by
  obtain ⟨m, rfl⟩ : ∃ m, n = m + 1 := ⟨n - 1, by omega⟩
  rw [List.range_succ, List.map_append]
  exact atI_last _ _
theorem br_nX {c : Bool} {A B : Prop} (hc : c = false) (h : B) : ((!c) = false → A) ∧ ((!c) = true → B) := by subst hc; exact ⟨fun z => Bool.noConfusion z, fun _ => h⟩
theorem br_nY {c : Bool} {A B : Prop} (hc : c = true) (h : A) : ((!c) = false → A) ∧ ((!c) = true → B) := by subst hc; exact ⟨fun _ => h, fun z => Bool.noConfusion z⟩
theorem line_of {ls : List Line} (g : ∀ l ∈ ls, LineG l) {i : Nat} (h : i < ls.length) : LineG (ls.getD i noLine) := g _ (List.mem_of_getElem? (li_at h))
/-! ### trips that are told right -/
structure TripW (ls : List Line) (t : Tr) : Prop where
  x : t.x = .str "trip"
  li : t.line < ls.length
  tl : t.told.length = (ls.getD t.line noLine).leasts.length
  tb : ∀ m ∈ t.told, 0 ≤ m ∧ m ≤ 1999
  sl : ∀ h, h < (ls.getD t.line noLine).stands.length → 0 ≤ slackI (ls.getD t.line noLine) t.told h
theorem tripW_ok {ls : List Line} {t : Tr} (h : TripW ls t) : tripB ls t.d = true := by
  have tl := h.tl
  have e : t.d = .tuple [.str "trip", .int ((t.line : Nat) : Int), intsT t.told] := by unfold Tr.d; rw [h.x]
  rw [e]
  show (wordB (.str "trip") ["trip"] && (withinB (.int ((t.line : Nat) : Int)) 0 ((ls.length : Int) - 1) && (arewB (intsT t.told) ((ls.getD t.line noLine).leasts.length : Int) 0 1999 && slackB (ls.getD t.line noLine) (intsOf (intsT t.told))))) = true
  have h1 : withinB (.int ((t.line : Nat) : Int)) 0 ((ls.length : Int) - 1) = true := by have := h.li; simp [withinB]; omega
  have h2 : arewB (intsT t.told) ((ls.getD t.line noLine).leasts.length : Int) 0 1999 = true := arewB_ints (by omega) h.tb
  have h3 : slackB (ls.getD t.line noLine) (intsOf (intsT t.told)) = true := by
    rw [intsOf_ints]
    unfold slackB
    rw [List.all_eq_true]
    intro k hk
    exact decide_eq_true (h.sl k (List.mem_range.mp hk))
  rw [h1, h2, h3]; rfl
theorem trOf_d {t : Tr} : trOf t.d = t := by
  show (⟨t.x, ((t.line : Nat) : Int).toNat, intsOf (.tuple (t.told.map PyData.int))⟩ : Tr) = t
  rw [intsOf_ints]; rfl
theorem trOf_map {ts : List Tr} : (ts.map Tr.d).map trOf = ts := by
  rw [List.map_map]
  conv => rhs; rw [← List.map_id ts]
  exact List.map_congr_left fun t _ => trOf_d
def apA (ls : List Line) (ts : List Tr) : Bool := (List.range ts.length).all (apartB ls ts)
theorem tripsB_W {ls : List Line} {ts : List Tr} (h1 : 1 ≤ ts.length) (h2 : ts.length ≤ 16) (h : ∀ t ∈ ts, TripW ls t) : tripsB ls (.tuple (ts.map Tr.d)) = apA ls ts := by
  show (tupB _ 1 16 && ((ts.map Tr.d).all (tripB ls) && (List.range (ts.map Tr.d).length).all (apartB ls ((ts.map Tr.d).map trOf)))) = _
  rw [trOf_map, show tupB (.tuple (ts.map Tr.d)) 1 16 = true by simp [tupB]; omega, Bool.true_and, List.all_map, List.length_map]
  rw [show ts.all (tripB ls ∘ Tr.d) = true from List.all_eq_true.mpr fun t ht => tripW_ok (h t ht), Bool.true_and]
  rfl
/-! ### one line's trips, one behind another -/
def genT (n H : Nat) (F : Nat → Nat → Int) (many : Nat) : List Tr := (List.range many).map fun k => ⟨.str "trip", n, (List.range H).map (F k)⟩
theorem gen_len {n H many : Nat} {F : Nat → Nat → Int} : (genT n H F many).length = many := by unfold genT; rw [List.length_map, List.length_range]
theorem gen_at {n H many k : Nat} {F : Nat → Nat → Int} (h : k < many) : (genT n H F many).getD k noTr = ⟨.str "trip", n, (List.range H).map (F k)⟩ := getD_rng h
theorem gen_aheads {n H many p : Nat} {F : Nat → Nat → Int} (hp : p < many) : aheads (genT n H F many) p = List.range p := by
  unfold aheads
  refine List.filter_eq_self.mpr fun o ho => ?_
  have := List.mem_range.mp ho
  rw [gen_at (by omega), gen_at hp]
  exact decide_eq_true rfl
structure GenOk (l : Line) (F : Nat → Nat → Int) (many : Nat) : Prop where
  b : ∀ k h, k < many → h < l.leasts.length → 0 ≤ F k h ∧ F k h ≤ 1999
  s : ∀ k h, k < many → h < l.stands.length → 0 ≤ F k (h + 1) - F k h - l.leasts.getD h 0 - l.stands.getD h 0
  a : ∀ k h, k + 1 < many → h < l.leasts.length → F k h + l.apart ≤ F (k + 1) h
theorem gen_trips {ls : List Line} {n many : Nat} {F : Nat → Nat → Int} (hn : n < ls.length) (fit : Lfit (ls.getD n noLine)) (g : GenOk (ls.getD n noLine) F many) : ∀ t ∈ genT n (ls.getD n noLine).leasts.length F many, TripW ls t := fun t ht => by
  unfold genT at ht
  obtain ⟨k, hk, rfl⟩ := List.mem_map.mp ht
  have hk := List.mem_range.mp hk
  have := fit.tl
  refine ⟨rfl, hn, by show ((List.range _).map _).length = _; rw [List.length_map, List.length_range], fun m hm => ?_, fun h hh => ?_⟩
  · obtain ⟨h, hh, rfl⟩ := List.mem_map.mp hm
    exact g.b k h hk (List.mem_range.mp hh)
  · have := g.s k h hk hh
    unfold slackI
    show 0 ≤ ((List.range _).map (F k)).getD (h + 1) 0 - ((List.range _).map (F k)).getD h 0 - _ - _
    have hh2 : h < (ls.getD n noLine).stands.length := hh
    rw [getD_rng (by omega), getD_rng (by omega)]
    exact this
theorem gen_apart {ls : List Line} {n many : Nat} {F : Nat → Nat → Int} (g : GenOk (ls.getD n noLine) F many) : apA ls (genT n (ls.getD n noLine).leasts.length F many) = true := by
  unfold apA
  rw [gen_len, List.all_eq_true]
  intro p hp
  have hp := List.mem_range.mp hp
  unfold apartB
  rw [gen_aheads hp]
  cases p with
  | zero => rfl
  | succ k =>
    rw [List.range_succ, List.getLast?_concat]
    show ((List.range ((genT _ _ F many).getD (k + 1) noTr).told.length).all fun h => _) = true
    rw [gen_at hp, gen_at (by omega)]
    show ((List.range ((List.range _).map (F (k + 1))).length).all fun h => _) = true
    rw [List.length_map, List.length_range, List.all_eq_true]
    intro h hh
    have hh := List.mem_range.mp hh
    have := g.a k h hp hh
    refine decide_eq_true ?_
    show (ls.getD n noLine).apart ≤ ((List.range _).map (F (k + 1))).getD h 0 - ((List.range _).map (F k)).getD h 0
    rw [getD_rng hh, getD_rng hh]
    omega
/-! ### a beat -/
def pre (l : Line) : Nat → Int
  | 0 => 0
  | h + 1 => pre l h + l.leasts.getD h 0 + l.stands.getD h 0
theorem pre_in {l : Line} (g : LineG l) : ∀ h : Nat, h < l.leasts.length → 0 ≤ pre l h ∧ pre l h ≤ 127 * (h : Int)
  | 0, _ => by simp [pre]
  | h + 1, hh => by
    have ih := pre_in g h (by omega)
    have := g.fit.tl
    have l1 := g.lb h (by omega)
    have l2 := g.sb h (by omega)
    show 0 ≤ pre l h + l.leasts.getD h 0 + l.stands.getD h 0 ∧ pre l h + l.leasts.getD h 0 + l.stands.getD h 0 ≤ _
    omega
theorem pre_mono {l : Line} (g : LineG l) {h m : Nat} (hm : h ≤ m) (hl : m < l.leasts.length) : pre l h ≤ pre l m := by
  induction m with
  | zero => rw [show h = 0 by omega]; exact Int.le_refl _
  | succ m ih =>
    by_cases e : h = m + 1
    · rw [e]; exact Int.le_refl _
    · have := ih (by omega) (by omega)
      have h2 := g.fit.tl
      have l1 := g.lb m (by omega)
      have l2 := g.sb m (by omega)
      show pre l h ≤ pre l m + l.leasts.getD m 0 + l.stands.getD m 0
      omega
abbrev beatF (l : Line) (first every : Int) (k h : Nat) : Int := first + every * (k : Int) + pre l h
abbrev beatT (ls : List Line) (n : Nat) (first every : Int) (many : Nat) : List Tr := genT n (ls.getD n noLine).leasts.length (beatF (ls.getD n noLine) first every) many
def lastM (l : Line) (first every : Int) (many : Nat) : Int := first + every * ((many - 1 : Nat) : Int) + pre l (l.leasts.length - 1)
theorem beat_ok {l : Line} {first every : Int} {many : Nat} (g : LineG l) (h1 : 1 ≤ l.leasts.length) (f0 : 0 ≤ first) (e1 : l.apart ≤ every) (hl : lastM l first every many ≤ 1999) : GenOk l (beatF l first every) many := by
  have a1 := g.a1
  have e0 : 0 ≤ every := by omega
  refine ⟨fun k h hk hh => ?_, fun k h hk hh => ?_, fun k h hk hh => ?_⟩
  · have p1 := pre_in g h hh
    have p2 := pre_mono g (h := h) (m := l.leasts.length - 1) (by omega) (by omega)
    have m1 : every * (k : Int) ≤ every * ((many - 1 : Nat) : Int) := Int.mul_le_mul_of_nonneg_left (by omega) e0
    have m0 : 0 ≤ every * (k : Int) := Int.mul_nonneg e0 (by omega)
    unfold lastM at hl
    unfold beatF
    omega
  · unfold beatF
    show 0 ≤ first + every * (k : Int) + (pre l h + l.leasts.getD h 0 + l.stands.getD h 0) - (first + every * (k : Int) + pre l h) - l.leasts.getD h 0 - l.stands.getD h 0
    omega
  · unfold beatF
    rw [show (((k + 1 : Nat) : Int)) = (k : Int) + 1 by omega, Int.mul_add]
    omega
/-- a beat, and from the hop on much later: all trips, or the last one -/
abbrev lateF (l : Line) (first every much : Int) (late : Nat → Bool) (hop k h : Nat) : Int := beatF l first every k h + (if hop ≤ h ∧ late k = true then much else 0)
theorem late_ok {l : Line} {first every much : Int} {late : Nat → Bool} {hop many : Nat} (g : LineG l) (h1 : 1 ≤ l.leasts.length) (f0 : 0 ≤ first) (e1 : l.apart ≤ every) (m0 : 0 ≤ much) (hl : lastM l first every many + much ≤ 1999) (mono : ∀ k, k + 1 < many → late k = true → late (k + 1) = true) : GenOk l (lateF l first every much late hop) many := by
  have b := beat_ok (many := many) g h1 f0 e1 (by omega)
  have a1 := g.a1
  have e0 : 0 ≤ every := by omega
  refine ⟨fun k h hk hh => ?_, fun k h hk hh => ?_, fun k h hk hh => ?_⟩
  · have h0 := b.b k h hk hh
    have p2 := pre_mono g (h := h) (m := l.leasts.length - 1) (by omega) (by omega)
    have m1 : every * (k : Int) ≤ every * ((many - 1 : Nat) : Int) := Int.mul_le_mul_of_nonneg_left (by omega) e0
    unfold lastM at hl
    unfold lateF beatF at *
    split <;> omega
  · have h0 := b.s k h hk hh
    unfold lateF
    by_cases c1 : hop ≤ h ∧ late k = true
    · rw [if_pos c1, if_pos ⟨by omega, c1.2⟩]
      omega
    · rw [if_neg c1]
      split <;> omega
  · have h0 := b.a k h hk hh
    unfold lateF
    by_cases c1 : hop ≤ h ∧ late k = true
    · rw [if_pos c1, if_pos ⟨c1.1, mono k hk c1.2⟩]
      omega
    · rw [if_neg c1]
      split <;> omega
end K19

set_option linter.all false
set_option maxRecDepth 100000
set_option maxHeartbeats 4000000
namespace K19
open PySem PySem.Spec PyProof.Rows L2 RZ Dv PySem.W
variable [Tbl]
/-! ### trips in sequence -/
abbrev leT (a b : Tr) : Prop := dataLt b.d a.d = false
theorem leT_total : TotalLe (dataLe false Tr.d) := sortLe_total (listOrd itemOrd) false fun b => keyToks (Tr.d b)
structure Srt (J L : List Tr) : Prop where
  pm : J.Perm L
  pw : J.Pairwise leT
theorem srt_ex (L : List Tr) : ∃ J, Srt J L := ⟨L.mergeSort (dataLe false Tr.d), List.mergeSort_perm _ _, (sort_pairwise leT_total L).imp fun {x y} h => by
  have z : (!dataLt y.d x.d) = true := h
  simpa using z⟩
def trLt (a b : Tr) : Bool := if a.line = b.line then decide (a.told < b.told) else decide (a.line < b.line)
theorem lt_ints (a b : List Int) : dataLt (intsT a) (intsT b) = decide (a < b) := by
  rw [dataLt_tuple]
  exact dataLt_ints a b
theorem eqv_ints {a b : List Int} : PyData.eqvAll (a.map PyData.int) (b.map PyData.int) = decide (a = b) := by
  induction a generalizing b with
  | nil => cases b <;> simp [PyData.eqvAll]
  | cons x a ih =>
    cases b with
    | nil => simp [PyData.eqvAll]
    | cons y b =>
      rw [List.map_cons, List.map_cons, eqv_all_cons, ih]
      simp only [PyData.eqv, List.cons.injEq]
      rw [Bool.decide_and]
      rfl
theorem lt_tr {a b : Tr} (ha : a.x = .str "trip") (hb : b.x = .str "trip") : dataLt a.d b.d = trLt a b := by
  unfold Tr.d trLt
  rw [ha, hb, dataLt_tuple, dataLt_cons (by simp [alike]), if_pos (by simp [PyData.eqv]), dataLt_cons (by simp [alike])]
  by_cases e : a.line = b.line
  · rw [if_pos (by simp [PyData.eqv, e]), if_pos e, dataLt_cons (by simp [alike, alike_ints])]
    have ee : PyData.eqv (.tuple (a.told.map PyData.int)) (.tuple (b.told.map PyData.int)) = decide (a.told = b.told) := by
      show PyData.eqvAll _ _ = _
      exact eqv_ints
    by_cases e2 : a.told = b.told
    · rw [ee, if_pos (decide_eq_true e2), e2]
      have : ¬ b.told < b.told := List.lt_irrefl _
      rw [decide_eq_false this]
      rfl
    · rw [ee, if_neg (by rw [decide_eq_false e2]; decide)]
      exact lt_ints _ _
  · rw [if_neg (by simp [PyData.eqv]; omega), if_neg e, dataLt_int]
    exact decide_eq_decide.mpr (by omega)
theorem ints_anti {a b : List Int} (h1 : ¬ b < a) (h2 : ¬ a < b) : a = b := by
  have := List.le_antisymm (as := a) (bs := b) h1 h2
  exact this
theorem leT_anti {a b : Tr} (ha : a.x = .str "trip") (hb : b.x = .str "trip") (h1 : leT a b) (h2 : leT b a) : a = b := by
  unfold leT at h1 h2
  rw [lt_tr hb ha] at h1
  rw [lt_tr ha hb] at h2
  unfold trLt at h1 h2
  obtain ⟨x, i, s⟩ := a
  obtain ⟨y, j, t⟩ := b
  simp only at *
  by_cases e : i = j
  · subst e
    rw [if_pos rfl] at h1 h2
    have := ints_anti (of_decide_eq_false h1) (of_decide_eq_false h2)
    rw [ha, hb, this]
  · rw [if_neg (fun z => e z.symm)] at h1
    rw [if_neg e] at h2
    have := of_decide_eq_false h1
    have := of_decide_eq_false h2
    omega
theorem srt_uniq {J J' L L' : List Tr} (h : Srt J L) (h' : Srt J' L') (p : L.Perm L') (hx : ∀ t ∈ L, t.x = .str "trip") : J = J' :=
  List.Perm.eq_of_pairwise (fun a b ha hb h1 h2 => leT_anti (hx a (h.pm.mem_iff.mp ha)) (hx b (p.mem_iff.mpr (h'.pm.mem_iff.mp hb))) h1 h2) h.pw h'.pw (h.pm.trans (p.trans h'.pm.symm))
theorem srt_perm {J L L' : List Tr} (h : Srt J L) (p : L.Perm L') : Srt J L' := ⟨h.pm.trans p, h.pw⟩
/-- what sorted gives -/
theorem srt_of {es : List Dt} {L : List Tr} (hp : es.Perm (L.map Tr.d)) (hw : es.Pairwise fun x y => dataLt y x = false) : ∃ J, es = J.map Tr.d ∧ Srt J L := by
  have e : es = (es.map trOf).map Tr.d := by
    rw [List.map_map]
    conv => lhs; rw [← List.map_id es]
    refine List.map_congr_left fun d hd => ?_
    obtain ⟨t, _, rfl⟩ := List.mem_map.mp (hp.mem_iff.mp hd)
    show t.d = (trOf t.d).d
    rw [trOf_d]
  refine ⟨es.map trOf, e, ?_, ?_⟩
  · have := hp.map trOf
    rw [trOf_map] at this
    exact this
  · rw [e] at hw
    exact (List.pairwise_map (R := fun x y : Dt => dataLt y x = false)).mp hw
theorem all_alike {L : List Tr} (hx : ∀ t ∈ L, t.x = .str "trip") : AllAlike (L.map Tr.d) := fun d hd d' hd' => by
  obtain ⟨t, ht, rfl⟩ := List.mem_map.mp hd
  obtain ⟨u, hu, rfl⟩ := List.mem_map.mp hd'
  unfold Tr.d
  rw [hx t ht, hx u hu]
  simp [alike, alikeAll, alike_ints]
theorem sortable {L : List Tr} : Sortable (L.map Tr.d) := .inl fun d hd => by
  obtain ⟨t, ht, rfl⟩ := List.mem_map.mp hd
  exact ⟨_, _, rfl⟩
theorem nodict_ints : ∀ ns : List Int, PyData.hasDictAll (ns.map PyData.int) = false
  | [] => rfl
  | n :: ns => by rw [List.map_cons]; simp [PyData.hasDictAll, PyData.hasDict, nodict_ints ns]
theorem tr_plain {L : List Tr} (hx : ∀ t ∈ L, t.x = .str "trip") : ∀ d ∈ L.map Tr.d, d.hasDict = false ∧ d.depth ≤ 60 := fun d hd => by
  obtain ⟨t, ht, rfl⟩ := List.mem_map.mp hd
  unfold Tr.d
  rw [hx t ht]
  constructor
  · simp [PyData.hasDict, PyData.hasDictAll, nodict_ints]
  · simp [PyData.depth, PyData.depthAll, depth_ints]
/-! ### line by line -/
def flT (J : List Tr) (n : Nat) : List Tr := J.filter fun t => decide (t.line = n)
def ltT (J : List Tr) (n : Nat) : List Tr := J.filter fun t => decide (t.line < n)
theorem leT_line {a b : Tr} (ha : a.x = .str "trip") (hb : b.x = .str "trip") (h : leT a b) : a.line ≤ b.line := by
  unfold leT at h
  rw [lt_tr hb ha] at h
  unfold trLt at h
  by_cases e : b.line = a.line
  · omega
  · rw [if_neg e] at h
    have := of_decide_eq_false h
    omega
theorem lt_step {n : Nat} : ∀ {J : List Tr}, J.Pairwise (fun a b => a.line ≤ b.line) → ltT J (n + 1) = ltT J n ++ flT J n
  | [], _ => rfl
  | t :: J, h => by
    obtain ⟨h1, h2⟩ := List.pairwise_cons.mp h
    have ih := lt_step (n := n) h2
    unfold ltT flT at *
    rcases Nat.lt_trichotomy t.line n with q | q | q
    · rw [List.filter_cons_of_pos (by exact decide_eq_true (by omega)), List.filter_cons_of_pos (by exact decide_eq_true q), List.filter_cons_of_neg (by simp; omega), ih]
      rfl
    · have e0 : J.filter (fun t => decide (t.line < n)) = [] := List.filter_eq_nil_iff.mpr fun u hu => by have := h1 u hu; simp; omega
      rw [List.filter_cons_of_pos (by exact decide_eq_true (by omega)), List.filter_cons_of_neg (by simp; omega), List.filter_cons_of_pos (by exact decide_eq_true q), ih, e0]
      rfl
    · have e0 : J.filter (fun t => decide (t.line < n)) = [] := List.filter_eq_nil_iff.mpr fun u hu => by have := h1 u hu; simp; omega
      rw [List.filter_cons_of_neg (by simp; omega), List.filter_cons_of_neg (by simp; omega), List.filter_cons_of_neg (by simp; omega), ih, e0]
theorem lt_all {J : List Tr} {n : Nat} (h : ∀ t ∈ J, t.line < n) : ltT J n = J := List.filter_eq_self.mpr fun t ht => decide_eq_true (h t ht)
/-- the told minutes of one line, sorted -/
theorem srt_line {J L : List Tr} {n : Nat} {es : List Dt} (h : Srt J L) (hx : ∀ t ∈ L, t.x = .str "trip") (hp : es.Perm ((flT L n).map fun t => intsT t.told)) (hw : es.Pairwise fun x y => dataLt y x = false) : es = (flT J n).map fun t => intsT t.told := by
  have pf : (flT J n).Perm (flT L n) := h.pm.filter _
  have mem : ∀ d ∈ es, ∃ t ∈ flT L n, d = intsT t.told := fun d hd => by
    obtain ⟨t, ht, rfl⟩ := List.mem_map.mp (hp.mem_iff.mp hd)
    exact ⟨t, ht, rfl⟩
  refine List.Perm.eq_of_pairwise (le := fun x y => dataLt y x = false) (fun a b ha hb h1 h2 => ?_) hw ?_ (hp.trans (pf.map _).symm)
  · obtain ⟨t, _, rfl⟩ := mem a ha
    obtain ⟨u, _, rfl⟩ := List.mem_map.mp hb
    rw [lt_ints] at h1 h2
    rw [ints_anti (of_decide_eq_false h1) (of_decide_eq_false h2)]
  · refine List.pairwise_map.mpr ?_
    have pw : (flT J n).Pairwise leT := h.pw.filter _
    refine pw.imp_of_mem fun {a b} ha hb hab => ?_
    have xa := hx a (h.pm.mem_iff.mp (List.mem_filter.mp ha).1)
    have xb := hx b (h.pm.mem_iff.mp (List.mem_filter.mp hb).1)
    have la := of_decide_eq_true (List.mem_filter.mp ha).2
    have lb := of_decide_eq_true (List.mem_filter.mp hb).2
    unfold leT at hab
    rw [lt_tr xb xa] at hab
    unfold trLt at hab
    rw [if_pos (by omega)] at hab
    rw [lt_ints]
    exact hab
/-! ### apart, pair by pair -/
def idxs (ts : List Tr) (i : Nat) : List Nat := (List.range ts.length).filter fun o => decide ((ts.getD o noTr).line = i)
theorem idx_map {ts : List Tr} {i : Nat} : (idxs ts i).map (fun o => ts.getD o noTr) = flT ts i := by
  have e : ts = (List.range ts.length).map fun o => ts.getD o noTr := by
    apply List.ext_getElem?
    intro j
    rw [List.getElem?_map]
    by_cases hj : j < ts.length
    · rw [List.getElem?_range hj]; exact tr_at hj
    · rw [List.getElem?_eq_none (by omega), List.getElem?_eq_none (by rw [List.length_range]; omega)]; rfl
  unfold idxs flT
  conv => rhs; rw [e]
  rw [List.filter_map]
  rfl
def pairB (ls : List Line) (ts : List Tr) (o p : Nat) : Bool := (List.range (ts.getD p noTr).told.length).all fun h => decide ((ls.getD (ts.getD p noTr).line noLine).apart ≤ (ts.getD p noTr).told.getD h 0 - (ts.getD o noTr).told.getD h 0)
theorem apart_some {ls : List Line} {ts : List Tr} {o p : Nat} (h : (aheads ts p).getLast? = some o) : apartB ls ts p = pairB ls ts o p := by unfold apartB pairB; rw [h]
theorem apart_none {ls : List Line} {ts : List Tr} {p : Nat} (h : (aheads ts p).getLast? = none) : apartB ls ts p = true := by unfold apartB; rw [h]
theorem idx_split {ts : List Tr} {p : Nat} (hp : p < ts.length) : ∃ rest, idxs ts (ts.getD p noTr).line = aheads ts p ++ p :: rest := by
  obtain ⟨m, hm⟩ : ∃ m, ts.length = p + (m + 1) := ⟨ts.length - p - 1, by omega⟩
  unfold idxs aheads
  rw [hm, List.range_add, List.filter_append, List.range_succ_eq_map, List.map_cons, List.filter_cons_of_pos (by exact decide_eq_true rfl)]
  exact ⟨_, rfl⟩
theorem idx_mem {ts : List Tr} {i o : Nat} (h : o ∈ idxs ts i) : o < ts.length ∧ (ts.getD o noTr).line = i := by
  obtain ⟨h1, h2⟩ := List.mem_filter.mp h
  exact ⟨List.mem_range.mp h1, of_decide_eq_true h2⟩
theorem pair_of {ts : List Tr} {i j o p : Nat} (h1 : (idxs ts i)[j]? = some o) (h2 : (idxs ts i)[j + 1]? = some p) : (aheads ts p).getLast? = some o := by
  obtain ⟨m1, m2⟩ := idx_mem (List.mem_of_getElem? h2)
  subst m2
  obtain ⟨rest, e⟩ := idx_split m1
  have nd : (idxs ts (ts.getD p noTr).line).Nodup := List.Nodup.sublist List.filter_sublist List.nodup_range
  have at1 : (idxs ts (ts.getD p noTr).line)[(aheads ts p).length]? = some p := by rw [e, List.getElem?_append_right (Nat.le_refl _), Nat.sub_self]; rfl
  have el : j + 1 = (aheads ts p).length := (List.getElem?_inj (List.getElem?_eq_some_iff.mp h2).1 nd).mp (by rw [h2, at1])
  rw [e, List.getElem?_append_left (by omega)] at h1
  rw [List.getLast?_eq_getElem?, ← el]
  exact h1
theorem pair_conv {ts : List Tr} {o p : Nat} (hp : p < ts.length) (h : (aheads ts p).getLast? = some o) : ∃ j, (idxs ts (ts.getD p noTr).line)[j]? = some o ∧ (idxs ts (ts.getD p noTr).line)[j + 1]? = some p := by
  obtain ⟨rest, e⟩ := idx_split hp
  rw [List.getLast?_eq_getElem?] at h
  have hl := (List.getElem?_eq_some_iff.mp h).1
  refine ⟨(aheads ts p).length - 1, by rw [e, List.getElem?_append_left hl]; exact h, ?_⟩
  rw [show (aheads ts p).length - 1 + 1 = (aheads ts p).length by omega, e, List.getElem?_append_right (Nat.le_refl _), Nat.sub_self]; rfl
theorem zip_maps {α : Type} {F : α → Dt} {xs ys : List α} {i : Nat} {d : Dt} (h : (zipD (xs.map F) (ys.map F))[i]? = some d) : ∃ x y, xs[i]? = some x ∧ ys[i]? = some y ∧ d = .tuple [F x, F y] := by
  unfold zipD at h
  rw [List.getElem?_map] at h
  cases z : ((xs.map F).zip (ys.map F))[i]? with
  | none => rw [z] at h; cases h
  | some q =>
    rw [z] at h
    cases h
    obtain ⟨h1, h2⟩ := List.getElem?_zip_eq_some.mp z
    obtain ⟨x, x1, x2⟩ := map_get h1
    obtain ⟨y, y1, y2⟩ := map_get h2
    exact ⟨x, y, x1, y1, by show PyData.tuple [q.fst, q.snd] = _; rw [x2, y2]⟩
theorem any_not_all {l : List Nat} {p q : Nat → Bool} (h : ∀ x ∈ l, p x = !q x) : l.any p = !l.all q := by
  induction l with
  | nil => rfl
  | cons a l ih =>
    rw [List.any_cons, List.all_cons, h a (List.mem_cons_self ..), ih fun x hx => h x (List.mem_cons_of_mem _ hx)]
    cases q a <;> rfl
/-- what both joined trips are -/
def joinD (ls : List Line) (J : List Tr) : Dt := if apA ls J = true then .tuple (J.map Tr.d) else .none
end K19

set_option linter.all false
set_option maxRecDepth 100000
set_option maxHeartbeats 4000000
namespace K19
open PySem PySem.Spec PyProof.Rows L2 RZ Dv PySem.W
variable [Tbl]
abbrev sMinute : Stmt := at_def "is_minute"
abbrev sCkTrips : Stmt := at_def "check_trips"
abbrev sSlackless : Stmt := at_def "told_without_slack"
abbrev sBeat : Stmt := at_def "beat"
abbrev sPlainT : Stmt := at_def "plain_trip"
section
variable {P : Program} {w : World} {K : Fg} {mg : Str → Option Value} {base : Heap} {f : Addr} {fd : FuncData}
theorem scMinute : FnScope ["value"] ["value"] (defScope sMinute) := ⟨rfl, rfl, rfl, by decide +kernel, rfl, by decide +kernel, by decide +kernel⟩
def rMinute (ds : List Dt) (d : Dt) : Prop := ∃ v, ds = [v] ∧ d = .bool (withinB v 0 1999)
theorem f_minute (c : Cn2 mg) (C1 : Cal P w K mg base 2 "is_within" ["value", "least", "most"] sWithin (spD K rWithin)) (F : Fun K "is_minute" "is_minute" sMinute f fd) : FnG P w K mg base 3 f fd ["value"] (spD K rMinute) := by
  refine fn_data F scMinute (fun ds d ⟨i, e, _⟩ => by subst e; rfl) fun cdv A outer s H E hr hgd hu ds d h => ?_
  obtain ⟨v, rfl, rfl⟩ := h
  have hN := scMinute.nd
  obtain ⟨c1, c2⟩ := c
  and_intros
  rfl
theorem scCkTrips : FnScope ["city", "lines", "trips"] ["city", "lines", "trips"] (defScope sCkTrips) := ⟨rfl, rfl, rfl, by decide +kernel, rfl, by decide +kernel, by decide +kernel⟩
def rCkTrips (ds : List Dt) (d : Dt) : Prop := ∃ (c : City) (ls : List Line) (v : Dt), c.ok ∧ linesB c (linesD ls) = true ∧ ls.length ≤ 100 ∧ (∀ l ∈ ls, Lfit l) ∧ tripsB ls v = true ∧ ds = [c.d, linesD ls, v] ∧ d = .none
theorem f_cktrips (C1 : Cal P w K mg base 10 "are_trips" ["city", "lines", "value"] sAreTrips (spD K rTripsAre)) (F : Fun K "check_trips" "check_trips" sCkTrips f fd) : FnG P w K mg base 11 f fd ["city", "lines", "trips"] (spD K rCkTrips) := by
  refine fn_data F scCkTrips (fun ds d ⟨_, _, _, _, _, _, _, _, e, _⟩ => by subst e; rfl) fun cdv A outer s H E hr hgd hu ds d h => ?_
  obtain ⟨c, ls, v, ok, hl, few, fl, ht, rfl, rfl⟩ := h
  have hN := scCkTrips.nd
  and_intros
  refine ⟨_, ⟨c, ls, v, ok, hl, few, fl, rfl, rfl⟩, ?_⟩
  and_intros
  refine br_nby ht ?_
  and_intros
  rfl
abbrev NSk : List Str := ["line", "first", "_", "leasts", "stands", "told", "hop"]
theorem scSlackless : FnScope NSk ["line", "first"] (defScope sSlackless) := ⟨rfl, rfl, rfl, by decide +kernel, rfl, by decide +kernel, by decide +kernel⟩
def slessD (l : Line) (first : Int) : List Int := (List.range l.leasts.length).map fun h => first + pre l h
def rSless (ds es : List Dt) : Prop := ∃ (l : Line) (first : Int), Lfit l ∧ ds = [l.d, .int first] ∧ es = (slessD l first).map PyData.int
theorem f_sless (T : Free mg) (F : Fun K "told_without_slack" "told_without_slack" sSlackless f fd) : FnG P w K mg base 1 f fd ["line", "first"] (spO K rSless) := by
  refine fn_own F scSlackless (fun ds d ⟨_, _, _, e, _⟩ => by subst e; rfl) fun cdv A outer s H E hr hgd hu ds es h => ?_
  obtain ⟨l, first, fit, rfl, rfl⟩ := h
  have hN := scSlackless.nd
  have f1 := fit.tl
  have f2 := fit.few
  refine s_st (by repeat (first | exact StR.nil | apply StR.d | apply StR.no)) ?_
  refine s_eq (by conv => { lhs; whnf }) ?_
  refine s_unp ?_
  infer_instance
  refine ⟨_, _, by unfold Line.d; nofun, ?_⟩
  refine s_newOwn (F := fun es => [.d l.d, .d (.int first), .d (.int l.apart), .d (intsT l.leasts), .d (intsT l.stands), .own es, .no]) (i := 5) (by repeat (first | exact Nx.z | apply Nx.s)) (by intro _; repeat (first | exact SetR.z | apply SetR.s)) ?_
  refine o_lst ?_
  and_intros
  refine ⟨by simp, s_for ?_⟩
  and_intros
  rw [List.length_map]
  refine ⟨by omega, ?_⟩
  refine ⟨fun k z => ∃ e : En, z = [.d l.d, .d (.int first), .d (.int l.apart), .d (intsT l.leasts), .d (intsT l.stands), .own ((List.range (k + 1)).map fun h => .int (first + pre l h)), e], ⟨.no, by simp [pre]⟩, fun k v δ' hd iv => ?_, fun δ' iv => ?_⟩
  · obtain ⟨e, rfl⟩ := iv
    obtain ⟨hk, rfl⟩ := rngD_at hd
    rw [show (0 : Int) + ((k : Nat) : Int) = ((k : Nat) : Int) by omega]
    refine ⟨_, _, by nofun, ?_⟩
    refine s_append (i := 5) (F := fun d => [.d l.d, .d (.int first), .d (.int l.apart), .d (intsT l.leasts), .d (intsT l.stands), .own (((List.range (k + 1)).map fun h => .int (first + pre l h)) ++ [d]), .d (.int ((k : Nat) : Int))]) (by repeat (first | exact Nx.z | apply Nx.s)) rfl (by intro _; repeat (first | exact SetR.z | apply SetR.s)) (by rw [List.length_map, List.length_range]; omega) ?_
    iterate 2 refine c_bin ?_
    refine c_ownAt (i := 5) (by repeat (first | exact Nx.z | apply Nx.s)) rfl ?_
    and_intros
    refine ⟨_, _, rfl, at_map (List.getElem?_range (by omega)), ?_⟩
    and_intros
    refine ip_tup (at_map (getD_at (by omega))) ?_
    and_intros
    refine ip_tup (at_map (getD_at (by omega))) ?_
    and_intros
    refine ⟨.d (.int ((k : Nat) : Int)), ?_⟩
    rw [List.range_succ (n := k + 1), List.map_append]
    show _ = [_, _, _, _, _, En.own (_ ++ [PyData.int (first + (pre l k + l.leasts.getD k 0 + l.stands.getD k 0))]), _]
    rw [← Int.add_assoc, ← Int.add_assoc]
  · obtain ⟨e, rfl⟩ := iv
    rw [rngD_length]
    refine s_retO (i := 5) (by repeat (first | exact Nx.z | apply Nx.s)) rfl ?_
    show _ = (slessD l first).map PyData.int
    unfold slessD
    rw [List.map_map, show ((l.stands.length : Nat) : Int).toNat + 1 = l.leasts.length by omega]
    rfl
end
end K19

set_option linter.all false
set_option maxRecDepth 100000
set_option maxHeartbeats 4000000
namespace K19
open PySem PySem.Spec PyProof.Rows L2 RZ Dv PySem.W
variable [Tbl]
abbrev sJoined : Stmt := at_def "joined_trips"
structure Cn3 (mg : Str → Option Value) : Prop where
  every : ∃ t, mg "LONGEST_EVERY" = some (.int 240 t)
theorem within_ok {i a b : Int} (h1 : a ≤ i) (h2 : i ≤ b) : withinB (.int i) a b = true := by
  show (decide _ && decide _) = true
  rw [decide_eq_true h1, decide_eq_true h2]; rfl
section
variable {P : Program} {w : World} {K : Fg} {mg : Str → Option Value} {base : Heap} {f : Addr} {fd : FuncData}
abbrev NBt : List Str := ["city", "lines", "line", "first", "every", "many", "told", "at", "minute"]
theorem scBeat : FnScope NBt ["city", "lines", "line", "first", "every", "many"] (defScope sBeat) := ⟨rfl, rfl, rfl, by decide +kernel, rfl, by decide +kernel, by decide +kernel⟩
structure BeatIn (c : City) (ls : List Line) (n : Nat) (first every : Int) (many : Nat) : Prop where
  ok : c.ok
  hl : linesB c (linesD ls) = true
  few : ls.length ≤ 100
  g : ∀ l ∈ ls, LineG l
  hn : n < ls.length
  l1 : 1 ≤ (ls.getD n noLine).leasts.length
  f0 : 0 ≤ first
  f1 : first ≤ 1999
  e1 : (ls.getD n noLine).apart ≤ every
  e2 : every ≤ 240
  m1 : 1 ≤ many
  m2 : many ≤ 16
def beatA (c : City) (ls : List Line) (n : Nat) (first every : Int) (many : Nat) : List Dt := [c.d, linesD ls, .int ((n : Nat) : Int), .int first, .int every, .int ((many : Nat) : Int)]
def rBeat (ds : List Dt) (d : Dt) : Prop := ∃ (c : City) (ls : List Line) (n : Nat) (first every : Int) (many : Nat), BeatIn c ls n first every many ∧ lastM (ls.getD n noLine) first every many ≤ 1999 ∧ ds = beatA c ls n first every many ∧ d = .tuple ((beatT ls n first every many).map Tr.d)
def rBeatX (ds : List Dt) (cn : Str) (y : Dt) : Prop := ∃ (c : City) (ls : List Line) (n : Nat) (first every : Int) (many : Nat), BeatIn c ls n first every many ∧ 1999 < lastM (ls.getD n noLine) first every many ∧ ds = beatA c ls n first every many ∧ cn = "TooMany" ∧ y = err2 (.str "minutes") (.int 1999)
theorem f_beat (T : Free mg) (c : Cn2 mg) (c3 : Cn3 mg) (C1 : Cal P w K mg base 9 "check_lines" ["city", "lines"] sCkLines (spD K rCkLines)) (C2 : Cal P w K mg base 2 "is_within" ["value", "least", "most"] sWithin (spD K rWithin)) (C3 : Cal P w K mg base 3 "is_minute" ["value"] sMinute (spD K rMinute)) (C4 : Cal P w K mg base 1 "told_without_slack" ["line", "first"] sSlackless (spO K rSless)) (F : Fun K "beat" "beat" sBeat f fd) : FnG P w K mg base 10 f fd ["city", "lines", "line", "first", "every", "many"] (spD K rBeat) := by
  refine fn_data F scBeat (fun ds d ⟨_, _, _, _, _, _, _, _, e, _⟩ => by subst e; rfl) fun cdv A outer s H E hr hgd hu ds d h => ?_
  obtain ⟨q, ls, n, first, every, many, b, hlast, rfl, rfl⟩ := h
  have hN := scBeat.nd
  obtain ⟨c1, c2⟩ := c
  obtain ⟨c3⟩ := c3
  have C5 := C4.ofO
  have e1 := li_at b.hn
  have gl := line_of b.g b.hn
  have hl0 := hlast
  unfold lastM at hl0
  have a1 := gl.a1
  have fit := gl.fit
  have h4 := gl.h4
  obtain ⟨ok, bl, few, g, hn, l1, f0, f1, v1, v2, m1, m2⟩ := b
  show SsD _ _ (stD _ ((beatA _ _ _ _ _ _).map En.d)) _
  unfold beatA
  have fin : (PyData.tuple ((beatT ls n first every many).map Tr.d)) = .tuple ((List.range many).map fun k => .tuple [.str "trip", .int ((n : Nat) : Int), .tuple ((List.range (ls.getD n noLine).leasts.length).map fun h => .int (first + pre (ls.getD n noLine) h + every * ((k : Nat) : Int)))]) := by
    show PyData.tuple (((List.range many).map _).map Tr.d) = _
    rw [List.map_map]
    congr 1
    refine List.map_congr_left fun k _ => ?_
    show PyData.tuple [_, _, .tuple (((List.range _).map _).map PyData.int)] = _
    rw [List.map_map]
    congr 5
    refine List.map_congr_left fun h _ => ?_
    show PyData.int (first + every * (k : Int) + pre _ h) = _
    congr 1
    omega
  rw [fin]
  generalize hl : ls.getD n noLine = l at *
  and_intros
  refine ⟨_, ⟨q, linesD ls, ok, bl, rfl, rfl⟩, ?_⟩
  and_intros
  rw [List.length_map]
  refine br_nby (within_ok (by omega) (by omega)) ?_
  and_intros
  refine br_nby (within_ok (by omega) (by omega)) ?_
  and_intros
  refine ip_tup (at_map e1) ?_
  and_intros
  refine br_nby (within_ok (by omega) (by omega)) ?_
  and_intros
  refine br_nby (within_ok (by omega) (by omega)) ?_
  and_intros
  refine ip_tup (at_map e1) ?_
  and_intros
  refine ⟨_, ⟨_, ⟨l, first, fit, rfl, rfl⟩, rfl⟩, ?_⟩
  have es : (slessD l first).map PyData.int = (List.range l.leasts.length).map fun h => .int (first + pre l h) := by
    unfold slessD
    rw [List.map_map]; rfl
  rw [es]
  and_intros
  refine ip_list (at_lastR (by omega)) ?_
  and_intros
  refine bp_mul (by unfold CMul; omega) ?_
  and_intros
  refine br_no (by
    rw [show ((many : Nat) : Int) - 1 = ((many - 1 : Nat) : Int) by omega]
    omega) ?_
  and_intros
  refine c_comp (α := Nat) [("at", 7)] (blkOk_by (N := NBt) (sc := defScope sBeat) (by decide +kernel)) ?_
  and_intros
  refine ⟨by omega, List.range many, fun h => .int (0 + ((h : Nat) : Int)), fun k => .tuple [.str "trip", .int ((n : Nat) : Int), .tuple ((List.range l.leasts.length).map fun h => .int (first + pre l h + every * ((k : Nat) : Int)))], by unfold rngD; rw [show ((many : Nat) : Int).toNat = many by omega], by rw [List.length_range]; omega, fun i k hk => ?_, ?_⟩
  · have hk := List.mem_range.mp (List.mem_of_getElem? hk)
    refine ⟨_, fun s H C cl fp => by nofun, fun s H C cl fp => ?_⟩
    dsimp only
    rw [show (0 : Int) + ((k : Nat) : Int) = ((k : Nat) : Int) by omega]
    and_intros
    refine c_intc ?_
    and_intros
    refine f_int ?_
    and_intros
    refine c_comp (α := Nat) [("minute", 8)] (blkOk_by (by rfl)) ?_
    and_intros
    refine ⟨List.range l.leasts.length, fun h => .int (first + pre l h), fun h => .int (first + pre l h + every * ((k : Nat) : Int)), rfl, by rw [List.length_range]; omega, fun j h hj => ?_, ?_⟩
    · refine ⟨_, fun s H C cl fp => by nofun, fun s H C cl fp => ?_⟩
      and_intros
      refine bp_mul (by unfold CMul; omega) ?_
      and_intros
      rfl
    · and_intros
      exact ⟨by simp, rfl⟩
  · and_intros
    rfl
end
end K19

set_option linter.all false
set_option maxRecDepth 100000
set_option maxHeartbeats 4000000
namespace K19
open PySem PySem.Spec PyProof.Rows L2 RZ Dv PySem.W
variable [Tbl]
section
variable {P : Program} {w : World} {K : Fg} {mg : Str → Option Value} {base : Heap} {f : Addr} {fd : FuncData}
abbrev NPt : List Str := ["trip", "_", "line", "told", "minute"]
theorem scPlainT : FnScope NPt ["trip"] (defScope sPlainT) := ⟨rfl, rfl, rfl, by decide +kernel, rfl, by decide +kernel, by decide +kernel⟩
def rPlainT (ds : List Dt) (d : Dt) : Prop := ∃ t : Tr, t.x = .str "trip" ∧ t.told.length ≤ 100 ∧ ds = [t.d] ∧ d = t.d
theorem f_plaint (T : Free mg) (F : Fun K "plain_trip" "plain_trip" sPlainT f fd) : FnG P w K mg base 1 f fd ["trip"] (spD K rPlainT) := by
  refine fn_data F scPlainT (fun ds d ⟨_, _, _, e, _⟩ => by subst e; rfl) fun cdv A outer s H E hr hgd hu ds d h => ?_
  obtain ⟨t, hx, tl, rfl, rfl⟩ := h
  have hN := scPlainT.nd
  have e : t.d = .tuple [.str "trip", .int ((t.line : Nat) : Int), intsT t.told] := by unfold Tr.d; rw [hx]
  rw [e]
  and_intros
  refine c_intc ?_
  and_intros
  refine f_int ?_
  and_intros
  refine c_comp (α := Int) [("minute", 4)] (blkOk_by (by rfl)) ?_
  and_intros
  refine ⟨t.told, PyData.int, PyData.int, rfl, by omega, fun i m hm => ⟨_, fun s H C cl fp => by nofun, fun s H C cl fp => ?_⟩, ?_⟩
  · refine c_intc ?_
    and_intros
    refine f_int ?_
    rfl
  and_intros
  exact ⟨by simp, rfl⟩
abbrev NJo : List Str := ["city", "lines", "trips", "other", "joined", "trip"]
theorem scJoined : FnScope NJo ["city", "lines", "trips", "other"] (defScope sJoined) := ⟨rfl, rfl, rfl, by decide +kernel, rfl, by decide +kernel, by decide +kernel⟩
structure JoinIn (c : City) (ls : List Line) (A B : List Tr) : Prop where
  ok : c.ok
  hl : linesB c (linesD ls) = true
  few : ls.length ≤ 100
  fit : ∀ l ∈ ls, Lfit l
  a1 : 1 ≤ A.length
  b1 : 1 ≤ B.length
  ab : A.length + B.length ≤ 16
  aw : ∀ t ∈ A, TripW ls t
  bw : ∀ t ∈ B, TripW ls t
  aa : apA ls A = true
  ba : apA ls B = true
def trsD (ts : List Tr) : Dt := .tuple (ts.map Tr.d)
def rJoined (ds : List Dt) (d : Dt) : Prop := ∃ (c : City) (ls : List Line) (A B J : List Tr), JoinIn c ls A B ∧ Srt J (A ++ B) ∧ ds = [c.d, linesD ls, trsD A, trsD B] ∧ d = joinD ls J
theorem f_joined (T : Free mg) (c : Cn2 mg) (C1 : Cal P w K mg base 11 "check_trips" ["city", "lines", "trips"] sCkTrips (spD K rCkTrips)) (C2 : Cal P w K mg base 1 "plain_trip" ["trip"] sPlainT (spD K rPlainT)) (C3 : Cal P w K mg base 5 "are_trips_of" ["lines", "value"] sAreTripsOf (spD K rAreTrips)) (F : Fun K "joined_trips" "joined_trips" sJoined f fd) : FnG P w K mg base 12 f fd ["city", "lines", "trips", "other"] (spD K rJoined) := by
  refine fn_data F scJoined (fun ds d ⟨_, _, _, _, _, _, _, e, _⟩ => by subst e; rfl) fun cdv A0 outer s H E hr hgd hu ds d h => ?_
  obtain ⟨q, ls, A, B, J, b, srt, rfl, rfl⟩ := h
  have hN := scJoined.nd
  obtain ⟨c1, c2⟩ := c
  obtain ⟨ok, hl, few, fit, a1, b1, ab, aw, bw, aa, ba⟩ := b
  have hw : ∀ t ∈ A ++ B, TripW ls t := fun t ht => (List.mem_append.mp ht).elim (aw t) (bw t)
  have jw : ∀ t ∈ J, TripW ls t := fun t ht => hw t (srt.pm.mem_iff.mp ht)
  have jl : J.length = A.length + B.length := by rw [srt.pm.length_eq, List.length_append]
  have hx : ∀ t ∈ A ++ B, t.x = .str "trip" := fun t ht => (hw t ht).x
  have tl : ∀ t ∈ A ++ B, t.told.length ≤ 100 := fun t ht => by
    have w := hw t ht
    have := (fit _ (List.mem_of_getElem? (li_at w.li))).few
    rw [w.tl]; exact this
  unfold trsD
  and_intros
  refine ⟨_, ⟨q, ls, _, ok, hl, few, fit, (tripsB_W a1 (by omega) aw).trans aa, rfl, rfl⟩, ?_⟩
  and_intros
  refine ⟨_, ⟨q, ls, _, ok, hl, few, fit, (tripsB_W b1 (by omega) bw).trans ba, rfl, rfl⟩, ?_⟩
  and_intros
  rw [List.length_map, List.length_map]
  refine br_no (by omega) ?_
  and_intros
  refine c_sorted ?_
  refine c_comp (α := Tr) [("trip", 5)] (blkOk_by (by rfl)) ?_
  refine i_seq ?_
  refine c_lstS2 ?_
  and_intros
  refine ⟨by rw [List.length_map, List.length_map]; omega, seq_l ?_⟩
  refine ⟨A ++ B, Tr.d, Tr.d, by rw [List.map_append], by rw [List.length_append]; omega, fun i t ht => ⟨_, fun s H C cl fp => by nofun, fun s H C cl fp => ?_⟩, ?_⟩
  · have hm := List.mem_of_getElem? ht
    and_intros
    exact ⟨_, ⟨t, hx t hm, tl t hm, rfl, rfl⟩, rfl⟩
  refine f_sortD hu (all_alike hx) sortable (tr_plain hx) fun es hp hw2 => ?_
  obtain ⟨J', rfl, srt'⟩ := srt_of hp hw2
  obtain rfl := srt_uniq srt' srt (List.Perm.refl _) hx
  and_intros
  refine ⟨_, ⟨ls, _, few, fit, rfl, rfl⟩, ?_⟩
  rw [tripsB_W (by omega) (by omega) jw]
  unfold joinD
  cases hb : apA ls J' with
  | true =>
    and_intros
    rfl
  | false =>
    and_intros
    rfl
end
end K19

set_option linter.all false
set_option maxRecDepth 100000
set_option maxHeartbeats 4000000
namespace K19
open PySem PySem.Spec PyProof.Rows L2 RZ Dv PySem.W
variable [Tbl]
abbrev sLTable : Stmt := at_def "_law_table"
abbrev sLCity : Stmt := at_def "_law_city"
abbrev sLLine : Stmt := at_def "_law_line"
theorem rep_flat {α : Type} {x : α} : ∀ n : Nat, (List.replicate n [x]).flatten = List.replicate n x
  | 0 => rfl
  | n + 1 => by rw [List.replicate_succ, List.flatten_cons, rep_flat n]; rfl
theorem rep_ints {x : Int} {n : Nat} : (List.replicate n [PyData.int x]).flatten = (List.replicate n x).map PyData.int := by rw [rep_flat, List.map_replicate]
section
variable {P : Program} {w : World} {K : Fg} {mg : Str → Option Value} {base : Heap} {f : Addr} {fd : FuncData}
theorem scIsLine : FnScope ["city", "value"] ["city", "value"] (defScope sIsLine) := ⟨rfl, rfl, rfl, by decide +kernel, rfl, by decide +kernel, by decide +kernel⟩
theorem f_isline (C1 : Cal P w K mg base 7 "check_city" ["city"] sCkCity (spD K rCkCity)) (C2 : Cal P w K mg base 5 "is_line_of" ["city", "value"] sIsLineOf (spD K rIsLine)) (F : Fun K "is_line" "is_line" sIsLine f fd) : FnG P w K mg base 8 f fd ["city", "value"] (spD K rIsLine) := by
  refine fn_data F scIsLine (fun ds d ⟨_, _, _, e, _⟩ => by subst e; rfl) fun cdv A outer s H E hr hgd hu ds d h => ?_
  obtain ⟨c, v, ok, rfl, rfl⟩ := h
  have hN := scIsLine.nd
  and_intros
  exact ⟨_, ⟨c, v, ok, rfl, rfl⟩, rfl⟩
structure BIn0 (c : City) (ls : List Line) (n : Nat) : Prop where
  ok : c.ok
  hl : linesB c (linesD ls) = true
  few : ls.length ≤ 100
  g : ∀ l ∈ ls, LineG l
  hn : n < ls.length
  l1 : 1 ≤ (ls.getD n noLine).leasts.length
def rBX (ds : List Dt) (cn : Str) (y : Dt) : Prop := ∃ (c : City) (ls : List Line) (n : Nat) (first every : Int) (many : Nat), BIn0 c ls n ∧ ds = beatA c ls n first every many ∧
  ((withinB (.int first) 0 1999 = false ∧ cn = "InvalidMinute" ∧ y = .int first) ∨
   (withinB (.int first) 0 1999 = true ∧ withinB (.int every) (ls.getD n noLine).apart 240 = false ∧ cn = "InvalidEvery" ∧ y = .int every) ∨
   (withinB (.int first) 0 1999 = true ∧ withinB (.int every) (ls.getD n noLine).apart 240 = true ∧ withinB (.int ((many : Nat) : Int)) 1 16 = false ∧ cn = "InvalidMany" ∧ y = .int ((many : Nat) : Int)) ∨
   (withinB (.int first) 0 1999 = true ∧ withinB (.int every) (ls.getD n noLine).apart 240 = true ∧ withinB (.int ((many : Nat) : Int)) 1 16 = true ∧ 1999 < lastM (ls.getD n noLine) first every many ∧ cn = "TooMany" ∧ y = err2 (.str "minutes") (.int 1999)))
theorem fx_beat {C fI C1' f1 C2' f2 C3' f3 : Addr} (T : Free mg) (c : Cn2 mg) (c3 : Cn3 mg) (C1 : Cal P w K mg base 9 "check_lines" ["city", "lines"] sCkLines (spD K rCkLines)) (C2 : Cal P w K mg base 2 "is_within" ["value", "least", "most"] sWithin (spD K rWithin)) (C3 : Cal P w K mg base 3 "is_minute" ["value"] sMinute (spD K rMinute)) (C4 : Cal P w K mg base 1 "told_without_slack" ["line", "first"] sSlackless (spO K rSless)) (Er : ErrTxt2 K mg "TooMany" "TooMany.__init__" C fI) (E1 : ErrTxt K mg "InvalidMinute" "InvalidMinute.__init__" C1' f1) (E2 : ErrTxt K mg "InvalidEvery" "InvalidEvery.__init__" C2' f2) (E3 : ErrTxt K mg "InvalidMany" "InvalidMany.__init__" C3' f3) (F : Fun K "beat" "beat" sBeat f fd) : FnX P w K mg base 10 f fd ["city", "lines", "line", "first", "every", "many"] (spX K mg rBX) := by
  refine fnX_data F scBeat (fun ds cn d ⟨_, _, _, _, _, _, _, e, _⟩ => by subst e; rfl) fun cdv A outer s H E hr hgd hu ds cn d h => ?_
  obtain ⟨q, ls, n, first, every, many, b, rfl, hcase⟩ := h
  have hN := scBeat.nd
  obtain ⟨c1, c2⟩ := c
  obtain ⟨c3⟩ := c3
  have C5 := C4.ofO
  have e1 := li_at b.hn
  have gl := line_of b.g b.hn
  have a1 := gl.a1
  have fit := gl.fit
  have h4 := gl.h4
  obtain ⟨ok, bl, few, g, hn, l1⟩ := b
  show RsX _ _ (stD _ ((beatA _ _ _ _ _ _).map En.d)) _
  unfold beatA
  generalize hl : ls.getD n noLine = l at *
  refine s_start (by repeat (first | exact StR.nil | apply StR.d | apply StR.no)) ?_
  refine x_eq (by conv => { lhs; whnf }) ?_
  refine x_do ?_ ?_
  · infer_instance
    refine a_c ?_
    and_intros
    exact ⟨_, ⟨q, linesD ls, ok, bl, rfl, rfl⟩, trivial⟩
  refine x_skip ?_ ?_
  · and_intros
    rw [List.length_map, within_ok (by omega) (by omega)]; rfl
  rcases hcase with ⟨w1, rfl, rfl⟩ | ⟨w1, w2, rfl, rfl⟩ | ⟨w1, w2, w3, rfl, rfl⟩ | ⟨w1, w2, w3, hlast, rfl, rfl⟩
  · refine x_if ?_ (x_raise E1 ?_)
    · and_intros
      rw [w1]; rfl
    · and_intros
      exact ⟨rfl, rfl⟩
  · refine x_skip ?_ ?_
    · and_intros
      rw [w1]; rfl
    refine x_if ?_ (x_raise E2 ?_)
    · and_intros
      refine ip_tup (at_map e1) ?_
      and_intros
      rw [w2]; rfl
    · and_intros
      exact ⟨rfl, rfl⟩
  · refine x_skip ?_ ?_
    · and_intros
      rw [w1]; rfl
    refine x_skip ?_ ?_
    · and_intros
      refine ip_tup (at_map e1) ?_
      and_intros
      rw [w2]; rfl
    refine x_if ?_ (x_raise E3 ?_)
    · and_intros
      rw [w3]; rfl
    · and_intros
      exact ⟨rfl, rfl⟩
  refine x_skip ?_ ?_
  · and_intros
    rw [w1]; rfl
  refine x_skip ?_ ?_
  · and_intros
    refine ip_tup (at_map e1) ?_
    and_intros
    rw [w2]; rfl
  refine x_skip ?_ ?_
  · and_intros
    rw [w3]; rfl
  have w2' : l.apart ≤ every ∧ every ≤ 240 := by
    have : (decide (l.apart ≤ every) && decide (every ≤ 240)) = true := w2
    rw [Bool.and_eq_true] at this
    exact ⟨of_decide_eq_true this.1, of_decide_eq_true this.2⟩
  have w3' : 1 ≤ many := by
    have : (decide ((1 : Int) ≤ ((many : Nat) : Int)) && decide (((many : Nat) : Int) ≤ 16)) = true := w3
    rw [Bool.and_eq_true] at this
    have := of_decide_eq_true this.1
    omega
  unfold lastM at hlast
  have es : (slessD l first).map PyData.int = (List.range l.leasts.length).map fun h => .int (first + pre l h) := by
    unfold slessD
    rw [List.map_map]; rfl
  refine x_let (i := 6) (F := fun d => [.d q.d, .d (linesD ls), .d (.int ((n : Nat) : Int)), .d (.int first), .d (.int every), .d (.int ((many : Nat) : Int)), .d d, .no, .no]) (by repeat (first | exact Nx.z | apply Nx.s)) (by intro _; repeat (first | exact SetR.z | apply SetR.s)) ?_
  and_intros
  refine ip_tup (at_map e1) ?_
  and_intros
  refine ⟨_, ⟨_, ⟨l, first, fit, rfl, rfl⟩, rfl⟩, ?_⟩
  rw [es]
  refine x_if ?_ (x_raise2 Er ?_)
  · and_intros
    refine ip_list (at_lastR (by omega)) ?_
    and_intros
    refine bp_mul (by unfold CMul; omega) ?_
    and_intros
    refine decide_eq_true ?_
    rw [show ((many : Nat) : Int) - 1 = ((many - 1 : Nat) : Int) by omega]
    omega
  · and_intros
    rfl
def rJoinX (ds : List Dt) (cn : Str) (y : Dt) : Prop := ∃ (c : City) (ls : List Line) (A B : List Tr), c.ok ∧ linesB c (linesD ls) = true ∧ ls.length ≤ 100 ∧ (∀ l ∈ ls, Lfit l) ∧ tripsB ls (trsD A) = true ∧ tripsB ls (trsD B) = true ∧ 16 < A.length + B.length ∧ ds = [c.d, linesD ls, trsD A, trsD B] ∧ cn = "TooMany" ∧ y = err2 (.str "trips") (.int 16)
theorem fx_joined {C fI : Addr} (T : Free mg) (c : Cn2 mg) (C1 : Cal P w K mg base 11 "check_trips" ["city", "lines", "trips"] sCkTrips (spD K rCkTrips)) (Er : ErrTxt2 K mg "TooMany" "TooMany.__init__" C fI) (F : Fun K "joined_trips" "joined_trips" sJoined f fd) : FnX P w K mg base 12 f fd ["city", "lines", "trips", "other"] (spX K mg rJoinX) := by
  refine fnX_data F scJoined (fun ds cn d ⟨_, _, _, _, _, _, _, _, _, _, _, e, _⟩ => by subst e; rfl) fun cdv A0 outer s H E hr hgd hu ds cn d h => ?_
  obtain ⟨q, ls, A, B, ok, hl, few, fit, ha, hb, hab, rfl, rfl, rfl⟩ := h
  have hN := scJoined.nd
  obtain ⟨c1, c2⟩ := c
  refine s_start (by repeat (first | exact StR.nil | apply StR.d | apply StR.no)) ?_
  refine x_eq (by conv => { lhs; whnf }) ?_
  refine x_do ?_ ?_
  · infer_instance
    refine a_c ?_
    and_intros
    exact ⟨_, ⟨q, ls, _, ok, hl, few, fit, ha, rfl, rfl⟩, trivial⟩
  refine x_do ?_ ?_
  · infer_instance
    refine a_c ?_
    and_intros
    exact ⟨_, ⟨q, ls, _, ok, hl, few, fit, hb, rfl, rfl⟩, trivial⟩
  refine x_if ?_ (x_raise2 Er ?_)
  · and_intros
    rw [List.length_map, List.length_map]
    exact decide_eq_true (by omega)
  · and_intros
    rfl
end
end K19

set_option linter.all false
set_option maxRecDepth 100000
set_option maxHeartbeats 4000000
namespace K19
open PySem PySem.Spec PyProof.Rows L2 RZ Dv PySem.W
variable [Tbl]
def tabT (number : Int) (other : Nat) (between : Int) (i j : Nat) : Int := if i = j then 0 else if (i = 0 ∧ j = other) ∨ (j = 0 ∧ i = other) then between else number
def mnL (i j : Nat) : List Int := if i ≤ j then [((i : Nat) : Int), ((j : Nat) : Int)] else [((j : Nat) : Int), ((i : Nat) : Int)]
theorem mn_perm {i j : Nat} : (mnL i j).Perm [((i : Nat) : Int), ((j : Nat) : Int)] := by
  unfold mnL
  split
  · exact .refl _
  · exact List.Perm.swap _ _ []
theorem mn_pw {i j : Nat} : (mnL i j).Pairwise (· ≤ ·) := by
  unfold mnL
  split <;> simp <;> omega
theorem sh_two {a b : Int} : SeqAt.shaped (.list [.int a, .int b]) = true := by
  simp [SeqAt.shaped, PyData.canLay0, PyData.canLayAll0, PyData.depth, PyData.depthAll]
theorem sh_mn {i j : Nat} : SeqAt.shaped (.list ((mnL i j).map PyData.int)) = true := by
  unfold mnL
  split <;> exact sh_two
theorem eqv_two {a b c d : Int} : PyData.eqv (.list [.int a, .int b]) (.list [.int c, .int d]) = (decide (a = c) && decide (b = d)) := by
  simp [PyData.eqv, PyData.eqvAll]
  rfl
theorem eqv_mn {i j other : Nat} (ne : i ≠ j) : PyData.eqv (.list ((mnL i j).map PyData.int)) (.list ((mnL 0 other).map PyData.int)) = decide ((i = 0 ∧ j = other) ∨ (j = 0 ∧ i = other)) := by
  unfold mnL
  rw [if_pos (Nat.zero_le other)]
  by_cases h : i ≤ j
  · rw [if_pos h]
    show PyData.eqv (.list [.int _, .int _]) (.list [.int _, .int _]) = _
    rw [eqv_two, ← Bool.decide_and]
    exact decide_eq_decide.mpr (by omega)
  · rw [if_neg h]
    show PyData.eqv (.list [.int _, .int _]) (.list [.int _, .int _]) = _
    rw [eqv_two, ← Bool.decide_and]
    exact decide_eq_decide.mpr (by omega)
section
variable {P : Program} {w : World} {K : Fg} {mg : Str → Option Value} {base : Heap} {f : Addr} {fd : FuncData}
abbrev NLt : List Str := ["many", "number", "one", "other", "between", "found", "near", "far"]
theorem scLTable : FnScope NLt ["many", "number", "one", "other", "between"] (defScope sLTable) := ⟨rfl, rfl, rfl, by decide +kernel, rfl, by decide +kernel, by decide +kernel⟩
def rLTable (ds : List Dt) (d : Dt) : Prop := ∃ (many other : Nat) (number between : Int), many ≤ 100 ∧ ds = [.int ((many : Nat) : Int), .int number, .int 0, .int ((other : Nat) : Int), .int between] ∧ d = tabD many (tabT number other between)
theorem f_ltable (T : Free mg) (F : Fun K "_law_table" "_law_table" sLTable f fd) : FnG P w K mg base 1 f fd ["many", "number", "one", "other", "between"] (spD K rLTable) := by
  refine fn_data F scLTable (fun ds d ⟨_, _, _, _, _, e, _⟩ => by subst e; rfl) fun cdv A outer s H E hr hgd hu ds d h => ?_
  obtain ⟨many, other, number, between, m2, rfl, rfl⟩ := h
  have hN := scLTable.nd
  refine s_st (by repeat (first | exact StR.nil | apply StR.d | apply StR.no)) ?_
  refine s_eq (by conv => { lhs; whnf }) ?_
  refine s_newOwn (i := 5) (F := fun es => [.d (.int ((many : Nat) : Int)), .d (.int number), .d (.int 0), .d (.int ((other : Nat) : Int)), .d (.int between), .own es, .no, .no]) (by repeat (first | exact Nx.z | apply Nx.s)) (by intro _; repeat (first | exact SetR.z | apply SetR.s)) ?_
  refine o_lst (a_n ⟨by simp, ?_⟩)
  refine s_for ?_
  and_intros
  refine ⟨by omega, ?_⟩
  refine ⟨fun k z => ∃ a : En, z = [.d (.int ((many : Nat) : Int)), .d (.int number), .d (.int 0), .d (.int ((other : Nat) : Int)), .d (.int between), .own ((List.range k).map fun i => .tuple (rowD many (tabT number other between) i)), a, .no], ⟨.no, rfl⟩, fun k v δ' hd iv => ?_, fun δ' iv => ?_⟩
  case refine_2 =>
    obtain ⟨a, rfl⟩ := iv
    rw [rngD_length]
    refine s_freeze 5 rfl (by repeat (first | exact SetR.z | apply SetR.s)) ?_
    and_intros
    rw [show ((many : Nat) : Int).toNat = many by omega]
    rfl
  obtain ⟨a, rfl⟩ := iv
  obtain ⟨hk, rfl⟩ := rngD_at hd
  have hk : k < many := by omega
  rw [show (0 : Int) + ((k : Nat) : Int) = ((k : Nat) : Int) by omega]
  refine ⟨_, _, by nofun, ?_⟩
  refine s_append (i := 5) (F := fun d => [.d (.int ((many : Nat) : Int)), .d (.int number), .d (.int 0), .d (.int ((other : Nat) : Int)), .d (.int between), .own (((List.range k).map fun i => .tuple (rowD many (tabT number other between) i)) ++ [d]), .d (.int ((k : Nat) : Int)), .no]) (by repeat (first | exact Nx.z | apply Nx.s)) rfl (by intro _; repeat (first | exact SetR.z | apply SetR.s)) (by rw [List.length_map, List.length_range]; omega) ?_
  refine c_tuple ?_
  refine c_comp (α := Nat) [("far", 7)] (blkOk_by (N := NLt) (sc := defScope sLTable) (by decide +kernel)) ?_
  and_intros
  refine ⟨by omega, List.range many, fun j => .int (0 + ((j : Nat) : Int)), fun j => .int (tabT number other between k j), by unfold rngD; rw [show ((many : Nat) : Int).toNat = many by omega], by rw [List.length_range]; omega, fun i j hj => ?_, ?_⟩
  · have hj2 : j < many := List.mem_range.mp (List.mem_of_getElem? hj)
    refine ⟨_, fun s H C cl fp => by nofun, fun s H C cl fp => ?_⟩
    dsimp only
    rw [show (0 : Int) + ((j : Nat) : Int) = ((j : Nat) : Int) by omega]
    refine c_if ?_
    and_intros
    refine br_d (fun z => ?_) (fun z => ?_)
    · and_intros
      unfold tabT
      rw [if_pos (by omega)]
    have ne : ¬ k = j := by omega
    have et : tabT number other between k j = if (k = 0 ∧ j = other) ∨ (j = 0 ∧ k = other) then between else number := by unfold tabT; rw [if_neg ne]
    rw [et]
    refine c_if ?_
    refine c_cmp (nomark _) ?_
    refine c_sorted ?_
    and_intros
    refine ⟨by simp, ?_⟩
    refine f_sorted (ns := [((k : Nat) : Int), ((j : Nat) : Int)]) mn_perm mn_pw ?_
    refine c_sorted ?_
    and_intros
    refine ⟨by simp, ?_⟩
    refine f_sorted (ns := [0, ((other : Nat) : Int)]) (mn_perm (i := 0) (j := other)) (mn_pw (i := 0) (j := other)) ?_
    refine cp_eqD hu sh_mn sh_mn ?_
    rw [eqv_mn ne]
    refine br_d (fun z => ?_) (fun z => ?_)
    · and_intros
      rw [if_pos z]
    · and_intros
      rw [if_neg z]
  refine f_tupL ?_
  refine ss_n ?_
  refine ⟨.d (.int ((k : Nat) : Int)), ?_⟩
  rw [List.range_succ (n := k), List.map_append]
  rfl
theorem scLCity : FnScope ["many", "zone", "change", "way"] ["many", "zone", "change", "way"] (defScope sLCity) := ⟨rfl, rfl, rfl, by decide +kernel, rfl, by decide +kernel, by decide +kernel⟩
def sameT (way : Int) (i j : Nat) : Int := if i = j then 0 else way
theorem tab_same {way : Int} {n : Nat} : tabD n (tabT way 0 0) = tabD n (sameT way) := tabD_congr fun i j _ _ => by
  unfold tabT sameT
  by_cases h : i = j
  · rw [if_pos h, if_pos h]
  · rw [if_neg h, if_neg h, if_neg (by omega)]
def cityC (many : Nat) (zone change way : Int) : City := ⟨many, List.replicate many zone, List.replicate many change, sameT way, sameT way⟩
def rLCity (ds : List Dt) (d : Dt) : Prop := ∃ (many : Nat) (zone change way : Int), many ≤ 100 ∧ ds = [.int ((many : Nat) : Int), .int zone, .int change, .int way] ∧ d = (cityC many zone change way).d
theorem f_lcity (C1 : Cal P w K mg base 1 "_law_table" ["many", "number", "one", "other", "between"] sLTable (spD K rLTable)) (F : Fun K "_law_city" "_law_city" sLCity f fd) : FnG P w K mg base 2 f fd ["many", "zone", "change", "way"] (spD K rLCity) := by
  refine fn_data F scLCity (fun ds d ⟨_, _, _, _, _, e, _⟩ => by subst e; rfl) fun cdv A outer s H E hr hgd hu ds d h => ?_
  obtain ⟨many, zone, change, way, m2, rfl, rfl⟩ := h
  have hN := scLCity.nd
  and_intros
  refine ⟨by simp, ?_⟩
  and_intros
  refine bp_repA (by simp) (by simp) (by omega) (by omega) ?_
  and_intros
  refine ⟨by simp, ?_⟩
  and_intros
  refine bp_repA (by simp) (by simp) (by omega) (by omega) ?_
  and_intros
  refine ⟨_, ⟨many, 0, way, 0, m2, rfl, rfl⟩, ?_⟩
  and_intros
  refine ⟨_, ⟨many, 0, way, 0, m2, rfl, rfl⟩, ?_⟩
  and_intros
  rw [tab_same, rep_ints, rep_ints, show ((many : Nat) : Int).toNat = many by omega]
  refine ⟨by simp, ?_⟩
  rfl
theorem scLLine : FnScope ["hops", "least", "stand", "apart", "stop"] ["hops", "least", "stand", "apart"] (defScope sLLine) := ⟨rfl, rfl, rfl, by decide +kernel, rfl, by decide +kernel, by decide +kernel⟩
def lineL (hops : Nat) (least stand apart : Int) : Line := ⟨(List.range (hops + 1)).map fun i => ((i : Nat) : Int) % 2, List.replicate hops least, List.replicate (hops - 1) stand, apart⟩
def rLLine (ds : List Dt) (d : Dt) : Prop := ∃ (hops : Nat) (least stand apart : Int), 1 ≤ hops ∧ hops ≤ 100 ∧ ds = [.int ((hops : Nat) : Int), .int least, .int stand, .int apart] ∧ d = (lineL hops least stand apart).d
theorem f_lline (T : Free mg) (F : Fun K "_law_line" "_law_line" sLLine f fd) : FnG P w K mg base 1 f fd ["hops", "least", "stand", "apart"] (spD K rLLine) := by
  refine fn_data F scLLine (fun ds d ⟨_, _, _, _, _, _, e, _⟩ => by subst e; rfl) fun cdv A outer s H E hr hgd hu ds d h => ?_
  obtain ⟨hops, least, stand, apart, h1, m2, rfl, rfl⟩ := h
  have hN := scLLine.nd
  and_intros
  refine c_comp (α := Nat) [("stop", 4)] (blkOk_by (N := ["hops", "least", "stand", "apart", "stop"]) (sc := defScope sLLine) (by decide +kernel)) ?_
  and_intros
  refine ⟨by omega, List.range (hops + 1), fun j => .int (0 + ((j : Nat) : Int)), fun j => .int (((j : Nat) : Int) % 2), by unfold rngD; rw [show (((hops : Nat) : Int) + 1).toNat = hops + 1 by omega], by rw [List.length_range]; omega, fun i j hj => ?_, ?_⟩
  · refine ⟨_, fun s H C cl fp => by nofun, fun s H C cl fp => ?_⟩
    dsimp only
    rw [show (0 : Int) + ((j : Nat) : Int) = ((j : Nat) : Int) by omega]
    infer_instance
    refine c_intc ?_
    infer_instance
    refine f_int ?_
    infer_instance
    refine bp_mod (by omega) rfl
  and_intros
  refine ⟨by simp, ?_⟩
  and_intros
  refine bp_repA (by simp) (by simp) (by omega) (by omega) ?_
  and_intros
  refine ⟨by simp, ?_⟩
  and_intros
  refine bp_repA (by simp) (by simp) (by omega) (by omega) ?_
  and_intros
  rw [rep_ints, rep_ints, show ((hops : Nat) : Int).toNat = hops by omega, show (((hops : Nat) : Int) - 1).toNat = hops - 1 by omega]
  unfold lineL Line.d intsT
  rw [List.map_map]
  refine ⟨by simp, ?_⟩
  rfl
end
end K19

set_option linter.all false
set_option maxRecDepth 100000
set_option maxHeartbeats 4000000
namespace K19
open PySem PySem.Spec PyProof.Rows L2 RZ Dv PySem.W
open LamX (LamS lamEnv lamCx CodeO TabB ExtN Tabs)
variable [Tbl]
abbrev sLHeard : Stmt := at_def "_law_heard"
structure Hear (K : Fg) (mg : Str → Option Value) (C1 f1 C2 f2 C3 f3 C4 f4 C5 f5 : Addr) : Prop where
  e1 : ErrTxt K mg "InvalidTable" "InvalidTable.__init__" C1 f1
  e2 : ErrTxt K mg "InvalidMinute" "InvalidMinute.__init__" C2 f2
  e3 : ErrTxt K mg "InvalidEvery" "InvalidEvery.__init__" C3 f3
  e4 : ErrTxt K mg "InvalidMany" "InvalidMany.__init__" C4 f4
  e5 : ErrTxt2 K mg "TooMany" "TooMany.__init__" C5 f5
  far21 : PySem.W.exmOne K (.ref C2) (.ref C1) = some false
  far31 : PySem.W.exmOne K (.ref C3) (.ref C1) = some false
  far32 : PySem.W.exmOne K (.ref C3) (.ref C2) = some false
  far41 : PySem.W.exmOne K (.ref C4) (.ref C1) = some false
  far42 : PySem.W.exmOne K (.ref C4) (.ref C2) = some false
  far43 : PySem.W.exmOne K (.ref C4) (.ref C3) = some false
  far51 : PySem.W.exmOne K (.ref C5) (.ref C1) = some false
  far52 : PySem.W.exmOne K (.ref C5) (.ref C2) = some false
  far53 : PySem.W.exmOne K (.ref C5) (.ref C3) = some false
  far54 : PySem.W.exmOne K (.ref C5) (.ref C4) = some false
def hW (s : Str) (v : Dt) : Dt := .list [.str s, .str v.shown]
def hT : Dt → Dt
  | .dict [(_, a), (_, b)] => .list [.str "too many", a, b]
  | _ => .none
abbrev Vd (x : Dt) : Prop := OkD x 390000 40 ∧ one x = true
theorem scLHeard : FnScope gN ["call"] (defScope sLHeard) := ⟨rfl, rfl, rfl, by decide +kernel, rfl, by decide +kernel, by decide +kernel⟩
theorem nx2 : Nx gN "e" 2 := by repeat (first | exact Nx.z | apply Nx.s)
theorem nx1 : Nx gN "told" 1 := by repeat (first | exact Nx.z | apply Nx.s)
section
variable {X : Cx} {C1 f1 C2 f2 C3 f3 C4 f4 C5 f5 : Addr} {k : Nat} {q : Str}
abbrev hL (C1 C2 C3 C4 C5 : Addr) : List Clause := [⟨C1, hW "table", Vd⟩, ⟨C2, hW "minute", Vd⟩, ⟨C3, hW "every", Vd⟩, ⟨C4, hW "many", Vd⟩, ⟨C5, hT, fun x => ∃ a b, x = err2 a b⟩]
def Tells (S : Dt → Prop) (cn : Str) (y : Dt) : Prop := (cn = "InvalidTable" ∧ Vd y ∧ S (hW "table" y)) ∨ (cn = "InvalidMinute" ∧ Vd y ∧ S (hW "minute" y)) ∨ (cn = "InvalidEvery" ∧ Vd y ∧ S (hW "every" y)) ∨ (cn = "InvalidMany" ∧ Vd y ∧ S (hW "many" y)) ∨ (cn = "TooMany" ∧ ∃ a b, y = err2 a b ∧ S (.list [.str "too many", a, b]))
theorem giv (T : Free X.mg) (Hr : Hear X.K X.mg C1 f1 C2 f2 C3 f3 C4 f4 C5 f5) (rm : Room (k + 1) X.A) (gd : X.A.guards = some []) {R S : Dt → Prop} {ox : Str → Dt → Prop} (hv : ∀ d, R d → S d)
    (hx : ∀ cn y, ox cn y → Tells S cn y) (g : Addr) (cdg : Value) :
    Gives X gN "_law_heard" sLHeard g cdg "call" q (TTh X.K X.mg R ox S) := by
  refine giveB (L := hL C1 C2 C3 C4 C5) (hd1 := _) (hdr := _) (by rfl) scLHeard (.inl rfl) rfl rfl (fun s H => ?_) hv (fun cn y h => ?_)
  · have rm1 := rm.deeper (envOfC "_law_heard" (defScope sLHeard) s.heap.objs.size g cdg)
    refine NmOk.cons ⟨rfl, by decide, .inl Hr.e1.gC⟩ (suite_ok ⟨C1, hW "table", Vd⟩ scLHeard.nd nx2 nx1 (fun x hx a oe cls d pn hh => ?_)) (NmOk.cons ⟨rfl, by decide, .inl Hr.e2.gC⟩ (suite_ok ⟨C2, hW "minute", Vd⟩ scLHeard.nd nx2 nx1 (fun x hx a oe cls d pn hh => ?_)) (NmOk.cons ⟨rfl, by decide, .inl Hr.e3.gC⟩ (suite_ok ⟨C3, hW "every", Vd⟩ scLHeard.nd nx2 nx1 (fun x hx a oe cls d pn hh => ?_)) (NmOk.cons ⟨rfl, by decide, .inl Hr.e4.gC⟩ (suite_ok ⟨C4, hW "many", Vd⟩ scLHeard.nd nx2 nx1 (fun x hx a oe cls d pn hh => ?_)) (NmOk.cons ⟨rfl, by decide, .inl Hr.e5.gC⟩ (suite_ok ⟨C5, hT, fun x => ∃ a b, x = err2 a b⟩ scLHeard.nd nx2 nx1 (fun x hx a oe cls d pn hh => ?_)) (NmOk.nil)))))
    · obtain ⟨ok, on⟩ : Vd x := hx
      exact ye_lst (ya_c (ye_of (c_str rfl)) (ya_c (ye_fn1 (X := _) rfl (by decide +kernel) (ye_val hh ⟨_, _, _, _, Hr.e1⟩ (f_repr gd rm1.units ok rfl) on)) ya_n))
    · obtain ⟨ok, on⟩ : Vd x := hx
      exact ye_lst (ya_c (ye_of (c_str rfl)) (ya_c (ye_fn1 (X := _) rfl (by decide +kernel) (ye_val hh ⟨_, _, _, _, Hr.e2⟩ (f_repr gd rm1.units ok rfl) on)) ya_n))
    · obtain ⟨ok, on⟩ : Vd x := hx
      exact ye_lst (ya_c (ye_of (c_str rfl)) (ya_c (ye_fn1 (X := _) rfl (by decide +kernel) (ye_val hh ⟨_, _, _, _, Hr.e3⟩ (f_repr gd rm1.units ok rfl) on)) ya_n))
    · obtain ⟨ok, on⟩ : Vd x := hx
      exact ye_lst (ya_c (ye_of (c_str rfl)) (ya_c (ye_fn1 (X := _) rfl (by decide +kernel) (ye_val hh ⟨_, _, _, _, Hr.e4⟩ (f_repr gd rm1.units ok rfl) on)) ya_n))
    · obtain ⟨a2, b2, rfl⟩ : ∃ a b, x = err2 a b := hx
      exact ye_lst (ya_c (ye_of (c_str rfl)) (ya_c (ye_what hh ⟨_, _, _, _, Hr.e5⟩ rfl) (ya_c (ye_limit hh ⟨_, _, _, _, Hr.e5⟩ rfl) ya_n)))
  · rcases hx cn y h with ⟨rfl, hv, hS⟩ | ⟨rfl, hv, hS⟩ | ⟨rfl, hv, hS⟩ | ⟨rfl, hv, hS⟩ | ⟨rfl, a2, b2, rfl, hS⟩
    · exact ⟨0, _, rfl, Hr.e1.gC, hv, hS, (fun t c2 ht e => by
        exact absurd ht (Nat.not_lt_zero _)), Hr.e1.te⟩
    · exact ⟨1, _, rfl, Hr.e2.gC, hv, hS, (fun t c2 ht e => by
        have h5 : t = 0 := by omega
        subst h5; cases e; exact Hr.far21), Hr.e2.te⟩
    · exact ⟨2, _, rfl, Hr.e3.gC, hv, hS, (fun t c2 ht e => by
        have h5 : t = 0 ∨ t = 1 := by omega
        rcases h5 with rfl | rfl <;> cases e
        · exact Hr.far31
        · exact Hr.far32), Hr.e3.te⟩
    · exact ⟨3, _, rfl, Hr.e4.gC, hv, hS, (fun t c2 ht e => by
        have h5 : t = 0 ∨ t = 1 ∨ t = 2 := by omega
        rcases h5 with rfl | rfl | rfl <;> cases e
        · exact Hr.far41
        · exact Hr.far42
        · exact Hr.far43), Hr.e4.te⟩
    · exact ⟨4, _, rfl, Hr.e5.gC, ⟨_, _, rfl⟩, hS, (fun t c2 ht e => by
        have h5 : t = 0 ∨ t = 1 ∨ t = 2 ∨ t = 3 := by omega
        rcases h5 with rfl | rfl | rfl | rfl <;> cases e
        · exact Hr.far51
        · exact Hr.far52
        · exact Hr.far53
        · exact Hr.far54), Hr.e5.te⟩
end
end K19

set_option linter.all false
set_option maxRecDepth 100000
set_option maxHeartbeats 4000000
namespace K19
open PySem PySem.Spec PyProof.Rows L2 RZ Dv
variable [Tbl]
theorem same_closed {n : Nat} {way b : Int} (h1 : 1 ≤ way) (h2 : way ≤ b) : Closed n b (sameT way) := by
  refine ⟨⟨fun i j _ _ => ?_, fun i _ => by unfold sameT; rw [if_pos rfl], fun i j _ _ ne => by unfold sameT; rw [if_neg ne]; exact ⟨h1, h2⟩⟩, fun i j k _ _ _ => ?_⟩
  · unfold sameT
    by_cases h : i = j
    · rw [if_pos h, if_pos h.symm]
    · rw [if_neg h, if_neg (fun z => h z.symm)]
  · have ss : ∀ a b : Nat, (a = b ∧ sameT way a b = 0) ∨ (a ≠ b ∧ sameT way a b = way) := fun a b => by
      unfold sameT
      by_cases e : a = b
      · exact .inl ⟨e, if_pos e⟩
      · exact .inr ⟨e, if_neg e⟩
    rcases ss i j with ⟨a1, a2⟩ | ⟨a1, a2⟩ <;> rcases ss i k with ⟨b1, b2⟩ | ⟨b1, b2⟩ <;> rcases ss k j with ⟨c1, c2⟩ | ⟨c1, c2⟩ <;> omega
theorem tab_cs (number : Int) (other : Nat) (between : Int) (i j : Nat) : (i = j ∧ tabT number other between i j = 0) ∨ (i ≠ j ∧ ((i = 0 ∧ j = other) ∨ (j = 0 ∧ i = other)) ∧ tabT number other between i j = between) ∨ (i ≠ j ∧ ¬ ((i = 0 ∧ j = other) ∨ (j = 0 ∧ i = other)) ∧ tabT number other between i j = number) := by
  unfold tabT
  by_cases e : i = j
  · exact .inl ⟨e, if_pos e⟩
  · by_cases a : (i = 0 ∧ j = other) ∨ (j = 0 ∧ i = other)
    · exact .inr (.inl ⟨e, a, by rw [if_neg e, if_pos a]⟩)
    · exact .inr (.inr ⟨e, a, by rw [if_neg e, if_neg a]⟩)
structure TIn (n other : Nat) (number between : Int) : Prop where
  n3 : 3 ≤ n
  n12 : n ≤ 12
  o1 : 1 ≤ other
  on : other < n
  m1 : 1 ≤ number
  m60 : number ≤ 60
  b1 : 1 ≤ between
theorem tab_way {n other : Nat} {number between : Int} (h : TIn n other number between) (hb : between ≤ 120) : Way n 120 (tabT number other between) := by
  obtain ⟨n3, n12, o1, on, m1, m60, b1⟩ := h
  refine ⟨fun i j _ _ => ?_, fun i _ => by unfold tabT; rw [if_pos rfl], fun i j _ _ ne => ?_⟩
  · rcases tab_cs number other between i j with ⟨a1, a2⟩ | ⟨a1, a2, a3⟩ | ⟨a1, a2, a3⟩ <;> rcases tab_cs number other between j i with ⟨b1, b2⟩ | ⟨b1, b2, b3⟩ | ⟨b1, b2, b3⟩ <;> omega
  · rcases tab_cs number other between i j with ⟨a1, a2⟩ | ⟨a1, a2, a3⟩ | ⟨a1, a2, a3⟩ <;> omega
theorem tab_tri {n other : Nat} {number between : Int} (h : TIn n other number between) (hb : between ≤ 2 * number) (i j k : Nat) : tabT number other between i j ≤ tabT number other between i k + tabT number other between k j := by
  obtain ⟨n3, n12, o1, on, m1, m60, b1⟩ := h
  rcases tab_cs number other between i j with ⟨a1, a2⟩ | ⟨a1, a2, a3⟩ | ⟨a1, a2, a3⟩ <;> rcases tab_cs number other between i k with ⟨b1, b2⟩ | ⟨b1, b2, b3⟩ | ⟨b1, b2, b3⟩ <;> rcases tab_cs number other between k j with ⟨c1, c2⟩ | ⟨c1, c2, c3⟩ | ⟨c1, c2, c3⟩ <;> omega
theorem tab_closed {n other : Nat} {number between : Int} (h : TIn n other number between) (hb : between ≤ 120) (h2 : between ≤ 2 * number) : Closed n 120 (tabT number other between) := ⟨tab_way h hb, fun i j k _ _ _ => tab_tri h h2 i j k⟩
theorem w_yes {n other : Nat} {number between : Int} (h : TIn n other number between) (hb : between ≤ 120) : waysB (tabD n (tabT number other between)) = true := ways_ok (tab_way h hb) (by have := h.n3; omega) h.n12
theorem at_o {n other : Nat} {number between : Int} (h : TIn n other number between) : tabT number other between 0 other = between := by
  have := h.o1
  rcases tab_cs number other between 0 other with ⟨a1, a2⟩ | ⟨a1, a2, a3⟩ | ⟨a1, a2, a3⟩ <;> omega
theorem w_no {n other : Nat} {number between : Int} (h : TIn n other number between) (hb : ¬ between ≤ 120) : waysB (tabD n (tabT number other between)) = false := by
  cases z : waysB (tabD n (tabT number other between)) with
  | false => rfl
  | true =>
    have t := (tab_of (ways_tab z)).b 0 other (by rw [sz_tab]; have := h.n3; omega) (by rw [sz_tab]; exact h.on)
    rw [mat_tab (by have := h.n3; omega) h.on, at_o h] at t
    exact absurd t.2 hb
theorem c_of_w {v : Dt} (h : waysB v = false) : closedB v = false := by unfold closedB; rw [h]; rfl
theorem c_yes {n other : Nat} {number between : Int} (h : TIn n other number between) (hb : between ≤ 120) (h2 : between ≤ 2 * number) : closedB (tabD n (tabT number other between)) = true := closed_ok (tab_closed h hb h2) (by have := h.n3; omega) h.n12
theorem third {n other : Nat} (h : 3 ≤ n) : ∃ k, k < n ∧ k ≠ 0 ∧ k ≠ other := by
  by_cases e : other = 1
  · exact ⟨2, by omega, by omega, by omega⟩
  · exact ⟨1, by omega, by omega, fun z => e z.symm⟩
theorem at_k {n other : Nat} {number between : Int} {i j : Nat} (h : TIn n other number between) (h1 : i ≠ j) (h2 : ¬ ((i = 0 ∧ j = other) ∨ (j = 0 ∧ i = other))) : tabT number other between i j = number := by
  rcases tab_cs number other between i j with ⟨a1, a2⟩ | ⟨a1, a2, a3⟩ | ⟨a1, a2, a3⟩ <;> omega
theorem c_no {n other : Nat} {number between : Int} (h : TIn n other number between) (h2 : ¬ between ≤ 2 * number) : closedB (tabD n (tabT number other between)) = false := by
  cases z : closedB (tabD n (tabT number other between)) with
  | false => rfl
  | true =>
    obtain ⟨k, k1, k2, k3⟩ := third (other := other) h.n3
    have n0 : 0 < n := by have := h.n3; omega
    unfold closedB at z
    rw [Bool.and_eq_true, sz_tab, List.all_eq_true] at z
    have z2 := z.2 0 (List.mem_range.mpr n0)
    rw [List.all_eq_true] at z2
    have z3 := z2 other (List.mem_range.mpr h.on)
    unfold shortW at z3
    rw [List.all_eq_true] at z3
    have z4 := of_decide_eq_true (z3 k (List.mem_range.mpr k1))
    rw [mat_tab n0 h.on, mat_tab n0 k1, mat_tab k1 h.on, at_o h] at z4
    have := h.o1
    have e1 : tabT number other between 0 k = number := at_k h (by omega) (by omega)
    have e2 : tabT number other between k other = number := at_k h (by omega) (by omega)
    omega
theorem tab_close {n other : Nat} {number between : Int} (h : TIn n other number between) (hb : between ≤ 120) : tabD (szD (tabD n (tabT number other between))) (closeL (szD (tabD n (tabT number other between))) (matOf (tabD n (tabT number other between)))) = tabD n (tabT number other (min between (2 * number))) := by
  rw [sz_tab]
  have hm : TIn n other number (min between (2 * number)) := ⟨h.n3, h.n12, h.o1, h.on, h.m1, h.m60, by have := h.b1; have := h.m1; omega⟩
  have cl := tab_closed hm (by omega) (by omega)
  have eA : ∀ i j, i < n → j < n → matOf (tabD n (tabT number other between)) i j = tabT number other between i j := fun i j hi hj => mat_tab hi hj
  have one : ∀ i j, i < n → j < n → Wk n (matOf (tabD n (tabT number other between))) i j (tabT number other between i j) := fun i j hi hj => by
    have := Wk.snoc hi hj (Wk.nil (n := n) (A := matOf (tabD n (tabT number other between))) i)
    rw [Int.zero_add, eA i j hi hj] at this
    exact this
  have le : ∀ i j, tabT number other (min between (2 * number)) i j ≤ tabT number other between i j := fun i j => by
    rcases tab_cs number other between i j with ⟨a1, a2⟩ | ⟨a1, a2, a3⟩ | ⟨a1, a2, a3⟩ <;> rcases tab_cs number other (min between (2 * number)) i j with ⟨b1, b2⟩ | ⟨b1, b2, b3⟩ | ⟨b1, b2, b3⟩ <;> omega
  have m1 := h.m1
  have o1 := h.o1
  have g : Good n (matOf (tabD n (tabT number other between))) (tabT number other (min between (2 * number))) := by
    refine ⟨fun i j hi hj => by rw [eA i j hi hj]; exact le i j, cl.way.dia, fun i j hi hj ne => (cl.way.pos i j hi hj ne).1, fun i j hi hj => ?_⟩
    by_cases e : tabT number other (min between (2 * number)) i j = tabT number other between i j
    · rw [e]; exact one i j hi hj
    · have hs : i ≠ j ∧ ((i = 0 ∧ j = other) ∨ (j = 0 ∧ i = other)) ∧ 2 * number < between := by
        rcases tab_cs number other between i j with ⟨a1, a2⟩ | ⟨a1, a2, a3⟩ | ⟨a1, a2, a3⟩ <;> rcases tab_cs number other (min between (2 * number)) i j with ⟨b1, b2⟩ | ⟨b1, b2, b3⟩ | ⟨b1, b2, b3⟩ <;> first | (exact ⟨a1, a2, by omega⟩) | omega
      obtain ⟨h1, h2, h3⟩ := hs
      obtain ⟨k, k1, k2, k3⟩ := third (other := other) h.n3
      have := (one i k hi k1).cat (one k j k1 hj)
      have e1 : tabT number other between i k = number := at_k h (by omega) (by omega)
      have e2 : tabT number other between k j = number := at_k h (by omega) (by omega)
      have e3 : tabT number other (min between (2 * number)) i j = number + number := by
        rcases tab_cs number other (min between (2 * number)) i j with ⟨b1, b2⟩ | ⟨b1, b2, b3⟩ | ⟨b1, b2, b3⟩ <;> omega
      rw [e1, e2] at this
      rw [e3]; exact this
  have f : Fin1 n (matOf (tabD n (tabT number other between))) (tabT number other (min between (2 * number))) := fun i j k hi hj hk => by
    rw [eA k j hk hj]
    have := tab_tri hm (by omega) i j k
    have := le k j
    omega
  exact tabD_congr fun i j hi hj => close_eq ⟨g.wk i j hi hj, fun u a => least_walk g f hi a⟩
theorem city_yes {many : Nat} {zone change way : Int} (n1 : 1 ≤ many) (n2 : many ≤ 12) (z1 : 1 ≤ zone) (z2 : zone ≤ 4) (c1 : 0 ≤ change) (c2 : change ≤ 9) (w1 : 1 ≤ way) (w2 : way ≤ 120) : (cityC many zone change way).ok := by
  refine ⟨n1, n2, List.length_replicate, fun z hz => ?_, List.length_replicate, fun z hz => ?_, same_closed w1 w2, same_closed w1 w2⟩
  · rw [(List.mem_replicate.mp hz).2]; exact ⟨z1, z2⟩
  · rw [(List.mem_replicate.mp hz).2]; exact ⟨c1, c2⟩
theorem city_b {many : Nat} {zone change way : Int} (n1 : 1 ≤ many) (n2 : many ≤ 12) (z1 : 1 ≤ zone) (z2 : zone ≤ 4) (c1 : 0 ≤ change) (c2 : change ≤ 9) (w1 : 1 ≤ way) (w2 : way ≤ 120) : cityB (cityC many zone change way).d = true := city_ok (city_yes n1 n2 z1 z2 c1 c2 w1 w2)
theorem big_no : cityB (cityC 13 1 0 1).d = false := by decide +kernel
theorem few_no {many : Nat} (h1 : 2 ≤ many) (h2 : many ≤ 4) : cityB (cityC many 5 0 1).d = false ∧ cityB (cityC many 0 0 1).d = false ∧ cityB (cityC many 1 10 1).d = false ∧ cityB (cityC many 1 0 121).d = false ∧ cityB (cityC many 1 0 0).d = false := by
  obtain rfl | rfl | rfl : many = 2 ∨ many = 3 ∨ many = 4 := by omega
  · decide +kernel
  · decide +kernel
  · decide +kernel
def rowsC (many : Nat) : List ((Nat × Int × Int × Int) × Bool) := [((12, 4, 9, 120), true), ((13, 1, 0, 1), false), ((1, 1, 0, 1), true), ((many, 4, 9, 120), true), ((many, 5, 0, 1), false), ((many, 0, 0, 1), false), ((many, 1, 10, 1), false), ((many, 1, 0, 121), false), ((many, 1, 0, 0), false), ((many, 1, 0, 1), true)]
def cD (x : (Nat × Int × Int × Int) × Bool) : Dt := .tuple [(cityC x.1.1 x.1.2.1 x.1.2.2.1 x.1.2.2.2).d, .bool x.2]
theorem rows_ok {many : Nat} (h1 : 2 ≤ many) (h2 : many ≤ 4) : ∀ x ∈ rowsC many, cityB (cityC x.1.1 x.1.2.1 x.1.2.2.1 x.1.2.2.2).d = x.2 := fun x hx => by
  obtain ⟨f1, f2, f3, f4, f5⟩ := few_no h1 h2
  simp only [rowsC, List.mem_cons, List.not_mem_nil, or_false] at hx
  rcases hx with rfl | rfl | rfl | rfl | rfl | rfl | rfl | rfl | rfl | rfl
  · dsimp only
    exact city_b (by omega) (by omega) (by omega) (by omega) (by omega) (by omega) (by omega) (by omega)
  · exact big_no
  · dsimp only
    exact city_b (by omega) (by omega) (by omega) (by omega) (by omega) (by omega) (by omega) (by omega)
  · dsimp only
    exact city_b (by omega) (by omega) (by omega) (by omega) (by omega) (by omega) (by omega) (by omega)
  · exact f1
  · exact f2
  · exact f3
  · exact f4
  · exact f5
  · dsimp only
    exact city_b (by omega) (by omega) (by omega) (by omega) (by omega) (by omega) (by omega) (by omega)
theorem bigT_w : waysB (tabD 13 (tabT 1 0 0)) = false := by decide +kernel
end K19

set_option linter.all false
set_option maxRecDepth 100000
set_option maxHeartbeats 4000000
namespace K19
open PySem PySem.Spec PyProof.Rows L2 RZ Dv PySem.W
open LamX (LamS lamEnv lamCx CodeO TabB ExtN Tabs)
variable [Tbl]
abbrev sLCR : Stmt := at_def "_law_cities_right"
structure HeardD (K : Fg) (mg : Str → Option Value) : Prop where
  ex : ∃ (g : Addr) (fd : FuncData), mg "_law_heard" = some (.ref g) ∧ PySem.W.keepIn K (.ref g) = true ∧ Binds K fd ["call"] [] ∧ Fun K "_law_heard" "_law_heard" sLHeard g fd
theorem okd_shown {v : Dt} {b k : Nat} (h : OkD v b k) (s : sok v = true) : OkD (.str v.shown) (42 * b + 40) 0 := by
  have so := sok_shown s
  have l := PyData.shown_le_bulk 40 (by decide) v h.sh
  have hb := h.bk
  have l2 : v.shown.cps.size ≤ 42 * b + 40 := by
    have l : v.shown.cps.size ≤ (40 + 2) * v.bulk + 40 := l
    omega
  refine (okd_str ?_).mono l2 (Nat.le_refl _)
  rw [List.all_eq_true]
  intro c hc
  unfold PyData.strOk at so
  rw [Array.all_eq_true'] at so
  have := of_decide_eq_true (so c (by simpa using hc))
  exact decide_eq_true (by omega)
theorem sok_ints : ∀ {ns : List Int}, sokAll (ns.map PyData.int) = true
  | [] => rfl
  | _ :: ns => by show (true && sokAll (ns.map PyData.int)) = true; rw [sok_ints]; rfl
theorem sok_all : ∀ {es : List Dt}, (∀ d ∈ es, sok d = true) → sokAll es = true
  | [], _ => rfl
  | e :: es, h => by
    show (sok e && sokAll es) = true
    rw [h e (List.mem_cons_self ..), sok_all fun d hd => h d (List.mem_cons_of_mem _ hd)]; rfl
theorem sok_tab {n : Nat} {T : Nat → Nat → Int} : sok (tabD n T) = true := sok_all fun d hd => by
  obtain ⟨i, _, rfl⟩ := List.mem_map.mp hd
  show sokAll (rowD n T i) = true
  rw [row_ints]
  exact sok_ints
theorem okd_tab {n : Nat} {T : Nat → Nat → Int} (hn : n ≤ 13) (h : ∀ i j, (T i j).natAbs < 10 ^ 38) : OkD (tabD n T) 182 2 := (okd_tuple (n := 13) (b := 13) (k := 1) (fun d hd => by
  obtain ⟨i, _, rfl⟩ := List.mem_map.mp hd
  refine (okd_tuple (n := 13) (b := 0) (k := 0) (fun e he => ?_) ?_).mono
  · obtain ⟨j, _, rfl⟩ := List.mem_map.mp he
    exact okd_int (h i j)
  · unfold rowD; rw [List.length_map, List.length_range]; exact hn) (by rw [List.length_map, List.length_range]; exact hn)).mono
theorem tab_abs {other : Nat} {number between : Int} (h1 : 0 ≤ number) (h2 : number ≤ 200) (h3 : 0 ≤ between) (h4 : between ≤ 200) (i j : Nat) : (tabT number other between i j).natAbs < 10 ^ 38 := by
  rcases tab_cs number other between i j with ⟨_, e⟩ | ⟨_, _, e⟩ | ⟨_, _, e⟩ <;> omega
theorem okd_told {s : Str} {v : Dt} (hs : (s.cps.toList.all fun c => decide (c < 16 ^ 8)) = true) (hl : s.cps.size ≤ 10) (h : OkD v 182 2) (so : sok v = true) : OkD (.list [.str s, .str v.shown]) 20000 1 := (okd_list (n := 2) (b := 8000) (k := 0) (fun d hd => by
  simp only [List.mem_cons, List.not_mem_nil, or_false] at hd
  rcases hd with rfl | rfl
  · exact (okd_str hs).mono
  · exact (okd_shown h so).mono)).mono
theorem ok3 {a b : Bool} {d : Dt} (h : OkD d 20000 4) : OkD (.list [.bool a, .bool b, d]) 390000 40 := (okd_list (n := 3) (b := 20000) (k := 4) (fun x hx => by
  simp only [List.mem_cons, List.not_mem_nil, or_false] at hx
  rcases hx with rfl | rfl | rfl
  · exact okd_bool.mono
  · exact okd_bool.mono
  · exact h)).mono
theorem ok_bools {bs : List Bool} (h : bs.length ≤ 100) : OkD (.list (bs.map PyData.bool)) 390000 40 := (okd_list (n := 100) (b := 0) (k := 0) (fun x hx => by
  obtain ⟨b, _, rfl⟩ := List.mem_map.mp hx
  exact okd_bool) (by rw [List.length_map]; exact h)).mono
theorem tells_t {S : Dt → Prop} {x : Dt} (hv : Vd x) (h : S (hW "table" x)) : ∀ (cn : Str) (y : Dt), (cn = "InvalidTable" ∧ y = x) → Tells S cn y := fun cn y ⟨e1, e2⟩ => by subst e2; exact .inl ⟨e1, hv, h⟩
theorem tells_m {S : Dt → Prop} {x : Dt} (hv : Vd x) (h : S (hW "minute" x)) : ∀ (cn : Str) (y : Dt), (cn = "InvalidMinute" ∧ y = x) → Tells S cn y := fun cn y ⟨e1, e2⟩ => by subst e2; exact .inr (.inl ⟨e1, hv, h⟩)
theorem tells_e {S : Dt → Prop} {x : Dt} (hv : Vd x) (h : S (hW "every" x)) : ∀ (cn : Str) (y : Dt), (cn = "InvalidEvery" ∧ y = x) → Tells S cn y := fun cn y ⟨e1, e2⟩ => by subst e2; exact .inr (.inr (.inl ⟨e1, hv, h⟩))
theorem tells_n {S : Dt → Prop} {x : Dt} (hv : Vd x) (h : S (hW "many" x)) : ∀ (cn : Str) (y : Dt), (cn = "InvalidMany" ∧ y = x) → Tells S cn y := fun cn y ⟨e1, e2⟩ => by subst e2; exact .inr (.inr (.inr (.inl ⟨e1, hv, h⟩)))
theorem tells_2 {S : Dt → Prop} {a b : Dt} (h : S (.list [.str "too many", a, b])) : ∀ (cn : Str) (y : Dt), (cn = "TooMany" ∧ y = err2 a b) → Tells S cn y := fun cn y ⟨e1, e2⟩ => by subst e2; exact .inr (.inr (.inr (.inr ⟨e1, a, b, rfl, h⟩)))
def dueD (n other : Nat) (number between : Int) : Dt := if between ≤ 120 then tabD n (tabT number other (min between (2 * number))) else hW "table" (tabD n (tabT number other between))
section
variable {P : Program} {w : World} {K : Fg} {mg : Str → Option Value} {base : Heap} {f : Addr} {fd : FuncData}
abbrev NCr : List Str := ["pot", "many", "rows", "one", "other", "number", "between", "is_way_v", "is_short", "table", "due", "big", "city"]
theorem scLCR : FnScope NCr ["pot"] (defScope sLCR) := ⟨rfl, rfl, rfl, by decide +kernel, rfl, by decide +kernel, by decide +kernel⟩
def rLCR (ds : List Dt) (U : Dt → Prop) : Prop := ds = [] ∧ U = fun d => d = .bool true
theorem f_lcr {C1' f1 C2' f2 C3' f3 C4' f4 C5' f5 cc P0 : Addr} (T : Free mg) (Hr : Hear K mg C1' f1 C2' f2 C3' f3 C4' f4 C5' f5) (Hd : HeardD K mg) (hcode : fd.code = .ref cc) (TB : TabB base mg cc P0) (hmT : (P0, lq "_law_cities_right") ∈ Tbl.ts) (hu0 : ∀ p ∈ Tbl.ts, p.1 = P0 → p.2 = lq "_law_cities_right")
    (C1 : Cal P w K mg base 1 "_law_draw" ["pot", "many"] sLDraw (spP K rLDraw)) (C2 : Cal P w K mg base 1 "_law_table" ["many", "number", "one", "other", "between"] sLTable (spD K rLTable)) (C3 : Cal P w K mg base 2 "_law_city" ["many", "zone", "change", "way"] sLCity (spD K rLCity)) (C4 : Cal P w K mg base 6 "is_city" ["value"] sIsCity (spD K rIsCity)) (C5 : Cal P w K mg base 4 "is_way_table" ["value"] sWayTable (spD K rWayTable)) (C6 : Cal P w K mg base 5 "is_closed" ["value"] sIsClosed (spD K rIsClosed)) (C7 : Cal P w K mg base 5 "closed" ["table"] sClosed (spD K rClosed)) (C8 : CalX P w K mg base 5 "closed" ["table"] sClosed (spX K mg rClosedX)) (F : Fun K "_law_cities_right" "_law_cities_right" sLCR f fd) : FnG P w K mg base 13 f fd ["pot"] (spP K rLCR) := by
  refine fn_potC F scLCR (fun ds U ⟨e, _⟩ => by subst e; rfl) fun A outer s H E hr hgd hu ds U h => ?_
  obtain ⟨rfl, rfl⟩ := h
  have hN := scLCR.nd
  obtain ⟨g, fdg, hm, hk, bd, Fg⟩ := Hd.ex
  refine s_st (by repeat (first | exact StR.nil | apply StR.d | apply StR.no)) ?_
  refine s_eq (by conv => { lhs; whnf }) ?_
  infer_instance
  infer_instance
  infer_instance
  refine c_pot C1 (i := 0) (by repeat (first | exact Nx.z | apply Nx.s)) rfl ?_
  and_intros
  refine ⟨_, ⟨3, by omega, by omega, rfl, rfl⟩, fun d ⟨i, e, g1, g2⟩ => ?_⟩
  subst e
  obtain ⟨m, rfl⟩ := Int.eq_ofNat_of_zero_le g1
  obtain ⟨many, hmany⟩ : ∃ many : Nat, many = 2 + m := ⟨_, rfl⟩
  have m1 : 2 ≤ many := by omega
  have m4 : many ≤ 4 := by omega
  infer_instance
  rw [show (2 : Int) + ((m : Nat) : Int) = ((many : Nat) : Int) by omega]
  clear hmany g1 g2
  and_intros
  refine ⟨_, ⟨12, 4, 9, 120, by omega, rfl, rfl⟩, ?_⟩
  and_intros
  refine ⟨by simp, ?_⟩
  and_intros
  refine ⟨_, ⟨13, 1, 0, 1, by omega, rfl, rfl⟩, ?_⟩
  and_intros
  refine ⟨by simp, ?_⟩
  and_intros
  refine ⟨_, ⟨1, 1, 0, 1, by omega, rfl, rfl⟩, ?_⟩
  and_intros
  refine ⟨by simp, ?_⟩
  and_intros
  refine ⟨_, ⟨many, 4, 9, 120, by omega, rfl, rfl⟩, ?_⟩
  and_intros
  refine ⟨by simp, ?_⟩
  and_intros
  refine ⟨by simp, ?_⟩
  and_intros
  refine ⟨_, ⟨many, 5, 0, 1, by omega, rfl, rfl⟩, ?_⟩
  and_intros
  refine ⟨by simp, ?_⟩
  and_intros
  refine ⟨_, ⟨many, 0, 0, 1, by omega, rfl, rfl⟩, ?_⟩
  and_intros
  refine ⟨by simp, ?_⟩
  and_intros
  refine ⟨_, ⟨many, 1, 10, 1, by omega, rfl, rfl⟩, ?_⟩
  and_intros
  refine ⟨by simp, ?_⟩
  and_intros
  refine ⟨by simp, ?_⟩
  refine bp_cat (by simp) ?_
  infer_instance
  refine XD.mono (U1 := fun d => d = .list ((rowsC many).map cD)) ?_ fun d e => ?_
  · and_intros
    refine ⟨_, ⟨many, 1, 0, 121, by omega, rfl, rfl⟩, ?_⟩
    and_intros
    refine ⟨by simp, ?_⟩
    and_intros
    refine ⟨_, ⟨many, 1, 0, 0, by omega, rfl, rfl⟩, ?_⟩
    and_intros
    refine ⟨by simp, ?_⟩
    and_intros
    refine ⟨_, ⟨many, 1, 0, 1, by omega, rfl, rfl⟩, ?_⟩
    and_intros
    refine ⟨by simp, ?_⟩
    and_intros
    refine ⟨by simp, ?_⟩
    refine bp_cat (by simp) ?_
    rfl
  subst e
  refine s_ifs ?_
  refine c_cmp (nomark _) ?_
  refine c_repr ?_
  refine c_comp (α := (Nat × Int × Int × Int) × Bool) [("city", 12), ("due", 10)] (blkOk_by (N := NCr) (sc := defScope sLCR) (by decide +kernel)) ?_
  refine i_seq ?_
  infer_instance
  refine seq_l ⟨rowsC many, cD, fun x => .bool x.2, rfl, by simp [rowsC], fun i x hx => ⟨_, fun s H C cl fp => by unfold cD; nofun, fun s H C cl fp => ?_⟩, ?_⟩
  · have e := rows_ok m1 m4 x (List.mem_of_getElem? hx)
    and_intros
    rw [e]
  obtain ⟨L, okL, eL⟩ : ∃ L : Dt, OkD L 390000 40 ∧ PyData.list ((rowsC many).map fun x => PyData.bool x.2) = L := ⟨_, by rw [show ((rowsC many).map fun x => PyData.bool x.2) = ((rowsC many).map fun x => x.2).map PyData.bool by rw [List.map_map]; rfl]; exact ok_bools (by simp [rowsC]), rfl⟩
  rw [eL]
  refine f_repr hgd hu okL ?_
  refine c_repr ?_
  refine c_comp (α := (Nat × Int × Int × Int) × Bool) [("city", 12), ("due", 10)] (blkOk_by (N := NCr) (sc := defScope sLCR) (by decide +kernel)) ?_
  refine i_seq ?_
  infer_instance
  refine seq_l ⟨rowsC many, cD, fun x => .bool x.2, rfl, by simp [rowsC], fun i x hx => ⟨_, fun s H C cl fp => by unfold cD; nofun, fun s H C cl fp => ?_⟩, ?_⟩
  · and_intros
    rfl
  rw [eL]
  clear eL
  refine f_repr hgd hu okL ?_
  and_intros
  refine br_nis rfl ?_
  refine ss_n ?_
  and_intros
  refine c_pot C1 (i := 0) (by repeat (first | exact Nx.z | apply Nx.s)) rfl ?_
  and_intros
  refine ⟨_, ⟨many, by omega, by omega, rfl, rfl⟩, fun d ⟨i, e, g1, g2⟩ => ?_⟩
  subst e
  obtain ⟨m, rfl⟩ := Int.eq_ofNat_of_zero_le g1
  obtain ⟨other, hother⟩ : ∃ other : Nat, other = 1 + m := ⟨_, rfl⟩
  have o1 : 1 ≤ other := by omega
  have on : other < many + 1 := by omega
  infer_instance
  rw [show (1 : Int) + ((m : Nat) : Int) = ((other : Nat) : Int) by omega]
  clear hother g1 g2
  and_intros
  refine c_pot C1 (i := 0) (by repeat (first | exact Nx.z | apply Nx.s)) rfl ?_
  and_intros
  refine ⟨_, ⟨60, by omega, by omega, rfl, rfl⟩, fun d ⟨i, e, g1, g2⟩ => ?_⟩
  subst e
  obtain ⟨number, hnumber⟩ : ∃ number : Int, number = 1 + i := ⟨_, rfl⟩
  have u1 : 1 ≤ number := by omega
  have u60 : number ≤ 60 := by omega
  infer_instance
  rw [← hnumber]
  clear hnumber g1 g2
  refine s_eq (by conv => { lhs; whnf }) ?_
  generalize PyData.list ((rowsC many).map cD) = rws
  clear okL
  refine s_for ?_
  refine i_seq ?_
  and_intros
  refine bp_mul (by unfold CMul; omega) ?_
  and_intros
  refine ⟨by simp, ?_⟩
  and_intros
  refine bp_mul (by unfold CMul; omega) ?_
  and_intros
  refine bp_mul (by unfold CMul; omega) ?_
  and_intros
  refine ⟨by simp, ?_⟩
  and_intros
  refine ⟨by simp, ?_⟩
  and_intros
  refine ⟨by simp, ?_⟩
  and_intros
  refine ⟨by simp, seq_l ?_⟩
  refine ⟨fun _ z => ∃ a b c d e : En, z = [.pot, .d (.int ((many : Nat) : Int)), .d rws, .d (.int 0), .d (.int ((other : Nat) : Int)), .d (.int number), a, b, c, d, e, .no, .no], ⟨_, _, _, _, _, rfl⟩, fun k v δ' hd iv => ?_, fun δ' iv => ?_⟩
  case refine_2 =>
    obtain ⟨a, b, c, d, e, rfl⟩ := iv
    have okt := okd_tab (n := 13) (T := tabT 1 0 0) (by omega) (tab_abs (by omega) (by omega) (by omega) (by omega))
    have ew := bigT_w
    have ec := c_of_w ew
    have ot : one (tabD 13 (tabT 1 0 0)) = true := rfl
    have st : sok (tabD 13 (tabT 1 0 0)) = true := sok_tab
    and_intros
    refine ⟨_, ⟨13, 0, 1, 0, by omega, rfl, rfl⟩, ?_⟩
    generalize htab : tabD 13 (tabT 1 0 0) = tab at *
    have okd : OkD (hW "table" tab) 20000 4 := (okd_told (by decide +kernel) (by decide +kernel) okt st).mono
    generalize hdue : hW "table" tab = due at *
    and_intros
    rw [ew, ec]
    refine c_heard (R := fun _ => False) (ox := fun cn y => cn = "InvalidTable" ∧ y = tab) (k := 10) hm hk Fg bd scLHeard rfl (.inl rfl) (giv (k := 11) T Hr hr hgd (fun d z => z.elim) (tells_t ⟨okt.mono, ot⟩ ?kk4) g) TB hcode hmT hu0 (lamB_exc fun A outer s H E f co r g2 => ?bb4) (LamX.lamS_by (by rfl))
    case bb4 =>
      refine r_call C8 ?_
      refine a_c ?_
      and_intros
      exact ⟨_, _, ⟨tab, ew, rfl, rfl, rfl⟩, rfl, rfl⟩
    rw [hdue]
    and_intros
    refine ⟨by simp, ?_⟩
    refine f_repr hgd hu (ok3 okd) ?_
    and_intros
    refine f_repr hgd hu okt.mono ?_
    and_intros
    refine ⟨by simp, ?_⟩
    and_intros
    refine ⟨by simp, ?_⟩
    rw [show PyData.list [.str "table", .str tab.shown] = due from hdue]
    refine f_repr hgd hu (ok3 okd) ?_
    and_intros
    exact congrArg PyData.bool (decide_eq_true rfl)
  obtain ⟨a, b, c, d, e, rfl⟩ := iv
  obtain ⟨bt, wy, sh, rfl, b1, b2, e1, e2⟩ : ∃ (bt : Int) (wy sh : Bool), v = .tuple [.int bt, .bool wy, .bool sh] ∧ 1 ≤ bt ∧ bt ≤ 121 ∧ wy = decide (bt ≤ 120) ∧ (wy && sh) = (decide (bt ≤ 120) && decide (bt ≤ 2 * number)) := by
    have hd := List.mem_of_getElem? hd
    simp only [List.mem_cons, List.not_mem_nil, or_false] at hd
    rcases hd with rfl | rfl | rfl | rfl
    · exact ⟨_, _, _, rfl, by omega, by omega, (decide_eq_true (by omega)).symm, by rw [decide_eq_true (show 2 * number ≤ 120 by omega), decide_eq_true (show 2 * number ≤ 2 * number by omega)]⟩
    · exact ⟨_, _, _, rfl, by omega, by omega, decide_eq_decide.mpr (by omega), by rw [decide_eq_false (show ¬ 2 * number + 1 ≤ 2 * number by omega), Bool.and_false, Bool.and_false]⟩
    · exact ⟨_, _, _, rfl, by omega, by omega, rfl, rfl⟩
    · exact ⟨_, _, _, rfl, by omega, by omega, (decide_eq_true (by omega)).symm, by rw [decide_eq_true (show number ≤ 120 by omega), decide_eq_true (show number ≤ 2 * number by omega)]⟩
  clear hd
  have tin : TIn (many + 1) other number bt := ⟨by omega, by omega, o1, on, u1, u60, b1⟩
  refine ⟨_, _, by nofun, ?_⟩
  and_intros
  refine ⟨_, ⟨many + 1, other, number, bt, by omega, rfl, rfl⟩, ?_⟩
  have okt := okd_tab (n := many + 1) (T := tabT number other bt) (by omega) (tab_abs (by omega) (by omega) (by omega) (by omega))
  by_cases hb : bt ≤ 120
  · rw [decide_eq_true hb] at e1 e2
    subst e1
    rw [Bool.true_and, Bool.true_and] at e2
    subst e2
    have ec : closedB (tabD (many + 1) (tabT number other bt)) = decide (bt ≤ 2 * number) := by
      by_cases h2 : bt ≤ 2 * number
      · rw [c_yes tin hb h2, decide_eq_true h2]
      · rw [c_no tin h2, decide_eq_false h2]
    have okd := okd_tab (n := many + 1) (T := tabT number other (min bt (2 * number))) (by omega) (tab_abs (by omega) (by omega) (by omega) (by omega))
    have ecl := tab_close tin hb
    have ew := w_yes tin hb
    and_intros
    refine bp_mul (by unfold CMul; omega) ?_
    and_intros
    refine ⟨_, ⟨many + 1, other, number, min bt (2 * number), by omega, rfl, rfl⟩, ?_⟩
    generalize hdue : tabD (many + 1) (tabT number other (min bt (2 * number))) = due at *
    generalize htab : tabD (many + 1) (tabT number other bt) = tab at *
    and_intros
    rw [ew, ec]
    refine c_heard (R := fun d => d = due) (ox := fun _ _ => False) (k := 10) hm hk Fg bd scLHeard rfl (.inl rfl) (giv (k := 11) T Hr hr hgd (fun d hd => ?kk) (fun cn y z => z.elim) g) TB hcode hmT hu0 (lamB_val fun A outer s H E f co r g2 => ?bb) (LamX.lamS_by (by rfl))
    case bb =>
      refine c_call C7 ?_
      refine a_c ?_
      and_intros
      exact ecl
    subst hd
    and_intros
    refine ⟨by simp, ?_⟩
    refine f_repr hgd hu (ok3 okd.mono) ?_
    and_intros
    refine ⟨by simp, ?_⟩
    refine f_repr hgd hu (ok3 okd.mono) ?_
    and_intros
    refine br_nis rfl ?_
    and_intros
    exact ⟨_, _, _, _, _, rfl⟩
  · rw [decide_eq_false hb] at e1 e2
    subst e1
    have ew := w_no tin hb
    have ec := c_of_w ew
    have ot : one (tabD (many + 1) (tabT number other bt)) = true := rfl
    have st : sok (tabD (many + 1) (tabT number other bt)) = true := sok_tab
    generalize htab : tabD (many + 1) (tabT number other bt) = tab at *
    and_intros
    refine f_repr hgd hu okt.mono ?_
    and_intros
    refine ⟨by simp, ?_⟩
    have okd : OkD (hW "table" tab) 20000 4 := (okd_told (by decide +kernel) (by decide +kernel) okt st).mono
    rw [show PyData.list [.str "table", .str tab.shown] = hW "table" tab from rfl]
    generalize hdue : hW "table" tab = due at *
    and_intros
    rw [ew, ec]
    refine c_heard (R := fun _ => False) (ox := fun cn y => cn = "InvalidTable" ∧ y = tab) (k := 10) hm hk Fg bd scLHeard rfl (.inl rfl) (giv (k := 11) T Hr hr hgd (fun d z => z.elim) (tells_t ⟨okt.mono, ot⟩ ?kk3) g) TB hcode hmT hu0 (lamB_exc fun A outer s H E f co r g2 => ?bb3) (LamX.lamS_by (by rfl))
    case bb3 =>
      refine r_call C8 ?_
      refine a_c ?_
      and_intros
      exact ⟨_, _, ⟨tab, ew, rfl, rfl, rfl⟩, rfl, rfl⟩
    rw [hdue]
    and_intros
    refine ⟨by simp, ?_⟩
    refine f_repr hgd hu (ok3 okd) ?_
    and_intros
    refine ⟨by simp, ?_⟩
    refine f_repr hgd hu (ok3 okd) ?_
    and_intros
    refine br_nis rfl ?_
    and_intros
    exact ⟨_, _, _, _, _, rfl⟩
end
end K19

set_option linter.all false
set_option maxRecDepth 100000
set_option maxHeartbeats 4000000
namespace K19
open PySem PySem.Spec PyProof.Rows L2 RZ Dv
variable [Tbl]
theorem pairs_ne : ∀ {ns : List Int}, (∀ (i : Nat) a b, ns[i]? = some a → ns[i + 1]? = some b → a ≠ b) → pairsB neD (ns.map PyData.int) = true
  | [], _ => rfl
  | [_], _ => rfl
  | a :: b :: r, h => by
    have h0 := h 0 a b rfl rfl
    have ih := pairs_ne (ns := b :: r) fun i x y h1 h2 => h (i + 1) x y (by simpa using h1) (by simpa using h2)
    show (neD (.int a) (.int b) && pairsB neD ((b :: r).map PyData.int)) = true
    rw [ih, Bool.and_true]
    show (!decide (a = b)) = true
    rw [decide_eq_false h0]; rfl
theorem driv_ok {c : City} : ∀ {ns ls : List Int}, (∀ (i : Nat) a b v, ns[i]? = some a → ns[i + 1]? = some b → ls[i]? = some v → c.drive a.toNat b.toNat ≤ v) → drivB c (ns.map PyData.int) (ls.map PyData.int) = true
  | [], _, _ => by unfold drivB; rfl
  | [_], _, _ => by unfold drivB; rfl
  | _ :: _ :: _, [], _ => by unfold drivB; rfl
  | a :: b :: r, l :: ls, h => by
    have h0 := h 0 a b l rfl rfl rfl
    have ih := driv_ok (ns := b :: r) (ls := ls) fun i x y v h1 h2 h3 => h (i + 1) x y v (by simpa using h1) (by simpa using h2) (by simpa using h3)
    show (decide (driveD c (.int a) (.int b) ≤ l) && drivB c ((b :: r).map PyData.int) (ls.map PyData.int)) = true
    rw [ih, Bool.and_true]
    exact decide_eq_true h0
theorem all_within {ns : List Int} {a b : Int} (h : ∀ i ∈ ns, a ≤ i ∧ i ≤ b) : ((ns.map PyData.int).all fun x => withinB x a b) = true := by
  rw [List.all_map, List.all_eq_true]
  intro i hi
  have := h i hi
  show (decide (a ≤ i) && decide (i ≤ b)) = true
  rw [decide_eq_true this.1, decide_eq_true this.2]; rfl
theorem tup_len {es : List Dt} {a b : Int} (h1 : a ≤ (es.length : Int)) (h2 : (es.length : Int) ≤ b) : tupB (.tuple es) a b = true := by
  show (decide _ && decide _) = true
  rw [decide_eq_true h1, decide_eq_true h2]; rfl
theorem arew_ok {ns : List Int} {n a b : Int} (hl : (ns.length : Int) = n) (h : ∀ i ∈ ns, a ≤ i ∧ i ≤ b) : arewB (intsT ns) n a b = true := by
  show (tupB _ n n && _) = true
  rw [tup_len (by rw [List.length_map]; omega) (by rw [List.length_map]; omega), Bool.true_and]
  exact all_within h
theorem mod_at {n i : Nat} {a : Int} (h : ((List.range n).map fun i => ((i : Nat) : Int) % 2)[i]? = some a) : i < n ∧ a = ((i : Nat) : Int) % 2 := by
  rw [List.getElem?_map] at h
  obtain ⟨j, hj, rfl⟩ := Option.map_eq_some_iff.mp h
  obtain ⟨h1, h2⟩ := List.getElem?_eq_some_iff.mp hj
  rw [List.getElem_range] at h2
  rw [List.length_range] at h1
  subst h2
  exact ⟨h1, rfl⟩
theorem stops_ok {c : City} {hops : Nat} {least stand apart : Int} (n2 : 2 ≤ c.n) (h1 : 1 ≤ hops) (h7 : hops ≤ 7) : stopsB c (intsT (lineL hops least stand apart).stops) = true := by
  have sl : (lineL hops least stand apart).stops.length = hops + 1 := by show (List.map _ _).length = _; rw [List.length_map, List.length_range]
  show (tupB (intsT (lineL hops least stand apart).stops) 2 8 && ((((lineL hops least stand apart).stops.map PyData.int).all fun x => withinB x 0 ((c.n : Nat) - 1)) && pairsB neD ((lineL hops least stand apart).stops.map PyData.int))) = true
  rw [tup_len (by rw [List.length_map]; omega) (by rw [List.length_map]; omega), all_within fun i hi => by
    obtain ⟨j, _, rfl⟩ := List.mem_map.mp hi
    omega, pairs_ne fun i a b k1 k2 => by
    obtain ⟨_, rfl⟩ := mod_at k1
    obtain ⟨_, rfl⟩ := mod_at k2
    omega]
  rfl
theorem line_b {c : City} {hops : Nat} {least stand apart : Int} : lineB c (lineL hops least stand apart).d = (stopsB c (intsT (lineL hops least stand apart).stops) && (arewB (intsT (List.replicate hops least)) (lenD (intsT (lineL hops least stand apart).stops) - 1) 1 99 && (arewB (intsT (List.replicate (hops - 1) stand)) (lenD (intsT (lineL hops least stand apart).stops) - 2) 0 30 && (withinB (.int apart) 1 30 && drivB c ((lineL hops least stand apart).stops.map PyData.int) ((List.replicate hops least).map PyData.int))))) := by
  show (wordB (.str "line") ["line"] && _) = _
  rw [show wordB (.str "line") ["line"] = true by decide +kernel]; rfl
theorem line_yes {n hops : Nat} {z ch way least stand apart : Int} (n2 : 2 ≤ n) (h1 : 1 ≤ hops) (h7 : hops ≤ 7) (l1 : 1 ≤ least) (l2 : least ≤ 99) (s1 : 0 ≤ stand) (s2 : stand ≤ 30) (a1 : 1 ≤ apart) (a2 : apart ≤ 30) (w1 : 0 ≤ way) (hw : way ≤ least) : lineB (cityC n z ch way) (lineL hops least stand apart).d = true := by
  have sl : lenD (intsT (lineL hops least stand apart).stops) = ((hops + 1 : Nat) : Int) := by
    show (((List.map PyData.int (List.map _ _)).length : Nat) : Int) = _
    rw [List.length_map, List.length_map, List.length_range]
  rw [line_b, stops_ok n2 h1 h7, sl, arew_ok (by rw [List.length_replicate]; omega) fun i hi => by rw [(List.mem_replicate.mp hi).2]; exact ⟨l1, l2⟩,
    arew_ok (by rw [List.length_replicate]; omega) fun i hi => by rw [(List.mem_replicate.mp hi).2]; exact ⟨s1, s2⟩, show withinB (.int apart) 1 30 = true by show (decide _ && decide _) = true; rw [decide_eq_true a1, decide_eq_true a2]; rfl,
    driv_ok fun i a b v k1 k2 k3 => by
      have e := List.mem_of_getElem? k3
      rw [(List.mem_replicate.mp e).2]
      show sameT way _ _ ≤ least
      unfold sameT
      split <;> omega]
  rfl
theorem within_no {i a b : Int} (h : i < a ∨ b < i) : withinB (.int i) a b = false := by
  show (decide (a ≤ i) && decide (i ≤ b)) = false
  rcases h with h | h
  · rw [decide_eq_false (by omega)]; rfl
  · rw [decide_eq_false (show ¬ i ≤ b by omega), Bool.and_false]
theorem arew_no {m : Nat} {x n a b : Int} (hm : 1 ≤ m) (h : x < a ∨ b < x) : arewB (intsT (List.replicate m x)) n a b = false := by
  show (_ && (((List.replicate m x).map PyData.int).all fun y => withinB y a b)) = false
  obtain ⟨k, rfl⟩ : ∃ k, m = k + 1 := ⟨m - 1, by omega⟩
  rw [List.replicate_succ, List.map_cons, List.all_cons, within_no h, Bool.false_and, Bool.and_false]
theorem no_least {c : City} {hops : Nat} {least stand apart : Int} (h1 : 1 ≤ hops) (h : least < 1 ∨ 99 < least) : lineB c (lineL hops least stand apart).d = false := by
  rw [line_b, arew_no h1 h, Bool.false_and, Bool.and_false]
theorem no_stand {c : City} {hops : Nat} {least stand apart : Int} (h1 : 2 ≤ hops) (h : stand < 0 ∨ 30 < stand) : lineB c (lineL hops least stand apart).d = false := by
  rw [line_b, arew_no (m := hops - 1) (by omega) h, Bool.false_and, Bool.and_false, Bool.and_false]
theorem no_apart {c : City} {hops : Nat} {least stand apart : Int} (h : apart < 1 ∨ 30 < apart) : lineB c (lineL hops least stand apart).d = false := by
  rw [line_b, within_no h, Bool.false_and, Bool.and_false, Bool.and_false, Bool.and_false]
theorem no_drive {n hops : Nat} {z ch way least stand apart : Int} (h1 : 1 ≤ hops) (h : least < way) : lineB (cityC n z ch way) (lineL hops least stand apart).d = false := by
  have e : drivB (cityC n z ch way) ((lineL hops least stand apart).stops.map PyData.int) ((List.replicate hops least).map PyData.int) = false := by
    obtain ⟨k, rfl⟩ : ∃ k, hops = k + 1 := ⟨hops - 1, by omega⟩
    show drivB _ (((List.range (k + 1 + 1)).map fun i => ((i : Nat) : Int) % 2).map PyData.int) _ = false
    rw [List.range_succ_eq_map, List.range_succ_eq_map, List.replicate_succ]
    show (decide (sameT way 0 1 ≤ least) && _) = false
    rw [show sameT way 0 1 = way from rfl, decide_eq_false (by omega), Bool.false_and]
  rw [line_b, e, Bool.and_false, Bool.and_false, Bool.and_false, Bool.and_false]
theorem no_eight {c : City} {least stand apart : Int} : lineB c (lineL 8 least stand apart).d = false := by
  rw [line_b, show stopsB c (intsT (lineL 8 least stand apart).stops) = false from rfl, Bool.false_and]
theorem no_one {c : City} : lineB c (.tuple [.str "line", .tuple [.int 0], .tuple [], .tuple [], .int 1]) = false := by
  show (wordB (.str "line") ["line"] && (stopsB c (.tuple [.int 0]) && (arewB (.tuple []) (lenD (.tuple [.int 0]) - 1) 1 99 && (arewB (.tuple []) (lenD (.tuple [.int 0]) - 2) 0 30 && (withinB (.int 1) 1 30 && drivB c [.int 0] []))))) = false
  rw [show stopsB c (.tuple [.int 0]) = false from rfl, Bool.false_and, Bool.and_false]
theorem least7 : leastL (lineL 7 99 30 30) 0 6 = 873 := by decide
theorem lines_b {c : City} {L : Dt} {k : Nat} (h : lineB c L = true) : linesB c (.tuple (List.replicate k L)) = (decide (1 ≤ k) && decide (k ≤ 8)) := by
  show ((decide (1 ≤ (((List.replicate k L).length : Nat) : Int)) && decide ((((List.replicate k L).length : Nat) : Int) ≤ 8)) && (List.replicate k L).all (lineB c)) = _
  have e : (List.replicate k L).all (lineB c) = true := by
    rw [List.all_eq_true]
    intro x hx
    rw [(List.mem_replicate.mp hx).2]; exact h
  rw [e, Bool.and_true, List.length_replicate]
  congr 1 <;> exact decide_eq_decide.mpr (by omega)
def rowsL (hops : Nat) (way : Int) : List ((Nat × Int × Int × Int) × Bool) := [((7, 99, 30, 30), true), ((8, 9, 0, 1), false), ((1, 9, 0, 1), true), ((hops, 100, 0, 1), false), ((hops, 9, 31, 1), false), ((hops, 9, 0, 31), false), ((hops, 9, 0, 0), false), ((hops, 9, -1, 1), false), ((hops, way, 0, 1), true), ((hops, way - 1, 0, 1), false)]
def lE (x : (Nat × Int × Int × Int) × Bool) : Dt × Bool := ((lineL x.1.1 x.1.2.1 x.1.2.2.1 x.1.2.2.2).d, x.2)
def rowsM (hops : Nat) (way : Int) : List (Dt × Bool) := (rowsL hops way).map lE ++ [(.tuple [.str "line", .tuple [.int 0], .tuple [], .tuple [], .int 1], false)]
def mD (x : Dt × Bool) : Dt := .tuple [x.1, .bool x.2]
theorem rowsL_ok {n hops : Nat} {way : Int} (n2 : 2 ≤ n) (h2 : 2 ≤ hops) (h7 : hops ≤ 7) (w2 : 2 ≤ way) (w9 : way ≤ 9) : ∀ x ∈ rowsL hops way, lineB (cityC n 1 0 way) (lineL x.1.1 x.1.2.1 x.1.2.2.1 x.1.2.2.2).d = x.2 := fun x hx => by
  simp only [rowsL, List.mem_cons, List.not_mem_nil, or_false] at hx
  rcases hx with rfl | rfl | rfl | rfl | rfl | rfl | rfl | rfl | rfl | rfl
  · dsimp only
    exact line_yes n2 (by omega) (by omega) (by omega) (by omega) (by omega) (by omega) (by omega) (by omega) (by omega) (by omega)
  · exact no_eight
  · dsimp only
    exact line_yes n2 (by omega) (by omega) (by omega) (by omega) (by omega) (by omega) (by omega) (by omega) (by omega) (by omega)
  · dsimp only
    exact no_least (by omega) (by omega)
  · dsimp only
    exact no_stand (by omega) (by omega)
  · dsimp only
    exact no_apart (by omega)
  · dsimp only
    exact no_apart (by omega)
  · dsimp only
    exact no_stand (by omega) (by omega)
  · dsimp only
    exact line_yes n2 (by omega) (by omega) (by omega) (by omega) (by omega) (by omega) (by omega) (by omega) (by omega) (by omega)
  · dsimp only
    exact no_drive (by omega) (by omega)
theorem rowsM_ok {n hops : Nat} {way : Int} (n2 : 2 ≤ n) (h2 : 2 ≤ hops) (h7 : hops ≤ 7) (w2 : 2 ≤ way) (w9 : way ≤ 9) : ∀ x ∈ rowsM hops way, lineB (cityC n 1 0 way) x.1 = x.2 := fun x hx => by
  rcases List.mem_append.mp hx with h | h
  · obtain ⟨y, hy, rfl⟩ := List.mem_map.mp h
    exact rowsL_ok n2 h2 h7 w2 w9 y hy
  · rw [List.mem_singleton.mp h]
    exact no_one
end K19

set_option linter.all false
set_option maxRecDepth 100000
set_option maxHeartbeats 4000000
namespace K19
open PySem PySem.Spec PyProof.Rows L2 RZ Dv PySem.W
variable [Tbl]
abbrev sLLR : Stmt := at_def "_law_lines_right"
section
variable {P : Program} {w : World} {K : Fg} {mg : Str → Option Value} {base : Heap} {f : Addr} {fd : FuncData}
abbrev NLr : List Str := ["pot", "city", "hops", "rows", "drive", "line", "some", "due", "many", "lines"]
theorem scLLR : FnScope NLr ["pot", "city"] (defScope sLLR) := ⟨rfl, rfl, rfl, by decide +kernel, rfl, by decide +kernel, by decide +kernel⟩
def rLLR (ds : List Dt) (U : Dt → Prop) : Prop := ∃ (n : Nat) (way : Int), 2 ≤ n ∧ n ≤ 12 ∧ 2 ≤ way ∧ way ≤ 9 ∧ ds = [(cityC n 1 0 way).d] ∧ U = fun d => d = .bool true
theorem f_llr (T : Free mg) (C1 : Cal P w K mg base 1 "_law_draw" ["pot", "many"] sLDraw (spP K rLDraw)) (C2 : Cal P w K mg base 1 "_law_line" ["hops", "least", "stand", "apart"] sLLine (spD K rLLine)) (C3 : Cal P w K mg base 9 "drive_between" ["city", "one", "other"] sDrive (spD K rDriveOf)) (C4 : Cal P w K mg base 8 "is_line" ["city", "value"] sIsLine (spD K rIsLine)) (C5 : Cal P w K mg base 3 "least_between" ["line", "first", "last"] sLeast (spD K rLeast)) (C6 : Cal P w K mg base 8 "are_lines" ["city", "value"] sAreLines (spD K rAreLines)) (F : Fun K "_law_lines_right" "_law_lines_right" sLLR f fd) : FnG P w K mg base 13 f fd ["pot", "city"] (spP K rLLR) := by
  refine fn_pot F scLLR (fun ds U ⟨_, _, _, _, _, _, e, _⟩ => by subst e; rfl) fun cdv A outer s H E hr hgd hu ds U h => ?_
  obtain ⟨n, way, n2, n12, w2, w9, rfl, rfl⟩ := h
  have hN := scLLR.nd
  have cok : (cityC n 1 0 way).ok := city_yes (by omega) n12 (by omega) (by omega) (by omega) (by omega) (by omega) (by omega)
  have cn : (cityC n 1 0 way).n = n := rfl
  have cw : (cityC n 1 0 way).drive 0 1 = way := rfl
  have hy := line_yes (n := n) (hops := 7) (z := 1) (ch := 0) (way := way) (least := 99) (stand := 30) (apart := 30) n2 (by omega) (by omega) (by omega) (by omega) (by omega) (by omega) (by omega) (by omega) (by omega) (by omega)
  have rows : ∀ hops : Nat, 2 ≤ hops → hops ≤ 7 → ∀ x ∈ rowsM hops way, lineB (cityC n 1 0 way) x.1 = x.2 := fun hops h2 h7 => rowsM_ok n2 h2 h7 w2 w9
  generalize cityC n 1 0 way = y at *
  refine s_st (by repeat (first | exact StR.nil | apply StR.d | apply StR.no)) ?_
  refine s_eq (by conv => { lhs; whnf }) ?_
  infer_instance
  infer_instance
  infer_instance
  refine c_pot C1 (i := 0) (by repeat (first | exact Nx.z | apply Nx.s)) rfl ?_
  and_intros
  refine ⟨_, ⟨6, by omega, by omega, rfl, rfl⟩, fun d ⟨i, e, g1, g2⟩ => ?_⟩
  subst e
  obtain ⟨m, rfl⟩ := Int.eq_ofNat_of_zero_le g1
  obtain ⟨hops, hhops⟩ : ∃ hops : Nat, hops = 2 + m := ⟨_, rfl⟩
  have m1 : 2 ≤ hops := by omega
  have m7 : hops ≤ 7 := by omega
  infer_instance
  rw [show (2 : Int) + ((m : Nat) : Int) = ((hops : Nat) : Int) by omega]
  clear hhops g1 g2
  and_intros
  refine ⟨_, ⟨7, 99, 30, 30, by omega, by omega, rfl, rfl⟩, ?_⟩
  and_intros
  refine ⟨by simp, ?_⟩
  and_intros
  refine ⟨_, ⟨8, 9, 0, 1, by omega, by omega, rfl, rfl⟩, ?_⟩
  and_intros
  refine ⟨by simp, ?_⟩
  and_intros
  refine ⟨_, ⟨1, 9, 0, 1, by omega, by omega, rfl, rfl⟩, ?_⟩
  and_intros
  refine ⟨by simp, ?_⟩
  and_intros
  refine ⟨_, ⟨hops, 100, 0, 1, by omega, by omega, rfl, rfl⟩, ?_⟩
  and_intros
  refine ⟨by simp, ?_⟩
  and_intros
  refine ⟨by simp, ?_⟩
  and_intros
  refine ⟨_, ⟨hops, 9, 31, 1, by omega, by omega, rfl, rfl⟩, ?_⟩
  and_intros
  refine ⟨by simp, ?_⟩
  and_intros
  refine ⟨_, ⟨hops, 9, 0, 31, by omega, by omega, rfl, rfl⟩, ?_⟩
  and_intros
  refine ⟨by simp, ?_⟩
  and_intros
  refine ⟨_, ⟨hops, 9, 0, 0, by omega, by omega, rfl, rfl⟩, ?_⟩
  and_intros
  refine ⟨by simp, ?_⟩
  and_intros
  refine ⟨_, ⟨hops, 9, -1, 1, by omega, by omega, rfl, rfl⟩, ?_⟩
  and_intros
  refine ⟨by simp, ?_⟩
  and_intros
  refine ⟨by simp, ?_⟩
  refine bp_cat (by simp) ?_
  and_intros
  refine ⟨_, ⟨y, 0, 1, cok, by omega, by omega, rfl, rfl⟩, ?_⟩
  rw [cw]
  infer_instance
  refine XD.mono (U1 := fun d => d = .list ((rowsM hops way).map mD)) ?_ fun d e => ?_
  · and_intros
    refine ⟨_, ⟨hops, way, 0, 1, by omega, by omega, rfl, rfl⟩, ?_⟩
    and_intros
    refine ⟨by simp, ?_⟩
    and_intros
    refine ⟨_, ⟨hops, way - 1, 0, 1, by omega, by omega, rfl, rfl⟩, ?_⟩
    and_intros
    refine ⟨by simp, ?_⟩
    and_intros
    repeat (first | (refine ⟨by decide, ?_⟩) | infer_instance)
    refine ⟨by simp, ?_⟩
    refine bp_cat (by simp) ?_
    rfl
  subst e
  refine s_ifs ?_
  refine c_cmp (nomark _) ?_
  refine c_repr ?_
  refine c_comp (α := Dt × Bool) [("line", 5), ("due", 7)] (blkOk_by (N := NLr) (sc := defScope sLLR) (by decide +kernel)) ?_
  refine i_seq ?_
  infer_instance
  refine seq_l ⟨rowsM hops way, mD, fun x => .bool x.2, rfl, by simp [rowsM, rowsL], fun i x hx => ⟨_, fun s H C cl fp => by unfold mD; nofun, fun s H C cl fp => ?_⟩, ?_⟩
  · have e := rows hops m1 m7 x (List.mem_of_getElem? hx)
    and_intros
    refine ⟨_, ⟨y, x.1, cok, rfl, rfl⟩, ?_⟩
    rw [e]
  obtain ⟨L, okL, eL⟩ : ∃ L : Dt, OkD L 390000 40 ∧ PyData.list ((rowsM hops way).map fun x => PyData.bool x.2) = L := ⟨_, by rw [show ((rowsM hops way).map fun x => PyData.bool x.2) = ((rowsM hops way).map fun x => x.2).map PyData.bool by rw [List.map_map]; rfl]; exact ok_bools (by simp [rowsM, rowsL]), rfl⟩
  rw [eL]
  refine f_repr hgd hu okL ?_
  refine c_repr ?_
  refine c_comp (α := Dt × Bool) [("line", 5), ("due", 7)] (blkOk_by (N := NLr) (sc := defScope sLLR) (by decide +kernel)) ?_
  refine i_seq ?_
  infer_instance
  refine seq_l ⟨rowsM hops way, mD, fun x => .bool x.2, rfl, by simp [rowsM, rowsL], fun i x hx => ⟨_, fun s H C cl fp => by unfold mD; nofun, fun s H C cl fp => ?_⟩, ?_⟩
  · and_intros
    rfl
  rw [eL]
  clear eL
  refine f_repr hgd hu okL ?_
  and_intros
  refine br_nis rfl ?_
  refine ss_n ?_
  generalize PyData.list ((rowsM hops way).map mD) = rws
  clear okL
  and_intros
  refine ⟨_, ⟨7, 99, 30, 30, by omega, by omega, rfl, rfl⟩, ?_⟩
  and_intros
  refine ⟨_, ⟨lineL 7 99 30 30, 0, 6, by omega, by decide, by decide, rfl, rfl⟩, ?_⟩
  rw [least7]
  generalize (lineL 7 99 30 30).d = D at *
  and_intros
  refine bp_mul (by unfold CMul; omega) ?_
  and_intros
  refine bp_mul (by unfold CMul; omega) ?_
  and_intros
  refine s_letC (i := 6) (F := fun d => [.pot, .d y.d, .d (.int ((hops : Nat) : Int)), .d rws, .d (.int way), .d D, .d d, .no, .no, .no]) (by repeat (first | exact Nx.z | apply Nx.s)) (by intro _; repeat (first | exact SetR.z | apply SetR.s)) ?_
  refine lco_fun (α := Nat) [("many", 8)] (blkOk_by (N := NLr) (sc := defScope sLLR) (by decide +kernel)) ?_
  refine i_seq ?_
  and_intros
  refine ⟨by simp, seq_l ?_⟩
  refine ⟨[0, 1, 8, 9], fun k => .int ((k : Nat) : Int), fun k => .tuple (List.replicate k D), rfl, by simp, fun i k hk => ⟨_, fun s H C cl fp => by nofun, fun s H C cl fp => ?_⟩, ?_⟩
  · have hk2 : k ≤ 9 := by
      have := List.mem_of_getElem? hk
      simp only [List.mem_cons, List.not_mem_nil, or_false] at this
      omega
    and_intros
    refine ⟨by simp, ?_⟩
    and_intros
    refine bp_repA (by simp) (by simp) (by omega) (by omega) ?_
    rw [rep_flat]
    rfl
  and_intros
  refine c_comp (α := Nat) [("lines", 9)] (blkOk_by (N := NLr) (sc := defScope sLLR) (by decide +kernel)) ?_
  refine i_seq ?_
  infer_instance
  refine seq_l ⟨[0, 1, 8, 9], fun k => .tuple (List.replicate k D), fun k => .bool (decide (1 ≤ k) && decide (k ≤ 8)), rfl, by simp, fun i k hk => ⟨_, fun s H C cl fp => by nofun, fun s H C cl fp => ?_⟩, ?_⟩
  · and_intros
    refine ⟨_, ⟨y, _, cok, rfl, rfl⟩, ?_⟩
    rw [lines_b hy]
  obtain ⟨L, okL, eL, eM⟩ : ∃ L : Dt, OkD L 390000 40 ∧ PyData.list (([0, 1, 8, 9] : List Nat).map fun k => PyData.bool (decide (1 ≤ k) && decide (k ≤ 8))) = L ∧ PyData.list [.bool false, .bool true, .bool true, .bool false] = L := ⟨_, ok_bools (bs := [false, true, true, false]) (by simp), rfl, rfl⟩
  rw [eL]
  refine f_repr hgd hu okL ?_
  and_intros
  refine ⟨by simp, ?_⟩
  rw [eM]
  refine f_repr hgd hu okL ?_
  and_intros
  exact congrArg PyData.bool (decide_eq_true rfl)
end
end K19

set_option linter.all false
set_option maxRecDepth 100000
set_option maxHeartbeats 4000000
namespace K19
open PySem PySem.Spec PyProof.Rows L2 RZ Dv PySem.W
variable [Tbl]
theorem lineG_ok {hops : Nat} {least stand apart : Int} (h1 : 1 ≤ hops) (h4 : hops ≤ 4) (l1 : 1 ≤ least) (l2 : least ≤ 123) (s1 : 0 ≤ stand) (s2 : stand ≤ 4) (a1 : 1 ≤ apart) (a2 : apart ≤ 30) : LineG (lineL hops least stand apart) := by
  have ll : (lineL hops least stand apart).leasts.length = hops := List.length_replicate
  have tl : (lineL hops least stand apart).stands.length = hops - 1 := List.length_replicate
  have sl : (lineL hops least stand apart).stops.length = hops + 1 := by show (List.map _ _).length = _; rw [List.length_map, List.length_range]
  refine ⟨⟨by omega, by omega, by omega⟩, by omega, fun h hh => ?_, fun h hh => ?_, a1, a2⟩
  · have := List.mem_of_getElem? (getD_at hh)
    rw [(List.mem_replicate.mp this).2]; exact ⟨l1, l2⟩
  · have := List.mem_of_getElem? (getD_at hh)
    rw [(List.mem_replicate.mp this).2]; exact ⟨s1, s2⟩
def toldF (l : Line) (f : Int) : List Int := (List.range l.leasts.length).map fun h => f + pre l h
def tripF (l : Line) (f : Int) : Tr := ⟨.str "trip", 0, toldF l f⟩
theorem told_len {l : Line} {f : Int} : (toldF l f).length = l.leasts.length := by unfold toldF; rw [List.length_map, List.length_range]
theorem told_at {l : Line} {f : Int} {h : Nat} (hh : h < l.leasts.length) : (toldF l f).getD h 0 = f + pre l h := getD_rng hh
theorem told_add {l : Line} {f a : Int} : ((toldF l f).map fun m => PyData.int (m + a)) = (toldF l (f + a)).map PyData.int := by
  unfold toldF
  rw [List.map_map, List.map_map]
  refine List.map_congr_left fun h _ => ?_
  show PyData.int (f + pre l h + a) = .int (f + a + pre l h)
  rw [show f + pre l h + a = f + a + pre l h by omega]
theorem told_sub {l : Line} {f a : Int} : ((toldF l f).map fun m => PyData.int (m - a)) = (toldF l (f - a)).map PyData.int := by
  have := told_add (l := l) (f := f) (a := -a)
  rw [show f + -a = f - a by omega] at this
  rw [← this]
  exact List.map_congr_left fun m _ => by rw [show m + -a = m - a by omega]
theorem told_last {l : Line} {a : Int} : ((toldF l 0).map fun m => PyData.int (a + m)) = (toldF l a).map PyData.int := by
  have := told_add (l := l) (f := 0) (a := a)
  rw [show 0 + a = a by omega] at this
  rw [← this]
  exact List.map_congr_left fun m _ => by rw [show m + a = a + m by omega]
theorem pre_sum {l : Line} (g : LineG l) : ∀ h : Nat, h < l.leasts.length → pre l h = (l.leasts.take h).sum + (l.stands.take h).sum
  | 0, _ => rfl
  | h + 1, hh => by
    have ih := pre_sum g h (by omega)
    have tl := g.fit.tl
    have s1 := sum_step (ns := l.leasts) (i := 0) (k := h) (v := l.leasts.getD h 0) (by rw [Nat.zero_add]; exact getD_at (by omega))
    have s2 := sum_step (ns := l.stands) (i := 0) (k := h) (v := l.stands.getD h 0) (by rw [Nat.zero_add]; exact getD_at (by omega))
    rw [List.drop_zero] at s1 s2
    show pre l h + l.leasts.getD h 0 + l.stands.getD h 0 = _
    omega
theorem least_pre {l : Line} (g : LineG l) {h : Nat} (hh : h < l.leasts.length) : leastL l 0 h - l.leasts.getD h 0 = pre l h := by
  have s1 := sum_step (ns := l.leasts) (i := 0) (k := h) (v := l.leasts.getD h 0) (by rw [Nat.zero_add]; exact getD_at (by omega))
  rw [pre_sum g h hh]
  unfold leastL
  rw [List.drop_zero] at s1 ⊢
  rw [List.drop_zero, Nat.sub_zero, Nat.sub_zero]
  omega
theorem beat_add {l : Line} {f e : Int} {a b : Nat} : beatT [l] 0 f e (a + b) = beatT [l] 0 f e a ++ beatT [l] 0 (f + e * ((a : Nat) : Int)) e b := by
  unfold beatT genT
  rw [List.range_add, List.map_append, List.map_map]
  congr 1
  refine List.map_congr_left fun k _ => ?_
  show (⟨_, _, _⟩ : Tr) = ⟨_, _, _⟩
  congr 1
  refine List.map_congr_left fun h _ => ?_
  show f + e * ((a + k : Nat) : Int) + pre _ h = f + e * ((a : Nat) : Int) + e * ((k : Nat) : Int) + pre _ h
  rw [show ((a + k : Nat) : Int) = ((a : Nat) : Int) + ((k : Nat) : Int) by omega, Int.mul_add]
  omega
theorem beat_take {l : Line} {f e : Int} {a b : Nat} : (beatT [l] 0 f e (a + b)).take a = beatT [l] 0 f e a := by rw [beat_add]; exact List.take_left' gen_len
theorem beat_drop {l : Line} {f e : Int} {a b : Nat} : (beatT [l] 0 f e (a + b)).drop a = beatT [l] 0 (f + e * ((a : Nat) : Int)) e b := by rw [beat_add]; exact List.drop_left' gen_len
theorem beat_one {l : Line} {f e : Int} : beatT [l] 0 f e 1 = [tripF l f] := by
  show [(⟨_, _, _⟩ : Tr)] = [⟨_, _, _⟩]
  congr 2
  refine List.map_congr_left fun h _ => ?_
  show f + e * ((0 : Nat) : Int) + pre l h = f + pre l h
  rw [show ((0 : Nat) : Int) = 0 from rfl, Int.mul_zero]; omega
/-- a line, its least run -/
structure LW (l : Line) : Prop where
  g : LineG l
  l1 : 1 ≤ l.leasts.length
abbrev runP (l : Line) : Int := pre l (l.leasts.length - 1)
theorem LW.run {l : Line} (w : LW l) : 0 ≤ runP l ∧ runP l ≤ 381 := by
  have h4 := w.g.h4
  have l1 := w.l1
  have := pre_in w.g (l.leasts.length - 1) (by omega)
  show 0 ≤ pre l (l.leasts.length - 1) ∧ pre l (l.leasts.length - 1) ≤ 381
  omega
theorem LW.beat {l : Line} (w : LW l) {f : Int} {many : Nat} (f0 : 0 ≤ f) (h1 : 1 ≤ many) (h : f + l.apart * ((many - 1 : Nat) : Int) + runP l ≤ 1999) : (∀ t ∈ beatT [l] 0 f l.apart many, TripW [l] t) ∧ apA [l] (beatT [l] 0 f l.apart many) = true :=
  have b : GenOk l (beatF l f l.apart) many := beat_ok w.g w.l1 f0 (Int.le_refl _) h
  ⟨gen_trips (ls := [l]) (n := 0) (by simp) w.g.fit b, gen_apart (ls := [l]) (n := 0) b⟩
theorem LW.one {l : Line} (w : LW l) {f : Int} (f0 : 0 ≤ f) (h : f + runP l ≤ 1999) : TripW [l] (tripF l f) := (w.beat (many := 1) f0 (by omega) (by
  show f + l.apart * ((0 : Nat) : Int) + runP l ≤ 1999
  rw [show ((0 : Nat) : Int) = 0 from rfl, Int.mul_zero]; omega)).1 _ (by rw [beat_one]; exact List.mem_singleton.mpr rfl)
theorem LW.trips {l : Line} (w : LW l) {f : Int} {many : Nat} (f0 : 0 ≤ f) (h1 : 1 ≤ many) (h2 : many ≤ 16) (h : f + l.apart * ((many - 1 : Nat) : Int) + runP l ≤ 1999) : tripsB [l] (trsD (beatT [l] 0 f l.apart many)) = true := by
  obtain ⟨a, b⟩ := w.beat f0 h1 h
  exact (tripsB_W (by rw [gen_len]; exact h1) (by rw [gen_len]; exact h2) a).trans b
theorem all_no {ns : List Int} {x a b : Int} (hx : x ∈ ns) (h : x < a ∨ b < x) : ((ns.map PyData.int).all fun y => withinB y a b) = false := by
  rw [List.all_map, List.all_eq_false]
  exact ⟨x, hx, by show ¬ withinB (.int x) a b = true; rw [within_no h]; decide⟩
theorem LW.bad {l : Line} (w : LW l) {f : Int} (h : f < 0 ∨ 1999 < f + runP l) : tripsB [l] (trsD [tripF l f]) = false := by
  have l1 := w.l1
  have e : arewB (intsT (toldF l f)) ((l.leasts.length : Nat) : Int) 0 1999 = false := by
    show (_ && ((toldF l f).map PyData.int).all fun y => withinB y 0 1999) = false
    rcases h with h | h
    · rw [all_no (ns := toldF l f) (x := f + pre l 0) (List.mem_map.mpr ⟨0, List.mem_range.mpr (by omega), rfl⟩) (.inl (by show f + 0 < 0; omega)), Bool.and_false]
    · rw [all_no (ns := toldF l f) (x := f + pre l (l.leasts.length - 1)) (List.mem_map.mpr ⟨l.leasts.length - 1, List.mem_range.mpr (by omega), rfl⟩) (.inr (by omega)), Bool.and_false]
  have e2 : tripB [l] (tripF l f).d = false := by
    have e3 : tripB [l] (tripF l f).d = (wordB (.str "trip") ["trip"] && (withinB (.int 0) 0 (([l].length : Int) - 1) && (arewB (intsT (toldF l f)) ((l.leasts.length : Nat) : Int) 0 1999 && slackB l (intsOf (intsT (toldF l f)))))) := rfl
    rw [e3, e, Bool.false_and, Bool.and_false, Bool.and_false]
  show (_ && ((tripB [l] (tripF l f).d && true) && _)) = false
  rw [e2, Bool.false_and, Bool.false_and, Bool.and_false]
theorem LW.two {l : Line} (w : LW l) {a b : Int} (ha : TripW [l] (tripF l a)) (hb : TripW [l] (tripF l b)) : tripsB [l] (trsD [tripF l a, tripF l b]) = decide (l.apart ≤ b - a) := by
  have l1 := w.l1
  rw [show tripsB [l] (trsD [tripF l a, tripF l b]) = apA [l] [tripF l a, tripF l b] from tripsB_W (by simp) (by simp) fun t ht => by
    simp only [List.mem_cons, List.not_mem_nil, or_false] at ht
    rcases ht with rfl | rfl
    · exact ha
    · exact hb]
  show (true && (((List.range (toldF l b).length).all fun h => decide (l.apart ≤ (toldF l b).getD h 0 - (toldF l a).getD h 0)) && true)) = _
  rw [Bool.true_and, Bool.and_true, told_len]
  by_cases h : l.apart ≤ b - a
  · rw [decide_eq_true h, List.all_eq_true]
    intro i hi
    have hi := List.mem_range.mp hi
    rw [told_at hi, told_at hi]
    exact decide_eq_true (by omega)
  · rw [decide_eq_false h, List.all_eq_false]
    refine ⟨0, List.mem_range.mpr (by omega), ?_⟩
    rw [told_at (by omega), told_at (by omega), decide_eq_false (by omega)]
    decide
theorem beat_pw {l : Line} (w : LW l) {f : Int} {many : Nat} : (beatT [l] 0 f l.apart many).Pairwise leT := by
  have l1 := w.l1
  have a1 := w.g.a1
  unfold beatT genT
  rw [List.pairwise_map]
  refine List.Pairwise.imp (R := fun a b => a < b) (fun {i j} hij => ?_) List.pairwise_lt_range
  show dataLt (Tr.d _) (Tr.d _) = false
  rw [lt_tr rfl rfl]
  unfold trLt
  rw [if_pos rfl]
  refine decide_eq_false ?_
  show ¬ ((List.range l.leasts.length).map (beatF l f l.apart j) < (List.range l.leasts.length).map (beatF l f l.apart i))
  obtain ⟨n, hn⟩ : ∃ n, l.leasts.length = n + 1 := ⟨l.leasts.length - 1, by omega⟩
  rw [hn, List.range_succ_eq_map, List.map_cons, List.map_cons, List.cons_lt_cons_iff]
  have m : l.apart * ((i : Nat) : Int) < l.apart * ((j : Nat) : Int) := Int.mul_lt_mul_of_pos_left (by omega) (by omega)
  show ¬ (f + l.apart * ((j : Nat) : Int) + 0 < f + l.apart * ((i : Nat) : Int) + 0 ∨ f + l.apart * ((j : Nat) : Int) + 0 = f + l.apart * ((i : Nat) : Int) + 0 ∧ _)
  omega
theorem okd_trip {l : Line} (w : LW l) {f : Int} (h1 : -5000 ≤ f) (h2 : f ≤ 5000) : OkD (tripF l f).d 20 2 := by
  have h4 := w.g.h4
  refine (okd_tuple (n := 3) (b := 4) (k := 1) (fun d hd => ?_)).mono
  simp only [List.mem_cons, List.not_mem_nil, or_false] at hd
  rcases hd with rfl | rfl | rfl
  · exact (okd_str (by decide +kernel)).mono (by decide +kernel)
  · show OkD (.int 0) 4 1
    exact (okd_int (by decide)).mono
  · refine (okd_tuple (n := 4) (b := 0) (k := 0) (fun d hd => ?_) (by rw [List.length_map, show (tripF l f).told = toldF l f from rfl, told_len]; exact h4)).mono
    obtain ⟨m, hm, rfl⟩ := List.mem_map.mp hd
    obtain ⟨h, hh, rfl⟩ := List.mem_map.mp hm
    have := pre_in w.g h (List.mem_range.mp hh)
    have := List.mem_range.mp hh
    exact okd_int (by omega)
theorem okd_beat {l : Line} (w : LW l) {f : Int} {many : Nat} (hm : many ≤ 16) (h1 : 0 ≤ f) (h2 : f ≤ 2000) : OkD (trsD (beatT [l] 0 f l.apart many)) 400 3 := by
  have a1 := w.g.a1
  have a2 := w.g.a2
  refine (okd_tuple (n := 16) (b := 20) (k := 2) (fun d hd => ?_) (by rw [List.length_map, gen_len]; exact hm)).mono
  obtain ⟨t, ht, rfl⟩ := List.mem_map.mp hd
  obtain ⟨k, hk, rfl⟩ := List.mem_map.mp ht
  have hk := List.mem_range.mp hk
  have m1 : l.apart * ((k : Nat) : Int) ≤ 30 * ((k : Nat) : Int) := Int.mul_le_mul_of_nonneg_right a2 (by omega)
  have m0 : 0 ≤ l.apart * ((k : Nat) : Int) := Int.mul_nonneg (by omega) (by omega)
  exact okd_trip w (f := f + l.apart * ((k : Nat) : Int)) (by omega) (by omega)
theorem LW.single {l : Line} (w : LW l) {f : Int} (f0 : 0 ≤ f) (h : f + runP l ≤ 1999) : tripsB [l] (trsD [tripF l f]) = true := by
  rw [← beat_one (e := l.apart)]
  refine w.trips f0 (by omega) (by omega) ?_
  show f + l.apart * ((0 : Nat) : Int) + runP l ≤ 1999
  rw [show ((0 : Nat) : Int) = 0 from rfl, Int.mul_zero]; omega
def rowsT (l : Line) (last : Int) : List (List Int × Bool) := [([last], true), ([last + 1], false), ([0], true), ([0 - 1], false), ([last - l.apart, last], true), ([last - l.apart + 1, last], false)]
def eT (l : Line) (x : List Int × Bool) : Dt := .tuple [trsD (x.1.map (tripF l)), .bool x.2]
theorem rowsT_ok {l : Line} (w : LW l) {last : Int} (e : last = 1999 - runP l) : ∀ x ∈ rowsT l last, tripsB [l] (trsD (x.1.map (tripF l))) = x.2 := fun x hx => by
  obtain ⟨r0, r1⟩ := w.run
  have a1 := w.g.a1
  have a2 := w.g.a2
  simp only [rowsT, List.mem_cons, List.not_mem_nil, or_false] at hx
  rcases hx with rfl | rfl | rfl | rfl | rfl | rfl
  · exact w.single (by omega) (by omega)
  · exact w.bad (.inr (by omega))
  · exact w.single (by omega) (by omega)
  · exact w.bad (.inl (by omega))
  · exact (w.two (w.one (by omega) (by omega)) (w.one (by omega) (by omega))).trans (decide_eq_true (by omega))
  · exact (w.two (w.one (by omega) (by omega)) (w.one (by omega) (by omega))).trans (decide_eq_false (by omega))
theorem at_beatT {l : Line} : atI ((beatT [l] 0 0 l.apart 16).map Tr.d) (-1) = some (tripF l (0 + l.apart * 15)).d := by
  unfold beatT genT
  rw [List.map_map, at_lastR (by omega)]
  rfl
theorem more_eq {l : Line} : (beatT [l] 0 0 l.apart 16).map Tr.d ++ [.tuple [.str "trip", .int 0, .tuple ((toldF l (0 + l.apart * 15 + l.apart)).map PyData.int)]] = (beatT [l] 0 0 l.apart 17).map Tr.d := by
  rw [show beatT [l] 0 0 l.apart 17 = beatT [l] 0 0 l.apart (16 + 1) from rfl, beat_add, List.map_append, beat_one, show 0 + l.apart * ((16 : Nat) : Int) = 0 + l.apart * 15 + l.apart by omega]
  rfl
theorem cut1 {l : Line} : cutD ((beatT [l] 0 0 l.apart 17).map Tr.d) (some 1) none = (beatT [l] 0 l.apart l.apart 16).map Tr.d := by
  refine (cut_lo (k := 1)).trans ?_
  rw [show beatT [l] 0 0 l.apart 17 = beatT [l] 0 0 l.apart (1 + 16) from rfl, beat_drop, show 0 + l.apart * ((1 : Nat) : Int) = l.apart by omega]
theorem cut16 {l : Line} : cutD ((beatT [l] 0 0 l.apart 17).map Tr.d) (some 16) none = (beatT [l] 0 (l.apart * 16) l.apart 1).map Tr.d := by
  refine (cut_lo (k := 16)).trans ?_
  rw [show beatT [l] 0 0 l.apart 17 = beatT [l] 0 0 l.apart (16 + 1) from rfl, beat_drop, show 0 + l.apart * ((16 : Nat) : Int) = l.apart * 16 by omega]
theorem cut8l {l : Line} : cutD ((beatT [l] 0 0 l.apart 16).map Tr.d) none (some 8) = (beatT [l] 0 0 l.apart 8).map Tr.d := by
  refine (cut_hi (k := 8)).trans ?_
  rw [show beatT [l] 0 0 l.apart 16 = beatT [l] 0 0 l.apart (8 + 8) from rfl, beat_take]
theorem cut8r {l : Line} : cutD ((beatT [l] 0 0 l.apart 16).map Tr.d) (some 8) none = (beatT [l] 0 (l.apart * 8) l.apart 8).map Tr.d := by
  refine (cut_lo (k := 8)).trans ?_
  rw [show beatT [l] 0 0 l.apart 16 = beatT [l] 0 0 l.apart (8 + 8) from rfl, beat_drop, show 0 + l.apart * ((8 : Nat) : Int) = l.apart * 8 by omega]
theorem cut1l {l : Line} : cutD ((beatT [l] 0 0 l.apart 16).map Tr.d) none (some 1) = (beatT [l] 0 0 l.apart 1).map Tr.d := by
  refine (cut_hi (k := 1)).trans ?_
  rw [show beatT [l] 0 0 l.apart 16 = beatT [l] 0 0 l.apart (1 + 15) from rfl, beat_take]
theorem n17 {l : Line} : tripsB [l] (.tuple ((beatT [l] 0 0 l.apart 17).map Tr.d)) = false := by
  have e : tupB (.tuple ((beatT [l] 0 0 l.apart 17).map Tr.d)) 1 16 = false := by
    show (decide ((1 : Int) ≤ ((((beatT [l] 0 0 l.apart 17).map Tr.d).length : Nat) : Int)) && decide (((((beatT [l] 0 0 l.apart 17).map Tr.d).length : Nat) : Int) ≤ 16)) = false
    rw [List.length_map, gen_len]; rfl
  show (tupB (.tuple ((beatT [l] 0 0 l.apart 17).map Tr.d)) 1 16 && _) = false
  rw [e, Bool.false_and]
theorem LW.join {l : Line} {y : City} (w : LW l) (ok : y.ok) (lsb : linesB y (linesD [l]) = true) : JoinIn y [l] (beatT [l] 0 0 l.apart 8) (beatT [l] 0 (l.apart * 8) l.apart 8) := by
  obtain ⟨r0, r1⟩ := w.run
  have a1 := w.g.a1
  have a2 := w.g.a2
  obtain ⟨x1, x2⟩ := w.beat (f := 0) (many := 8) (by omega) (by omega) (show 0 + l.apart * 7 + runP l ≤ 1999 by omega)
  obtain ⟨z1, z2⟩ := w.beat (f := l.apart * 8) (many := 8) (by omega) (by omega) (show l.apart * 8 + l.apart * 7 + runP l ≤ 1999 by omega)
  exact ⟨ok, lsb, by simp, fun l' h => by rw [List.mem_singleton.mp h]; exact w.g.fit, by rw [gen_len]; omega, by rw [gen_len]; omega, by rw [gen_len, gen_len]; omega, x1, z1, x2, z2⟩
theorem LW.srt {l : Line} (w : LW l) : Srt (beatT [l] 0 0 l.apart 16) (beatT [l] 0 0 l.apart 8 ++ beatT [l] 0 (l.apart * 8) l.apart 8) := by
  have e : beatT [l] 0 0 l.apart 16 = beatT [l] 0 0 l.apart 8 ++ beatT [l] 0 (l.apart * 8) l.apart 8 := by
    rw [show beatT [l] 0 0 l.apart 16 = beatT [l] 0 0 l.apart (8 + 8) from rfl, beat_add, show 0 + l.apart * ((8 : Nat) : Int) = l.apart * 8 by omega]
  exact ⟨by rw [← e], beat_pw w⟩
theorem LW.joinD {l : Line} (w : LW l) : joinD [l] (beatT [l] 0 0 l.apart 16) = trsD (beatT [l] 0 0 l.apart 16) := by
  obtain ⟨r0, r1⟩ := w.run
  have a1 := w.g.a1
  have a2 := w.g.a2
  obtain ⟨x1, x2⟩ := w.beat (f := 0) (many := 16) (by omega) (by omega) (show 0 + l.apart * 15 + runP l ≤ 1999 by omega)
  unfold K19.joinD
  rw [if_pos x2]
  rfl
end K19

set_option linter.all false
set_option maxRecDepth 100000
set_option maxHeartbeats 4000000
set_option maxHeartbeats 40000000
namespace Dv
open PySem PySem.Spec PyProof.Rows L2 RZ
variable [Tbl]
theorem cp_notB {X : Cx} {S : Bool → Prop} {i j : Bool} (k : S (!decide (i = j))) : CmpP X .IsNot (.bool i) (.bool j) S := ⟨_, op_isnot_bl, by
  intro p B G H v w i3 h1 h2 Q q
  cases h1; cases h2
  exact ⟨i, j, rfl, rfl, q _ _ G H ⟨_, rfl, k⟩ (.refl i3) (.bl _)⟩⟩
end Dv
namespace K19
open PySem PySem.Spec PyProof.Rows L2 RZ Dv PySem.W
open LamX (LamS lamEnv lamCx CodeO TabB ExtN Tabs)
variable [Tbl]
abbrev sLTR : Stmt := at_def "_law_trips_right"
theorem atL {ns : List Int} {n : Nat} (h : ns.length = n) (h1 : 1 ≤ n) : atI (ns.map PyData.int) (-1) = some (.int (ns.getD (n - 1) 0)) := at_last (k := n - 1) (by omega)
section
variable {P : Program} {w : World} {K : Fg} {mg : Str → Option Value} {base : Heap} {f : Addr} {fd : FuncData}
abbrev NTr : List Str := ["pot", "city", "hops", "apart", "lines", "run", "last", "steps", "told", "rows", "near", "whole", "more", "due", "hop", "step", "minute", "value"]
theorem scLTR : FnScope NTr ["pot", "city"] (defScope sLTR) := ⟨rfl, rfl, rfl, by decide +kernel, rfl, by decide +kernel, by decide +kernel⟩
theorem ltr3 {C1' f1 C2' f2 C3' f3 C4' f4 C5' f5 cc P0 : Addr} (T : Free mg) (Hr : Hear K mg C1' f1 C2' f2 C3' f3 C4' f4 C5' f5) (Hd : HeardD K mg) (hcode : fd.code = .ref cc) (TB : TabB base mg cc P0) (hmT : (P0, lq "_law_trips_right") ∈ Tbl.ts) (hu0 : ∀ p ∈ Tbl.ts, p.1 = P0 → p.2 = lq "_law_trips_right")
    (C1 : Cal P w K mg base 1 "_law_draw" ["pot", "many"] sLDraw (spP K rLDraw)) (C2 : Cal P w K mg base 1 "_law_line" ["hops", "least", "stand", "apart"] sLLine (spD K rLLine)) (C3 : Cal P w K mg base 3 "least_between" ["line", "first", "last"] sLeast (spD K rLeast)) (C4 : Cal P w K mg base 10 "are_trips" ["city", "lines", "value"] sAreTrips (spD K rTripsAre)) (C5 : Cal P w K mg base 5 "told_arrival" ["lines", "trip", "hop"] sToldArr (spD K rToldArr)) (C6 : Cal P w K mg base 10 "beat" ["city", "lines", "line", "first", "every", "many"] sBeat (spD K rBeat)) (C7 : CalX P w K mg base 10 "beat" ["city", "lines", "line", "first", "every", "many"] sBeat (spX K mg rBX)) (C8 : Cal P w K mg base 12 "joined_trips" ["city", "lines", "trips", "other"] sJoined (spD K rJoined)) (C9 : CalX P w K mg base 12 "joined_trips" ["city", "lines", "trips", "other"] sJoined (spX K mg rJoinX)) 
    {A : Around} {outer : List Env} {s : Shared} {H : Hp} {E : L2.XK} (hr : Room 14 (xc P w K mg base NTr "_law_trips_right" sLTR f fd.code A outer s H E).A) (hgd : (xc P w K mg base NTr "_law_trips_right" sLTR f fd.code A outer s H E).A.guards = some []) (hu : (xc P w K mg base NTr "_law_trips_right" sLTR f fd.code A outer s H E).A.units + 64 < cLine)
    {y : City} {l : Line} {last : Int} {rws : Dt} (cok : y.ok) (W : LW l) (lsb : linesB y (linesD [l]) = true) (hlast : last = 1999 - runP l) : SsD (xc P w K mg base NTr "_law_trips_right" sLTR f fd.code A outer s H E) ((defBody sLTR).drop 16) [.pot, .d y.d, .d (.int ((l.leasts.length : Nat) : Int)), .d (.int l.apart), .d (linesD [l]), .d (.int (runP l)), .d (.int last), .d (.list ((toldF l 0).map PyData.int)), .d (.tuple ((toldF l last).map PyData.int)), .d rws, .d (.tuple ((toldF l (last - l.apart)).map PyData.int)), .d (.tuple ((beatT [l] 0 0 l.apart 16).map Tr.d)), .d (.tuple ((beatT [l] 0 0 l.apart 17).map Tr.d)), .no, .no, .no, .no, .no] { nx := fun _ => PyData.none = PyData.bool true, rt := fun d => d = PyData.bool true } := by
  have hN := scLTR.nd
  obtain ⟨g, fdg, hm, hk, bd, Fg⟩ := Hd.ex
  have gl := W.g
  have sl := gl.fit.sl
  have tl := gl.fit.tl
  have h4 := gl.h4
  have l1 := W.l1
  have lfit : ∀ l' ∈ [l], Lfit l' := fun l' h => by rw [List.mem_singleton.mp h]; exact gl.fit
  obtain ⟨r0, r1⟩ := W.run
  have ga : ∀ l' ∈ [l], LineG l' := fun l' h => by rw [List.mem_singleton.mp h]; exact gl
  have la1 := gl.a1
  have la2 := gl.a2
  have bin : ∀ (f : Int) (m : Nat), 0 ≤ f → f ≤ 1999 → 1 ≤ m → m ≤ 16 → BeatIn y [l] 0 f l.apart m := fun f m f0 f1 m1 m2 => ⟨cok, lsb, by simp, ga, by simp, l1, f0, f1, Int.le_refl _, by show l.apart ≤ 240; omega, m1, m2⟩
  have t16 := W.trips (f := 0) (many := 16) (by omega) (by omega) (by omega) (show 0 + l.apart * 15 + runP l ≤ 1999 by omega)
  change tripsB [l] (.tuple ((beatT [l] 0 0 l.apart 16).map Tr.d)) = true at t16
  refine s_eq (by conv => { lhs; whnf }) ?_
  have b0 : BIn0 y [l] 0 := ⟨cok, lsb, by simp, ga, by simp, l1⟩
  have tl1 : tripsB [l] (trsD (beatT [l] 0 (l.apart * 16) l.apart 1)) = true := W.trips (by omega) (by omega) (by omega) (show l.apart * 16 + l.apart * 0 + runP l ≤ 1999 by omega)
  have tl0 : tripsB [l] (trsD (beatT [l] 0 0 l.apart 1)) = true := W.trips (by omega) (by omega) (by omega) (show 0 + l.apart * 0 + runP l ≤ 1999 by omega)
  refine s_newOwn (i := 8) (F := fun es => [.pot, .d y.d, .d (.int ((l.leasts.length : Nat) : Int)), .d (.int l.apart), .d (linesD [l]), .d (.int (runP l)), .d (.int last), .d (.list ((toldF l 0).map PyData.int)), .own es, .d rws, .d (.tuple ((toldF l (last - l.apart)).map PyData.int)), .d (.tuple ((beatT [l] 0 0 l.apart 16).map Tr.d)), .d (.tuple ((beatT [l] 0 0 l.apart 17).map Tr.d)), .no, .no, .no, .no, .no]) (by repeat (first | exact Nx.z | apply Nx.s)) (by intro _; repeat (first | exact SetR.z | apply SetR.s)) ?_
  refine o_lst ?_
  refine a_c ?_
  refine c_heard (R := fun d => d = trsD [tripF l last]) (ox := fun _ _ => False) (k := 12) hm hk Fg bd scLHeard rfl (.inl rfl) (giv (k := 13) T Hr hr hgd (fun d hd => ?kk0) (fun cn y z => z.elim) g) TB hcode hmT hu0 (lamB_val fun A outer s H E f co r g2 => ?bb0) (LamX.lamS_by (by rfl))
  case bb0 =>
    refine c_call C6 ?_
    refine a_c ?_
    and_intros
    exact ⟨_, ⟨y, [l], 0, last, l.apart, 1, bin last 1 (by omega) (by omega) (by omega) (by omega), (show last + l.apart * 0 + runP l ≤ 1999 by omega), rfl, rfl⟩, by rw [beat_one]; rfl⟩
  subst hd
  refine a_n ⟨by simp, ?_⟩
  refine s_append (i := 8) (F := fun d => [.pot, .d y.d, .d (.int ((l.leasts.length : Nat) : Int)), .d (.int l.apart), .d (linesD [l]), .d (.int (runP l)), .d (.int last), .d (.list ((toldF l 0).map PyData.int)), .own ([trsD [tripF l last]] ++ [d]), .d rws, .d (.tuple ((toldF l (last - l.apart)).map PyData.int)), .d (.tuple ((beatT [l] 0 0 l.apart 16).map Tr.d)), .d (.tuple ((beatT [l] 0 0 l.apart 17).map Tr.d)), .no, .no, .no, .no, .no]) (by repeat (first | exact Nx.z | apply Nx.s)) rfl (by intro _; repeat (first | exact SetR.z | apply SetR.s)) (by simp) ?_
  refine c_heard (R := fun _ => False) (ox := fun cn y => cn = "TooMany" ∧ y = err2 (.str "minutes") (.int 1999)) (k := 12) hm hk Fg bd scLHeard rfl (.inl rfl) (giv (k := 13) T Hr hr hgd (fun d z => z.elim) (tells_2 ?kk1) g) TB hcode hmT hu0 (lamB_exc fun A outer s H E f co r g2 => ?bb1) (LamX.lamS_by (by rfl))
  case bb1 =>
    refine r_call C7 ?_
    refine a_c ?_
    and_intros
    exact ⟨_, _, ⟨y, [l], 0, 1999, l.apart, 2, b0, rfl, .inr (.inr (.inr ⟨within_ok (a := 0) (b := 1999) (by omega) (by omega), within_ok (a := l.apart) (b := 240) (by omega) (by omega), by decide, (show 1999 < 1999 + l.apart * 1 + runP l by omega), rfl, rfl⟩))⟩, rfl, rfl⟩
  refine s_append (i := 8) (F := fun d => [.pot, .d y.d, .d (.int ((l.leasts.length : Nat) : Int)), .d (.int l.apart), .d (linesD [l]), .d (.int (runP l)), .d (.int last), .d (.list ((toldF l 0).map PyData.int)), .own ([trsD [tripF l last]] ++ [.list [.str "too many", .str "minutes", .int 1999]] ++ [d]), .d rws, .d (.tuple ((toldF l (last - l.apart)).map PyData.int)), .d (.tuple ((beatT [l] 0 0 l.apart 16).map Tr.d)), .d (.tuple ((beatT [l] 0 0 l.apart 17).map Tr.d)), .no, .no, .no, .no, .no]) (by repeat (first | exact Nx.z | apply Nx.s)) rfl (by intro _; repeat (first | exact SetR.z | apply SetR.s)) (by simp) ?_
  refine c_heard (R := fun _ => False) (ox := fun cn y => cn = "InvalidMinute" ∧ y = .int 2000) (k := 12) hm hk Fg bd scLHeard rfl (.inl rfl) (giv (k := 13) T Hr hr hgd (fun d z => z.elim) (tells_m ⟨(okd_int (by omega)).mono, rfl⟩ ?kk2) g) TB hcode hmT hu0 (lamB_exc fun A outer s H E f co r g2 => ?bb2) (LamX.lamS_by (by rfl))
  case bb2 =>
    refine r_call C7 ?_
    refine a_c ?_
    and_intros
    exact ⟨_, _, ⟨y, [l], 0, 2000, l.apart, 1, b0, rfl, .inl ⟨within_no (by omega), rfl, rfl⟩⟩, rfl, rfl⟩
  refine s_append (i := 8) (F := fun d => [.pot, .d y.d, .d (.int ((l.leasts.length : Nat) : Int)), .d (.int l.apart), .d (linesD [l]), .d (.int (runP l)), .d (.int last), .d (.list ((toldF l 0).map PyData.int)), .own ([trsD [tripF l last]] ++ [.list [.str "too many", .str "minutes", .int 1999]] ++ [hW "minute" (.int 2000)] ++ [d]), .d rws, .d (.tuple ((toldF l (last - l.apart)).map PyData.int)), .d (.tuple ((beatT [l] 0 0 l.apart 16).map Tr.d)), .d (.tuple ((beatT [l] 0 0 l.apart 17).map Tr.d)), .no, .no, .no, .no, .no]) (by repeat (first | exact Nx.z | apply Nx.s)) rfl (by intro _; repeat (first | exact SetR.z | apply SetR.s)) (by simp) ?_
  refine c_heard (R := fun _ => False) (ox := fun cn y => cn = "InvalidEvery" ∧ y = .int 241) (k := 12) hm hk Fg bd scLHeard rfl (.inl rfl) (giv (k := 13) T Hr hr hgd (fun d z => z.elim) (tells_e ⟨(okd_int (by omega)).mono, rfl⟩ ?kk3) g) TB hcode hmT hu0 (lamB_exc fun A outer s H E f co r g2 => ?bb3) (LamX.lamS_by (by rfl))
  case bb3 =>
    refine r_call C7 ?_
    refine a_c ?_
    and_intros
    exact ⟨_, _, ⟨y, [l], 0, 0, 241, 1, b0, rfl, .inr (.inl ⟨within_ok (a := 0) (b := 1999) (by omega) (by omega), within_no (a := l.apart) (b := 240) (by omega), rfl, rfl⟩)⟩, rfl, rfl⟩
  refine s_append (i := 8) (F := fun d => [.pot, .d y.d, .d (.int ((l.leasts.length : Nat) : Int)), .d (.int l.apart), .d (linesD [l]), .d (.int (runP l)), .d (.int last), .d (.list ((toldF l 0).map PyData.int)), .own ([trsD [tripF l last]] ++ [.list [.str "too many", .str "minutes", .int 1999]] ++ [hW "minute" (.int 2000)] ++ [hW "every" (.int 241)] ++ [d]), .d rws, .d (.tuple ((toldF l (last - l.apart)).map PyData.int)), .d (.tuple ((beatT [l] 0 0 l.apart 16).map Tr.d)), .d (.tuple ((beatT [l] 0 0 l.apart 17).map Tr.d)), .no, .no, .no, .no, .no]) (by repeat (first | exact Nx.z | apply Nx.s)) rfl (by intro _; repeat (first | exact SetR.z | apply SetR.s)) (by simp) ?_
  refine c_heard (R := fun _ => False) (ox := fun cn y => cn = "InvalidEvery" ∧ y = .int (l.apart - 1)) (k := 12) hm hk Fg bd scLHeard rfl (.inl rfl) (giv (k := 13) T Hr hr hgd (fun d z => z.elim) (tells_e ⟨(okd_int (by omega)).mono, rfl⟩ ?kk4) g) TB hcode hmT hu0 (lamB_exc fun A outer s H E f co r g2 => ?bb4) (LamX.lamS_by (by rfl))
  case bb4 =>
    refine r_call C7 ?_
    refine a_c ?_
    and_intros
    exact ⟨_, _, ⟨y, [l], 0, 0, l.apart - 1, 1, b0, rfl, .inr (.inl ⟨within_ok (a := 0) (b := 1999) (by omega) (by omega), within_no (a := l.apart) (b := 240) (by omega), rfl, rfl⟩)⟩, rfl, rfl⟩
  refine s_append (i := 8) (F := fun d => [.pot, .d y.d, .d (.int ((l.leasts.length : Nat) : Int)), .d (.int l.apart), .d (linesD [l]), .d (.int (runP l)), .d (.int last), .d (.list ((toldF l 0).map PyData.int)), .own ([trsD [tripF l last]] ++ [.list [.str "too many", .str "minutes", .int 1999]] ++ [hW "minute" (.int 2000)] ++ [hW "every" (.int 241)] ++ [hW "every" (.int (l.apart - 1))] ++ [d]), .d rws, .d (.tuple ((toldF l (last - l.apart)).map PyData.int)), .d (.tuple ((beatT [l] 0 0 l.apart 16).map Tr.d)), .d (.tuple ((beatT [l] 0 0 l.apart 17).map Tr.d)), .no, .no, .no, .no, .no]) (by repeat (first | exact Nx.z | apply Nx.s)) rfl (by intro _; repeat (first | exact SetR.z | apply SetR.s)) (by simp) ?_
  refine c_heard (R := fun _ => False) (ox := fun cn y => cn = "InvalidMany" ∧ y = .int 17) (k := 12) hm hk Fg bd scLHeard rfl (.inl rfl) (giv (k := 13) T Hr hr hgd (fun d z => z.elim) (tells_n ⟨(okd_int (by omega)).mono, rfl⟩ ?kk5) g) TB hcode hmT hu0 (lamB_exc fun A outer s H E f co r g2 => ?bb5) (LamX.lamS_by (by rfl))
  case bb5 =>
    refine r_call C7 ?_
    refine a_c ?_
    and_intros
    exact ⟨_, _, ⟨y, [l], 0, 0, 240, 17, b0, rfl, .inr (.inr (.inl ⟨within_ok (a := 0) (b := 1999) (by omega) (by omega), within_ok (a := l.apart) (b := 240) (by omega) (by omega), by decide, rfl, rfl⟩))⟩, rfl, rfl⟩
  refine s_append (i := 8) (F := fun d => [.pot, .d y.d, .d (.int ((l.leasts.length : Nat) : Int)), .d (.int l.apart), .d (linesD [l]), .d (.int (runP l)), .d (.int last), .d (.list ((toldF l 0).map PyData.int)), .own ([trsD [tripF l last]] ++ [.list [.str "too many", .str "minutes", .int 1999]] ++ [hW "minute" (.int 2000)] ++ [hW "every" (.int 241)] ++ [hW "every" (.int (l.apart - 1))] ++ [hW "many" (.int 17)] ++ [d]), .d rws, .d (.tuple ((toldF l (last - l.apart)).map PyData.int)), .d (.tuple ((beatT [l] 0 0 l.apart 16).map Tr.d)), .d (.tuple ((beatT [l] 0 0 l.apart 17).map Tr.d)), .no, .no, .no, .no, .no]) (by repeat (first | exact Nx.z | apply Nx.s)) rfl (by intro _; repeat (first | exact SetR.z | apply SetR.s)) (by simp) ?_
  refine c_heard (R := fun _ => False) (ox := fun cn y => cn = "InvalidMany" ∧ y = .int 0) (k := 12) hm hk Fg bd scLHeard rfl (.inl rfl) (giv (k := 13) T Hr hr hgd (fun d z => z.elim) (tells_n ⟨(okd_int (by omega)).mono, rfl⟩ ?kk6) g) TB hcode hmT hu0 (lamB_exc fun A outer s H E f co r g2 => ?bb6) (LamX.lamS_by (by rfl))
  case bb6 =>
    refine r_call C7 ?_
    refine a_c ?_
    and_intros
    exact ⟨_, _, ⟨y, [l], 0, 0, 240, 0, b0, rfl, .inr (.inr (.inl ⟨within_ok (a := 0) (b := 1999) (by omega) (by omega), within_ok (a := l.apart) (b := 240) (by omega) (by omega), by decide, rfl, rfl⟩))⟩, rfl, rfl⟩
  refine s_append (i := 8) (F := fun d => [.pot, .d y.d, .d (.int ((l.leasts.length : Nat) : Int)), .d (.int l.apart), .d (linesD [l]), .d (.int (runP l)), .d (.int last), .d (.list ((toldF l 0).map PyData.int)), .own ([trsD [tripF l last]] ++ [.list [.str "too many", .str "minutes", .int 1999]] ++ [hW "minute" (.int 2000)] ++ [hW "every" (.int 241)] ++ [hW "every" (.int (l.apart - 1))] ++ [hW "many" (.int 17)] ++ [hW "many" (.int 0)] ++ [d]), .d rws, .d (.tuple ((toldF l (last - l.apart)).map PyData.int)), .d (.tuple ((beatT [l] 0 0 l.apart 16).map Tr.d)), .d (.tuple ((beatT [l] 0 0 l.apart 17).map Tr.d)), .no, .no, .no, .no, .no]) (by repeat (first | exact Nx.z | apply Nx.s)) rfl (by intro _; repeat (first | exact SetR.z | apply SetR.s)) (by simp) ?_
  refine c_heard (R := fun d => d = trsD (beatT [l] 0 0 l.apart 16)) (ox := fun _ _ => False) (k := 12) hm hk Fg bd scLHeard rfl (.inl rfl) (giv (k := 13) T Hr hr hgd (fun d hd => ?kk7) (fun cn y z => z.elim) g) TB hcode hmT hu0 (lamB_val fun A outer s H E f co r g2 => ?bb7) (LamX.lamS_by (by rfl))
  case bb7 =>
    refine c_call C8 ?_
    refine a_c ?_
    and_intros
    rw [cut8l, cut8r]
    exact ⟨_, ⟨y, [l], _, _, _, W.join cok lsb, W.srt, rfl, rfl⟩, W.joinD⟩
  subst hd
  refine s_append (i := 8) (F := fun d => [.pot, .d y.d, .d (.int ((l.leasts.length : Nat) : Int)), .d (.int l.apart), .d (linesD [l]), .d (.int (runP l)), .d (.int last), .d (.list ((toldF l 0).map PyData.int)), .own ([trsD [tripF l last]] ++ [.list [.str "too many", .str "minutes", .int 1999]] ++ [hW "minute" (.int 2000)] ++ [hW "every" (.int 241)] ++ [hW "every" (.int (l.apart - 1))] ++ [hW "many" (.int 17)] ++ [hW "many" (.int 0)] ++ [trsD (beatT [l] 0 0 l.apart 16)] ++ [d]), .d rws, .d (.tuple ((toldF l (last - l.apart)).map PyData.int)), .d (.tuple ((beatT [l] 0 0 l.apart 16).map Tr.d)), .d (.tuple ((beatT [l] 0 0 l.apart 17).map Tr.d)), .no, .no, .no, .no, .no]) (by repeat (first | exact Nx.z | apply Nx.s)) rfl (by intro _; repeat (first | exact SetR.z | apply SetR.s)) (by simp) ?_
  refine c_heard (R := fun _ => False) (ox := fun cn y => cn = "TooMany" ∧ y = err2 (.str "trips") (.int 16)) (k := 12) hm hk Fg bd scLHeard rfl (.inl rfl) (giv (k := 13) T Hr hr hgd (fun d z => z.elim) (tells_2 ?kk8) g) TB hcode hmT hu0 (lamB_exc fun A outer s H E f co r g2 => ?bb8) (LamX.lamS_by (by rfl))
  case bb8 =>
    refine r_call C9 ?_
    refine a_c ?_
    and_intros
    rw [cut16]
    exact ⟨_, _, ⟨y, [l], _, _, cok, lsb, by simp, lfit, t16, tl1, by rw [gen_len, gen_len]; omega, rfl, rfl, rfl⟩, rfl, rfl⟩
  refine s_append (i := 8) (F := fun d => [.pot, .d y.d, .d (.int ((l.leasts.length : Nat) : Int)), .d (.int l.apart), .d (linesD [l]), .d (.int (runP l)), .d (.int last), .d (.list ((toldF l 0).map PyData.int)), .own ([trsD [tripF l last]] ++ [.list [.str "too many", .str "minutes", .int 1999]] ++ [hW "minute" (.int 2000)] ++ [hW "every" (.int 241)] ++ [hW "every" (.int (l.apart - 1))] ++ [hW "many" (.int 17)] ++ [hW "many" (.int 0)] ++ [trsD (beatT [l] 0 0 l.apart 16)] ++ [.list [.str "too many", .str "trips", .int 16]] ++ [d]), .d rws, .d (.tuple ((toldF l (last - l.apart)).map PyData.int)), .d (.tuple ((beatT [l] 0 0 l.apart 16).map Tr.d)), .d (.tuple ((beatT [l] 0 0 l.apart 17).map Tr.d)), .no, .no, .no, .no, .no]) (by repeat (first | exact Nx.z | apply Nx.s)) rfl (by intro _; repeat (first | exact SetR.z | apply SetR.s)) (by simp) ?_
  refine c_heard (R := fun _ => False) (ox := fun cn y => cn = "TooMany" ∧ y = err2 (.str "trips") (.int 16)) (k := 12) hm hk Fg bd scLHeard rfl (.inl rfl) (giv (k := 13) T Hr hr hgd (fun d z => z.elim) (tells_2 ?kk9) g) TB hcode hmT hu0 (lamB_exc fun A outer s H E f co r g2 => ?bb9) (LamX.lamS_by (by rfl))
  case bb9 =>
    refine r_call C9 ?_
    refine a_c ?_
    and_intros
    rw [cut1l]
    exact ⟨_, _, ⟨y, [l], _, _, cok, lsb, by simp, lfit, t16, tl0, by rw [gen_len, gen_len]; omega, rfl, rfl, rfl⟩, rfl, rfl⟩
  have eL : PyData.list [trsD [tripF l last], .list [.str "too many", .str "minutes", .int 1999], hW "minute" (.int 2000), hW "every" (.int 241), hW "every" (.int (l.apart - 1)), hW "many" (.int 17), hW "many" (.int 0), trsD (beatT [l] 0 0 l.apart 16), .list [.str "too many", .str "trips", .int 16], .list [.str "too many", .str "trips", .int 16]] = PyData.list [trsD [tripF l last], .list [.str "too many", .str "minutes", .int 1999], .list [.str "minute", .str "2000"], .list [.str "every", .str "241"], .list [.str "every", .str (PyData.shown (.int (l.apart - 1)))], .list [.str "many", .str "17"], .list [.str "many", .str "0"], trsD (beatT [l] 0 0 l.apart 16), .list [.str "too many", .str "trips", .int 16], .list [.str "too many", .str "trips", .int 16]] := by
    unfold hW
    rw [show PyData.shown (.int 2000) = "2000" by decide +kernel, show PyData.shown (.int 241) = "241" by decide +kernel, show PyData.shown (.int 17) = "17" by decide +kernel, show PyData.shown (.int 0) = "0" by decide +kernel]
  have oi : ∀ i : Int, -1000 ≤ i → i ≤ 5000 → OkD (.int i) 182 2 := fun i h1 h2 => (okd_int (by omega)).mono
  have ot : ∀ a b : Dt, OkD a 100 0 → OkD b 100 0 → OkD (.list [.str "too many", a, b]) 20000 4 := fun a b ha hb => (okd_list (n := 3) (b := 100) (k := 0) (fun d hd => by
    simp only [List.mem_cons, List.not_mem_nil, or_false] at hd
    rcases hd with rfl | rfl | rfl
    · exact (okd_str (by decide +kernel)).mono (by decide +kernel)
    · exact ha
    · exact hb)).mono
  have okv : OkD (PyData.list [trsD [tripF l last], .list [.str "too many", .str "minutes", .int 1999], hW "minute" (.int 2000), hW "every" (.int 241), hW "every" (.int (l.apart - 1)), hW "many" (.int 17), hW "many" (.int 0), trsD (beatT [l] 0 0 l.apart 16), .list [.str "too many", .str "trips", .int 16], .list [.str "too many", .str "trips", .int 16]]) 390000 40 := (okd_list (n := 10) (b := 20000) (k := 4) (fun d hd => by
    simp only [List.mem_cons, List.not_mem_nil, or_false] at hd
    rcases hd with rfl | rfl | rfl | rfl | rfl | rfl | rfl | rfl | rfl | rfl
    · exact (okd_tuple (n := 1) (b := 20) (k := 2) (fun d hd => by rw [List.mem_singleton.mp hd]; exact okd_trip W (by omega) (by omega)) (by simp)).mono
    · exact ot _ _ ((okd_str (by decide +kernel)).mono (by decide +kernel)) (okd_int (by decide)).mono
    · exact (okd_told (by decide +kernel) (by decide +kernel) (oi _ (by omega) (by omega)) rfl).mono
    · exact (okd_told (by decide +kernel) (by decide +kernel) (oi _ (by omega) (by omega)) rfl).mono
    · exact (okd_told (by decide +kernel) (by decide +kernel) (oi _ (by omega) (by omega)) rfl).mono
    · exact (okd_told (by decide +kernel) (by decide +kernel) (oi _ (by omega) (by omega)) rfl).mono
    · exact (okd_told (by decide +kernel) (by decide +kernel) (oi _ (by omega) (by omega)) rfl).mono
    · exact (okd_beat W (by omega) (by omega) (by omega)).mono
    · exact ot _ _ ((okd_str (by decide +kernel)).mono (by decide +kernel)) (okd_int (by decide)).mono
    · exact ot _ _ ((okd_str (by decide +kernel)).mono (by decide +kernel)) (okd_int (by decide)).mono) (by simp)).mono
  infer_instance
  repeat (first | (refine ⟨show List.length _ ≤ _ by simp, ?_⟩) | infer_instance)
  refine c_comp (α := Int) [("step", 15)] (blkOk_by (N := NTr) (sc := defScope sLTR) (by decide +kernel)) ?_
  refine i_seq ?_
  infer_instance
  refine seq_l ⟨toldF l 0, PyData.int, fun m => .int (last + m), rfl, by rw [told_len]; omega, fun i m hm => ⟨_, fun s H C cl fp => by nofun, fun s H C cl fp => ?_⟩, ?_⟩
  · and_intros
    rfl
  rw [told_last]
  refine f_tupL ?_
  repeat (first | (refine ⟨show List.length _ ≤ _ by simp, ?_⟩) | infer_instance)
  refine f_repr hgd hu (oi _ (by omega) (by omega)).mono ?_
  repeat (first | (refine ⟨show List.length _ ≤ _ by simp, ?_⟩) | infer_instance)
  refine bp_cat (by simp) ?_
  refine s_freeze 8 rfl (by repeat (first | exact SetR.z | apply SetR.s)) ?_
  refine s_eq (by conv => { lhs; whnf }) ?_
  refine s_ret' ?_
  infer_instance
  infer_instance
  refine c_var (by repeat (first | exact Nx.z | apply Nx.s)) rfl ?_
  refine f_repr hgd hu okv ?_
  refine c_repr ?_
  infer_instance
  refine f_repr hgd hu (show OkD _ _ _ from eL ▸ okv) ?_
  infer_instance
  exact congrArg PyData.bool (decide_eq_true (congrArg PyData.shown eL))
end
end K19

set_option linter.all false
set_option maxRecDepth 100000
set_option maxHeartbeats 4000000
namespace K19
open PySem PySem.Spec PyProof.Rows L2 RZ Dv PySem.W
open LamX (LamS lamEnv lamCx CodeO TabB ExtN Tabs)
variable [Tbl]
section
variable {P : Program} {w : World} {K : Fg} {mg : Str → Option Value} {base : Heap} {f : Addr} {fd : FuncData}
theorem ltr2 {C1' f1 C2' f2 C3' f3 C4' f4 C5' f5 cc P0 : Addr} (T : Free mg) (Hr : Hear K mg C1' f1 C2' f2 C3' f3 C4' f4 C5' f5) (Hd : HeardD K mg) (hcode : fd.code = .ref cc) (TB : TabB base mg cc P0) (hmT : (P0, lq "_law_trips_right") ∈ Tbl.ts) (hu0 : ∀ p ∈ Tbl.ts, p.1 = P0 → p.2 = lq "_law_trips_right")
    (C1 : Cal P w K mg base 1 "_law_draw" ["pot", "many"] sLDraw (spP K rLDraw)) (C2 : Cal P w K mg base 1 "_law_line" ["hops", "least", "stand", "apart"] sLLine (spD K rLLine)) (C3 : Cal P w K mg base 3 "least_between" ["line", "first", "last"] sLeast (spD K rLeast)) (C4 : Cal P w K mg base 10 "are_trips" ["city", "lines", "value"] sAreTrips (spD K rTripsAre)) (C5 : Cal P w K mg base 5 "told_arrival" ["lines", "trip", "hop"] sToldArr (spD K rToldArr)) (C6 : Cal P w K mg base 10 "beat" ["city", "lines", "line", "first", "every", "many"] sBeat (spD K rBeat)) (C7 : CalX P w K mg base 10 "beat" ["city", "lines", "line", "first", "every", "many"] sBeat (spX K mg rBX)) (C8 : Cal P w K mg base 12 "joined_trips" ["city", "lines", "trips", "other"] sJoined (spD K rJoined)) (C9 : CalX P w K mg base 12 "joined_trips" ["city", "lines", "trips", "other"] sJoined (spX K mg rJoinX)) 
    {A : Around} {outer : List Env} {s : Shared} {H : Hp} {E : L2.XK} (hr : Room 14 (xc P w K mg base NTr "_law_trips_right" sLTR f fd.code A outer s H E).A) (hgd : (xc P w K mg base NTr "_law_trips_right" sLTR f fd.code A outer s H E).A.guards = some []) (hu : (xc P w K mg base NTr "_law_trips_right" sLTR f fd.code A outer s H E).A.units + 64 < cLine)
    {y : City} {l : Line} {last : Int} {rws : Dt} (cok : y.ok) (W : LW l) (lsb : linesB y (linesD [l]) = true) (hlast : last = 1999 - runP l) : SsD (xc P w K mg base NTr "_law_trips_right" sLTR f fd.code A outer s H E) ((defBody sLTR).drop 14) [.pot, .d y.d, .d (.int ((l.leasts.length : Nat) : Int)), .d (.int l.apart), .d (linesD [l]), .d (.int (runP l)), .d (.int last), .d (.list ((toldF l 0).map PyData.int)), .d (.tuple ((toldF l last).map PyData.int)), .d rws, .d (.tuple ((toldF l (last - l.apart)).map PyData.int)), .d (.tuple ((beatT [l] 0 0 l.apart 16).map Tr.d)), .no, .no, .no, .no, .no, .no] { nx := fun _ => PyData.none = PyData.bool true, rt := fun d => d = PyData.bool true } := by
  have hN := scLTR.nd
  obtain ⟨g, fdg, hm, hk, bd, Fg⟩ := Hd.ex
  have gl := W.g
  have sl := gl.fit.sl
  have tl := gl.fit.tl
  have h4 := gl.h4
  have l1 := W.l1
  have lfit : ∀ l' ∈ [l], Lfit l' := fun l' h => by rw [List.mem_singleton.mp h]; exact gl.fit
  obtain ⟨r0, r1⟩ := W.run
  have ga : ∀ l' ∈ [l], LineG l' := fun l' h => by rw [List.mem_singleton.mp h]; exact gl
  have la1 := gl.a1
  have la2 := gl.a2
  have bin : ∀ (f : Int) (m : Nat), 0 ≤ f → f ≤ 1999 → 1 ≤ m → m ≤ 16 → BeatIn y [l] 0 f l.apart m := fun f m f0 f1 m1 m2 => ⟨cok, lsb, by simp, ga, by simp, l1, f0, f1, Int.le_refl _, by show l.apart ≤ 240; omega, m1, m2⟩
  have t16 := W.trips (f := 0) (many := 16) (by omega) (by omega) (by omega) (show 0 + l.apart * 15 + runP l ≤ 1999 by omega)
  change tripsB [l] (.tuple ((beatT [l] 0 0 l.apart 16).map Tr.d)) = true at t16
  refine s_eq (by conv => { lhs; whnf }) ?_
  and_intros
  refine c_comp (α := Int) [("minute", 16)] (blkOk_by (N := NTr) (sc := defScope sLTR) (by decide +kernel)) ?_
  refine i_seq ?_
  infer_instance
  infer_instance
  infer_instance
  infer_instance
  infer_instance
  infer_instance
  refine ip_tup at_beatT ?_
  and_intros
  refine ⟨toldF l (0 + l.apart * 15), PyData.int, fun m => .int (m + l.apart), rfl, by rw [told_len]; omega, fun i m hm => ⟨_, fun s H C cl fp => by nofun, fun s H C cl fp => ?_⟩, ?_⟩
  · and_intros
    rfl
  rw [told_add]
  refine f_tupL ?_
  repeat (first | (refine ⟨show List.length _ ≤ _ by simp, ?_⟩) | infer_instance)
  refine bp_catT (by rw [List.length_map, gen_len]; simp) ?_
  rw [more_eq]
  and_intros
  refine ⟨_, ⟨y, [l], _, cok, lsb, by simp, lfit, rfl, rfl⟩, ?_⟩
  rw [n17]
  infer_instance
  refine cp_notB ?_
  and_intros
  rw [cut1]
  refine ⟨_, ⟨y, [l], _, cok, lsb, by simp, lfit, rfl, rfl⟩, ?_⟩
  rw [show tripsB [l] (.tuple ((beatT [l] 0 l.apart l.apart 16).map Tr.d)) = true from W.trips (f := l.apart) (many := 16) (by omega) (by omega) (by omega) (show l.apart + l.apart * 15 + runP l ≤ 1999 by omega)]
  infer_instance
  refine cp_notB ?_
  and_intros
  refine ⟨by simp, ?_⟩
  and_intros
  refine ⟨_, ⟨y, [l], _, cok, lsb, by simp, lfit, rfl, rfl⟩, ?_⟩
  rw [show tripsB [l] (.tuple []) = false from rfl]
  infer_instance
  refine cp_notB ?_
  refine br_nis rfl ?_
  refine ss_n ?_
  exact s_eq (sts' := (defBody sLTR).drop 16) (by rfl) (ltr3 T Hr Hd hcode TB hmT hu0 C1 C2 C3 C4 C5 C6 C7 C8 C9 hr hgd hu cok W lsb hlast)
end
end K19

set_option linter.all false
set_option maxRecDepth 100000
set_option maxHeartbeats 4000000
namespace K19
open PySem PySem.Spec PyProof.Rows L2 RZ Dv PySem.W
open LamX (LamS lamEnv lamCx CodeO TabB ExtN Tabs)
variable [Tbl]
section
variable {P : Program} {w : World} {K : Fg} {mg : Str → Option Value} {base : Heap} {f : Addr} {fd : FuncData}
theorem f_ltr {C1' f1 C2' f2 C3' f3 C4' f4 C5' f5 cc P0 : Addr} (T : Free mg) (Hr : Hear K mg C1' f1 C2' f2 C3' f3 C4' f4 C5' f5) (Hd : HeardD K mg) (hcode : fd.code = .ref cc) (TB : TabB base mg cc P0) (hmT : (P0, lq "_law_trips_right") ∈ Tbl.ts) (hu0 : ∀ p ∈ Tbl.ts, p.1 = P0 → p.2 = lq "_law_trips_right")
    (C1 : Cal P w K mg base 1 "_law_draw" ["pot", "many"] sLDraw (spP K rLDraw)) (C2 : Cal P w K mg base 1 "_law_line" ["hops", "least", "stand", "apart"] sLLine (spD K rLLine)) (C3 : Cal P w K mg base 3 "least_between" ["line", "first", "last"] sLeast (spD K rLeast)) (C4 : Cal P w K mg base 10 "are_trips" ["city", "lines", "value"] sAreTrips (spD K rTripsAre)) (C5 : Cal P w K mg base 5 "told_arrival" ["lines", "trip", "hop"] sToldArr (spD K rToldArr)) (C6 : Cal P w K mg base 10 "beat" ["city", "lines", "line", "first", "every", "many"] sBeat (spD K rBeat)) (C7 : CalX P w K mg base 10 "beat" ["city", "lines", "line", "first", "every", "many"] sBeat (spX K mg rBX)) (C8 : Cal P w K mg base 12 "joined_trips" ["city", "lines", "trips", "other"] sJoined (spD K rJoined)) (C9 : CalX P w K mg base 12 "joined_trips" ["city", "lines", "trips", "other"] sJoined (spX K mg rJoinX)) (F : Fun K "_law_trips_right" "_law_trips_right" sLTR f fd) : FnG P w K mg base 15 f fd ["pot", "city"] (spP K rLLR) := by
  refine fn_potC F scLTR (fun ds U ⟨_, _, _, _, _, _, e, _⟩ => by subst e; rfl) fun A outer s H E hr hgd hu ds U h => ?_
  obtain ⟨n, way, n2, n12, w2, w9, rfl, rfl⟩ := h
  have hN := scLTR.nd
  obtain ⟨g, fdg, hm, hk, bd, Fg⟩ := Hd.ex
  have cok : (cityC n 1 0 way).ok := city_yes (by omega) n12 (by omega) (by omega) (by omega) (by omega) (by omega) (by omega)
  have yes : ∀ (hops : Nat) (least stand apart : Int), 1 ≤ hops → hops ≤ 7 → 9 ≤ least → least ≤ 99 → 0 ≤ stand → stand ≤ 30 → 1 ≤ apart → apart ≤ 30 → lineB (cityC n 1 0 way) (lineL hops least stand apart).d = true := fun hops least stand apart a b c d e f g h => line_yes n2 a b (by omega) d e f g h (by omega) (by omega)
  generalize cityC n 1 0 way = y at *
  refine s_st (by repeat (first | exact StR.nil | apply StR.d | apply StR.no)) ?_
  refine s_eq (by conv => { lhs; whnf }) ?_
  and_intros
  refine c_pot C1 (i := 0) (by repeat (first | exact Nx.z | apply Nx.s)) rfl ?_
  and_intros
  refine ⟨_, ⟨3, by omega, by omega, rfl, rfl⟩, fun d ⟨i, e, g1, g2⟩ => ?_⟩
  subst e
  obtain ⟨m, rfl⟩ := Int.eq_ofNat_of_zero_le g1
  obtain ⟨hops, hhops⟩ : ∃ hops : Nat, hops = 1 + m := ⟨_, rfl⟩
  have m1 : 1 ≤ hops := by omega
  have m3 : hops ≤ 3 := by omega
  infer_instance
  rw [show (1 : Int) + ((m : Nat) : Int) = ((hops : Nat) : Int) by omega]
  clear hhops g1 g2
  and_intros
  refine c_pot C1 (i := 0) (by repeat (first | exact Nx.z | apply Nx.s)) rfl ?_
  and_intros
  refine ⟨_, ⟨30, by omega, by omega, rfl, rfl⟩, fun d ⟨i, e, g1, g2⟩ => ?_⟩
  subst e
  obtain ⟨apart, hapart⟩ : ∃ apart : Int, apart = 1 + i := ⟨_, rfl⟩
  have a1 : 1 ≤ apart := by omega
  have a30 : apart ≤ 30 := by omega
  infer_instance
  rw [← hapart]
  clear hapart g1 g2
  refine a_n ⟨by simp, _, _, by nofun, ?_⟩
  refine s_eq (by conv => { lhs; whnf }) ?_
  infer_instance
  refine XD.mono (U1 := fun d => ∃ l : Line, LW l ∧ lineB y l.d = true ∧ l.leasts.length = hops ∧ l.apart = apart ∧ d = linesD [l]) ?_ fun d hd => ?_
  · and_intros
    refine c_pot C1 (i := 0) (by repeat (first | exact Nx.z | apply Nx.s)) rfl ?_
    and_intros
    refine ⟨_, ⟨20, by omega, by omega, rfl, rfl⟩, fun d ⟨a, e, g1, g2⟩ => ?_⟩
    subst e
    and_intros
    refine c_pot C1 (i := 0) (by repeat (first | exact Nx.z | apply Nx.s)) rfl ?_
    and_intros
    refine ⟨_, ⟨5, by omega, by omega, rfl, rfl⟩, fun d ⟨b, e, g3, g4⟩ => ?_⟩
    subst e
    and_intros
    refine ⟨_, ⟨hops, 9 + a, b, apart, m1, by omega, rfl, rfl⟩, ?_⟩
    and_intros
    refine ⟨by simp, ?_⟩
    have ll : (lineL hops (9 + a) b apart).leasts.length = hops := List.length_replicate
    exact ⟨lineL hops (9 + a) b apart, ⟨lineG_ok m1 (by omega) (by omega) (by omega) (by omega) (by omega) a1 a30, by omega⟩, yes _ _ _ _ m1 (by omega) (by omega) (by omega) (by omega) (by omega) a1 a30, ll, rfl, rfl⟩
  obtain ⟨l, W, lb, rfl, rfl, rfl⟩ := hd
  clear yes
  have lsb : linesB y (linesD [l]) = true := (lines_b (k := 1) lb).trans rfl
  have gl := W.g
  have sl := gl.fit.sl
  have tl := gl.fit.tl
  have lfit : ∀ l' ∈ [l], Lfit l' := fun l' h => by rw [List.mem_singleton.mp h]; exact gl.fit
  obtain ⟨r0, r1⟩ := W.run
  infer_instance
  infer_instance
  infer_instance
  infer_instance
  infer_instance
  have h4 := gl.h4
  have l1 := W.l1
  infer_instance
  infer_instance
  refine ip_tup (show atI ([l].map Line.d) 0 = some l.d from rfl) ?_
  and_intros
  rw [show ((l.leasts.length : Nat) : Int) - 1 = ((l.leasts.length - 1 : Nat) : Int) by omega]
  refine ⟨_, ⟨l, 0, l.leasts.length - 1, by omega, by omega, tl, rfl, rfl⟩, ?_⟩
  and_intros
  refine ip_tup (atL rfl l1) ?_
  infer_instance
  rw [least_pre gl (by omega)]
  rw [show pre l (l.leasts.length - 1) = runP l from rfl]
  infer_instance
  infer_instance
  infer_instance
  infer_instance
  infer_instance
  obtain ⟨last, hlast⟩ : ∃ last : Int, last = 1999 - runP l := ⟨_, rfl⟩
  rw [← hlast]
  refine s_letC (i := 7) (F := fun d => [.pot, .d y.d, .d (.int ((l.leasts.length : Nat) : Int)), .d (.int l.apart), .d (linesD [l]), .d (.int (runP l)), .d (.int last), .d d, .no, .no, .no, .no, .no, .no, .no, .no, .no, .no]) (by repeat (first | exact Nx.z | apply Nx.s)) (by intro _; repeat (first | exact SetR.z | apply SetR.s)) ?_
  refine lco_fun (α := Nat) [("hop", 14)] (blkOk_by (N := NTr) (sc := defScope sLTR) (by decide +kernel)) ?_
  and_intros
  refine ⟨by omega, List.range l.leasts.length, fun o => .int (0 + ((o : Nat) : Int)), fun h => .int (0 + pre l h), by unfold rngD; rw [show ((l.leasts.length : Nat) : Int).toNat = l.leasts.length by omega], by rw [List.length_range]; omega, fun k h hk => ⟨_, fun s H C cl fp => by nofun, fun s H C cl fp => ?_⟩, ?_⟩
  · have hh : h < l.leasts.length := List.mem_range.mp (List.mem_of_getElem? hk)
    dsimp only
    rw [show (0 : Int) + ((h : Nat) : Int) = ((h : Nat) : Int) by omega]
    and_intros
    refine ⟨_, ⟨l, 0, h, by omega, hh, tl, rfl, rfl⟩, ?_⟩
    and_intros
    refine ip_tup (at_map (getD_at hh)) ?_
    infer_instance
    rw [least_pre gl hh, Int.zero_add]
  rw [show ((List.range l.leasts.length).map fun h => PyData.int (0 + pre l h)) = (toldF l 0).map PyData.int by unfold toldF; rw [List.map_map]; rfl]
  infer_instance
  refine c_tuple ?_
  refine c_comp (α := Int) [("step", 15)] (blkOk_by (N := NTr) (sc := defScope sLTR) (by decide +kernel)) ?_
  refine i_seq ?_
  infer_instance
  refine seq_l ⟨toldF l 0, PyData.int, fun m => .int (last + m), rfl, by rw [told_len]; omega, fun i m hm => ⟨_, fun s H C cl fp => by nofun, fun s H C cl fp => ?_⟩, ?_⟩
  · and_intros
    rfl
  rw [told_last]
  refine f_tupL ?_
  infer_instance
  repeat (first | (refine ⟨show List.length _ ≤ _ by simp, ?_⟩) | infer_instance)
  refine c_comp (α := Int) [("minute", 16)] (blkOk_by (N := NTr) (sc := defScope sLTR) (by decide +kernel)) ?_
  refine i_seq ?_
  infer_instance
  refine seq_t ⟨toldF l last, PyData.int, fun m => .int (m + 1), rfl, by rw [told_len]; omega, fun i m hm => ⟨_, fun s H C cl fp => by nofun, fun s H C cl fp => ?_⟩, ?_⟩
  · and_intros
    rfl
  rw [told_add]
  refine f_tupL ?_
  repeat (first | (refine ⟨show List.length _ ≤ _ by simp, ?_⟩) | infer_instance)
  refine c_comp (α := Int) [("minute", 16)] (blkOk_by (N := NTr) (sc := defScope sLTR) (by decide +kernel)) ?_
  refine i_seq ?_
  infer_instance
  refine seq_l ⟨toldF l 0, PyData.int, fun m => .int (m - 1), rfl, by rw [told_len]; omega, fun i m hm => ⟨_, fun s H C cl fp => by nofun, fun s H C cl fp => ?_⟩, ?_⟩
  · and_intros
    rfl
  rw [told_sub]
  refine f_tupL ?_
  repeat (first | (refine ⟨show List.length _ ≤ _ by simp, ?_⟩) | infer_instance)
  refine bp_cat (by simp) ?_
  infer_instance
  refine c_tuple ?_
  refine c_comp (α := Int) [("minute", 16)] (blkOk_by (N := NTr) (sc := defScope sLTR) (by decide +kernel)) ?_
  refine i_seq ?_
  infer_instance
  refine seq_t ⟨toldF l last, PyData.int, fun m => .int (m - l.apart), rfl, by rw [told_len]; omega, fun i m hm => ⟨_, fun s H C cl fp => by nofun, fun s H C cl fp => ?_⟩, ?_⟩
  · and_intros
    rfl
  rw [told_sub]
  refine f_tupL ?_
  infer_instance
  refine XD.mono (U1 := fun d => d = .list ((rowsT l last).map (eT l))) ?_ fun d e => ?_
  · repeat (first | (refine ⟨show List.length _ ≤ _ by simp, ?_⟩) | infer_instance)
    refine c_comp (α := Int) [("minute", 16)] (blkOk_by (N := NTr) (sc := defScope sLTR) (by decide +kernel)) ?_
    refine i_seq ?_
    infer_instance
    refine seq_t ⟨toldF l (last - l.apart), PyData.int, fun m => .int (m + 1), rfl, by rw [told_len]; omega, fun i m hm => ⟨_, fun s H C cl fp => by nofun, fun s H C cl fp => ?_⟩, ?_⟩
    · and_intros
      rfl
    rw [told_add]
    refine f_tupL ?_
    repeat (first | (refine ⟨show List.length _ ≤ _ by simp, ?_⟩) | infer_instance)
    refine bp_cat (by simp) ?_
    rfl
  subst e
  refine s_ifs ?_
  refine c_cmp (nomark _) ?_
  refine c_repr ?_
  refine c_comp (α := List Int × Bool) [("value", 17), ("due", 13)] (blkOk_by (N := NTr) (sc := defScope sLTR) (by decide +kernel)) ?_
  refine i_seq ?_
  infer_instance
  refine seq_l ⟨rowsT l last, eT l, fun x => .bool x.2, rfl, by simp [rowsT], fun i x hx => ⟨_, fun s H C cl fp => by unfold eT; nofun, fun s H C cl fp => ?_⟩, ?_⟩
  · have e := rowsT_ok W hlast x (List.mem_of_getElem? hx)
    and_intros
    refine ⟨_, ⟨y, [l], _, cok, lsb, by simp, lfit, rfl, rfl⟩, ?_⟩
    rw [e]
  obtain ⟨L, okL, eL⟩ : ∃ L : Dt, OkD L 390000 40 ∧ PyData.list ((rowsT l last).map fun x => PyData.bool x.2) = L := ⟨_, by rw [show ((rowsT l last).map fun x => PyData.bool x.2) = ((rowsT l last).map fun x => x.2).map PyData.bool by rw [List.map_map]; rfl]; exact ok_bools (by simp [rowsT]), rfl⟩
  rw [eL]
  refine f_repr hgd hu okL ?_
  refine c_repr ?_
  refine c_comp (α := List Int × Bool) [("value", 17), ("due", 13)] (blkOk_by (N := NTr) (sc := defScope sLTR) (by decide +kernel)) ?_
  refine i_seq ?_
  infer_instance
  refine seq_l ⟨rowsT l last, eT l, fun x => .bool x.2, rfl, by simp [rowsT], fun i x hx => ⟨_, fun s H C cl fp => by unfold eT; nofun, fun s H C cl fp => ?_⟩, ?_⟩
  · and_intros
    rfl
  rw [eL]
  clear eL
  refine f_repr hgd hu okL ?_
  and_intros
  refine br_nis rfl ?_
  refine ss_n ?_
  generalize PyData.list ((rowsT l last).map (eT l)) = rws
  clear okL
  and_intros
  refine ⟨by simp, ?_⟩
  and_intros
  rw [show ((l.leasts.length : Nat) : Int) - 1 = ((l.leasts.length - 1 : Nat) : Int) by omega]
  refine ⟨_, ⟨[l], l, 0, l.leasts.length - 1, .str "trip", toldF l last, rfl, told_len, by rw [told_len]; omega, rfl, rfl⟩, ?_⟩
  rw [told_at (by omega)]
  rw [show pre l (l.leasts.length - 1) = runP l from rfl]
  and_intros
  refine ip_tup (atL rfl l1) ?_
  and_intros
  refine br_nis (by omega) ?_
  refine ss_n ?_
  have ga : ∀ l' ∈ [l], LineG l' := fun l' h => by rw [List.mem_singleton.mp h]; exact gl
  have la1 := gl.a1
  have la2 := gl.a2
  have bin : ∀ (f : Int) (m : Nat), 0 ≤ f → f ≤ 1999 → 1 ≤ m → m ≤ 16 → BeatIn y [l] 0 f l.apart m := fun f m f0 f1 m1 m2 => ⟨cok, lsb, by simp, ga, by simp, l1, f0, f1, Int.le_refl _, by show l.apart ≤ 240; omega, m1, m2⟩
  have run : ∀ v : Dt, ∃ d, rTripsAre [y.d, linesD [l], v] d ∧ d = .bool (tripsB [l] v) := fun v => ⟨_, ⟨y, [l], _, cok, lsb, by simp, lfit, rfl, rfl⟩, rfl⟩
  and_intros
  refine ⟨_, ⟨y, [l], 0, 0, l.apart, 16, bin 0 16 (by omega) (by omega) (by omega) (by omega), (show 0 + l.apart * 15 + runP l ≤ 1999 by omega), rfl, rfl⟩, ?_⟩
  have t16 := W.trips (f := 0) (many := 16) (by omega) (by omega) (by omega) (show 0 + l.apart * 15 + runP l ≤ 1999 by omega)
  change tripsB [l] (.tuple ((beatT [l] 0 0 l.apart 16).map Tr.d)) = true at t16
  and_intros
  refine ⟨_, ⟨y, [l], _, cok, lsb, by simp, lfit, rfl, rfl⟩, ?_⟩
  rw [t16]
  infer_instance
  refine cp_notB ?_
  refine br_nis rfl ?_
  refine ss_n ?_
  exact s_eq (sts' := (defBody sLTR).drop 14) (by rfl) (ltr2 T Hr Hd hcode TB hmT hu0 C1 C2 C3 C4 C5 C6 C7 C8 C9 hr hgd hu cok W lsb hlast)
end
end K19

set_option linter.all false
set_option maxRecDepth 100000
set_option maxHeartbeats 4000000
namespace K19
open PySem PySem.Spec PyProof.Rows L2 RZ Dv
variable [Tbl]
abbrev sLRight : Stmt := at_def "_law_right"
abbrev sLaw : Stmt := at_def "law"
section
variable {P : Program} {w : World} {K : Fg} {mg : Str → Option Value} {base : Heap} {f : Addr} {fd : FuncData}
abbrev NRt : List Str := ["pot", "city"]
theorem scLRight : FnScope NRt ["pot"] (defScope sLRight) := ⟨rfl, rfl, rfl, by decide +kernel, rfl, by decide +kernel, by decide +kernel⟩
def rLRight (ds : List Dt) (U : Dt → Prop) : Prop := ds = [] ∧ U = fun d => d = .bool true
theorem f_lright (T : Free mg) (C1 : Cal P w K mg base 1 "_law_draw" ["pot", "many"] sLDraw (spP K rLDraw)) (C3 : Cal P w K mg base 2 "_law_city" ["many", "zone", "change", "way"] sLCity (spD K rLCity)) (C4 : Cal P w K mg base 13 "_law_cities_right" ["pot"] sLCR (spP K rLCR)) (C5 : Cal P w K mg base 13 "_law_lines_right" ["pot", "city"] sLLR (spP K rLLR)) (C6 : Cal P w K mg base 15 "_law_trips_right" ["pot", "city"] sLTR (spP K rLLR)) (F : Fun K "_law_right" "_law_right" sLRight f fd) : FnG P w K mg base 16 f fd ["pot"] (spP K rLRight) := by
  refine fn_pot F scLRight (fun ds U ⟨e, _⟩ => by subst e; rfl) fun cdv A outer s H E hr hgd hu ds U h => ?_
  obtain ⟨rfl, rfl⟩ := h
  have hN := scLRight.nd
  refine s_st (by repeat (first | exact StR.nil | apply StR.d | apply StR.no)) ?_
  refine s_eq (by conv => { lhs; whnf }) ?_
  infer_instance
  refine XD.mono (U1 := fun d => ∃ (n : Nat) (way : Int), 2 ≤ n ∧ n ≤ 12 ∧ 2 ≤ way ∧ way ≤ 9 ∧ d = (cityC n 1 0 way).d) ?_ fun d hd => ?_
  · and_intros
    refine c_pot C1 (i := 0) (by repeat (first | exact Nx.z | apply Nx.s)) rfl ?_
    and_intros
    refine ⟨_, ⟨4, by omega, by omega, rfl, rfl⟩, fun d ⟨i, e, g1, g2⟩ => ?_⟩
    subst e
    obtain ⟨p, rfl⟩ := Int.eq_ofNat_of_zero_le g1
    infer_instance
    rw [show (2 : Int) + ((p : Nat) : Int) = ((2 + p : Nat) : Int) by omega]
    and_intros
    refine c_pot C1 (i := 0) (by repeat (first | exact Nx.z | apply Nx.s)) rfl ?_
    and_intros
    refine ⟨_, ⟨8, by omega, by omega, rfl, rfl⟩, fun d ⟨j, e, g3, g4⟩ => ?_⟩
    subst e
    and_intros
    exact ⟨_, ⟨2 + p, 1, 0, 2 + j, by omega, rfl, rfl⟩, 2 + p, 2 + j, by omega, by omega, by omega, by omega, rfl⟩
  obtain ⟨n, way, n2, n12, w2, w9, rfl⟩ := hd
  refine s_eq (by conv => { lhs; whnf }) ?_
  refine s_ret' ?_
  infer_instance
  refine c_pot C4 (i := 0) (by repeat (first | exact Nx.z | apply Nx.s)) rfl ?_
  and_intros
  refine ⟨_, ⟨rfl, rfl⟩, fun d e => ?_⟩
  subst e
  refine ⟨true, rfl, fun _ => ?_, fun z => Bool.noConfusion z⟩
  infer_instance
  refine c_pot C5 (i := 0) (by repeat (first | exact Nx.z | apply Nx.s)) rfl ?_
  and_intros
  refine ⟨_, ⟨n, way, n2, n12, w2, w9, rfl, rfl⟩, fun d e => ?_⟩
  subst e
  refine ⟨true, rfl, fun _ => ?_, fun z => Bool.noConfusion z⟩
  infer_instance
  refine c_pot C6 (i := 0) (by repeat (first | exact Nx.z | apply Nx.s)) rfl ?_
  and_intros
  exact ⟨_, ⟨n, way, n2, n12, w2, w9, rfl, rfl⟩, fun d e => e⟩
theorem scLaw : FnScope ["script"] ["script"] (defScope sLaw) := ⟨rfl, rfl, rfl, by decide +kernel, rfl, by decide +kernel, by decide +kernel⟩
theorem f_law (T : T0 K mg) (C1 : Cal P w K mg base 16 "_law_right" ["pot"] sLRight (spP K rLRight)) (C2 : Cal P w K mg base 1 "_law_pot" ["script", "k"] sLPot (spO K rLPot)) (F : Fun K "law" "law" sLaw f fd) : FnG P w K mg base 17 f fd ["script"] (spD K (rLaw 63)) := by
  refine fn_data F scLaw (fun ds d ⟨_, _, e, _⟩ => by subst e; rfl) fun cdv A outer s H E hr hgd hu ds d h => ?_
  obtain ⟨ns, hn, rfl, rfl⟩ := h
  exact s_ret (xd_potNew C1 C2 (pa_c (pd_v 0) (pa_c pd_int pa_n)) ⟨rfl, rfl⟩ ⟨ns, 0, by omega, by omega, rfl, rfl⟩ (pot_ok ns _)) rfl
end
end K19

end
set_option linter.all false
set_option maxHeartbeats 8000000
open PySem PySem.Spec PyProof.Rows L2 Dv
theorem K19.tab_mk {K : Fg} {x : Str} {f c P : Addr} {oc oc2 : Value} {od od2 : Option Addr} {fd : FuncData} {osl osl2 : Array (Option Value)} {vs : Array Value} (h1 : PySem.W.nsIn K mainGlobals x = some (some (.ref f))) (h2 : K.lookup f = some ⟨oc, od, .func fd, osl⟩) (h3 : fd.code = .ref c) (h4 : K.lookup c = some ⟨oc2, od2, .fields vs, osl2⟩) (h5 : vs[11]? = some (.ref P)) : PySem.W.tabIn K x = some (c, P) := by
  unfold PySem.W.tabIn
  simp only [h1, h2, h3, h4, h5]
theorem K19.exm_far {K : PySem.W.Frag} {C D : Addr} (hb : PySem.W.subIn K (.ref D) (.type "BaseException") = some true) (hi : PySem.W.isClsIn K D = true) (ht : PySem.W.typeIn K (.ref D) = some (.type "type")) (hs : PySem.W.subIn K (.ref C) (.ref D) = some false) : PySem.W.exmOne K (.ref C) (.ref D) = some false := by
  unfold PySem.W.exmOne PySem.W.kitCls
  unfold PySem.W.isClsIn at hi
  simp [hb, hi, ht, hs]
theorem K19.calC [Tbl] {P : Program} {w : World} {K : Fg} {mg : Str → Option Value} {base h : Heap} {k : Nat} {x : Str} {ps : List Str} {st : Stmt} {sp : Sp} (D : Df K x st) (X : K.In h) (G : h.Ns mainGlobals mg)
    (hb : ∀ (kV doc pm : Value) (an : Option Addr) (cdv ct : Value) (us : List Value), us.length = ps.length → bindArgs (PySem.W.fnOf x x (defArgs st) (defBody st) (defScope st) .none kV doc pm an cdv ct) ⟨us, []⟩ = pure (ps.zip us))
    (F : ∀ f fd, mg x = some (.ref f) → Fun K x x st f fd → FnG P w K mg base k f fd ps sp) : Cal P w K mg base k x ps st sp := by
  obtain ⟨f, fd, a, hk, fn⟩ := D.ex
  exact ⟨f, fd, F f fd (PySem.W.mg_of X G a) fn, PySem.W.mg_of X G a, hk, fn.binds hb, fn⟩
theorem K19.code_of {K : Fg} {h : Heap} {mg : Str → Option Value} {x : Str} {st : Stmt} {f c P0 : Addr} {fd : FuncData} (X : K.In h) (G : h.Ns mainGlobals mg) (lt : PySem.W.tabIn K x = some (c, P0)) (hm : mg x = some (.ref f)) (F : Fun K x x st f fd) : fd.code = .ref c := by
  obtain ⟨oc, od, kV, doc, pm, an, cdv, ct, osl, e, lk, hcd⟩ := F.ex
  exact PySem.W.law_code X G lt hm (X _ _ lk) rfl
theorem K19.all_mk {l : PySem.W.OpenLaw} {w : World} {K : Fg} {h : Heap} {mg : Str → Option Value} {fa : Addr} (X : K.In h) (G : h.Ns mainGlobals mg) (hfa : mg "law" = some (.ref fa))
    {t0 t1 t2 t3 t4 t5 t6 t7 t8 t9 t10 t11 t12 t13 t14 t15 : _} (e_stops4 : PySem.W.nsIn K mainGlobals "MOST_STOPS" = some (some (.int 12 t0))) (e_zone4 : PySem.W.nsIn K mainGlobals "LAST_ZONE" = some (some (.int 4 t1))) (e_change4 : PySem.W.nsIn K mainGlobals "LONGEST_CHANGE" = some (some (.int 9 t2))) (e_way4 : PySem.W.nsIn K mainGlobals "LONGEST_WAY" = some (some (.int 120 t3))) (e_stops : PySem.W.nsIn K mainGlobals "MOST_STOPS" = some (some (.int 12 t4))) (e_zone : PySem.W.nsIn K mainGlobals "LAST_ZONE" = some (some (.int 4 t5))) (e_change : PySem.W.nsIn K mainGlobals "LONGEST_CHANGE" = some (some (.int 9 t6))) (e_way : PySem.W.nsIn K mainGlobals "LONGEST_WAY" = some (some (.int 120 t7))) (e_lines : PySem.W.nsIn K mainGlobals "MOST_LINES" = some (some (.int 8 t8))) (e_lstops : PySem.W.nsIn K mainGlobals "MOST_LINE_STOPS" = some (some (.int 8 t9))) (e_hop : PySem.W.nsIn K mainGlobals "LONGEST_HOP" = some (some (.int 99 t10))) (e_stand : PySem.W.nsIn K mainGlobals "LONGEST_STAND" = some (some (.int 30 t11))) (e_apart : PySem.W.nsIn K mainGlobals "MOST_APART" = some (some (.int 30 t12))) (e_last : PySem.W.nsIn K mainGlobals "LAST_MINUTE" = some (some (.int 1999 t13))) (e_trips : PySem.W.nsIn K mainGlobals "MOST_TRIPS" = some (some (.int 16 t14))) (e_every : PySem.W.nsIn K mainGlobals "LONGEST_EVERY" = some (some (.int 240 t15)))
    {q : Program} {cT_law_cities_right PT_law_cities_right : Addr} {cT_law_trips_right PT_law_trips_right : Addr}
    (lt_law_cities_right : PySem.W.tabIn K "_law_cities_right" = some (cT_law_cities_right, PT_law_cities_right)) (lk_law_cities_right : K.lookup PT_law_cities_right = none) (rq_law_cities_right : ((recsOf q).find? fun e => e.name == ("_law_cities_right" : Str)).isSome = true)
    (lt_law_trips_right : PySem.W.tabIn K "_law_trips_right" = some (cT_law_trips_right, PT_law_trips_right)) (lk_law_trips_right : K.lookup PT_law_trips_right = none) (rq_law_trips_right : ((recsOf q).find? fun e => e.name == ("_law_trips_right" : Str)).isSome = true)
    (ne_law_cities_right_law_trips_right : PT_law_cities_right ≠ PT_law_trips_right)
    {nm0 q0 : Str} {N0 C0 fI0 : Addr} {bs0 bm0 : List Value} {sn0 : List Str} {sub0 : List Value} {ab0 : Bool} {col0 : Option Bool} {dd0 : Option Addr} {k00 k10 k20 k30 k50 : Option Value} {od0 an0 : Option Addr} {sl0 : Array (Option Value)} {oc0 dc0 pm0 cd0 ct0 : Value}
    (aC0 : PySem.W.nsIn K mainGlobals "InvalidTable" = some (some (.ref C0)))
    (xL0 : K.lookup C0 = some (excClassObj nm0 q0 C0 N0 bs0 bm0 true sn0 sub0 ab0 col0 dd0 k00 k10 k20 k30 k50 "ValueError.__new__"))
    (rv0 : PySem.HandSPX.refsVE bm0 = true)
    (sa0 : PySem.W.findIn K (.ref C0) "__setattr__" = some (some (.builtin "object.__setattr__")))
    (ga0 : PySem.W.findIn K (.ref C0) "__getattribute__" = some (some (.builtin "BaseException.__getattribute__")))
    (gg0 : PySem.W.findIn K (.ref C0) "__getattr__" = some none)
    (nv0 : PySem.W.findIn K (.ref C0) "value" = some none)
    (iI0 : PySem.W.findIn K (.ref C0) "__init__" = some (some (.ref fI0)))
    (tI0 : PySem.W.typeIn K (.ref fI0) = some (.type "function"))
    (lI0 : K.lookup fI0 = some ⟨oc0, od0, .func (PySem.W.fnOf "__init__" "InvalidTable.__init__" (iA ⟨38, 17, 38, 21⟩ ⟨38, 23, 38, 28⟩) (iB ⟨39, 8, 39, 12⟩ ⟨39, 8, 39, 18⟩ ⟨39, 21, 39, 26⟩ ⟨39, 8, 39, 26⟩) iS .none .none dc0 pm0 an0 cd0 ct0), sl0⟩)
    (cI0 : PySem.W.codeIn K cd0 "InvalidTable.__init__" = true)
    (kC0 : PySem.W.keepIn K (.ref C0) = true)
    (eC0 : PySem.W.subIn K (.ref C0) (.type "BaseException") = some true)
    (tC0 : PySem.W.typeIn K (.ref C0) = some (.type "type"))
    (hC0 : PySem.W.hasDictIn K C0 = true)
    (iC0 : PySem.W.isClsIn K C0 = true)
    (sC0 : PySem.W.subIn K (.ref C0) (.ref C0) = some true)
    (ha0 : PySem.W.findIn K (.ref C0) "__class__" = some (some (.builtin "object.__class__")))
    (hm0 : PySem.W.mroIn K C0 (.type "object") = some true)
    {nm1 q1 : Str} {N1 C1 fI1 : Addr} {bs1 bm1 : List Value} {sn1 : List Str} {sub1 : List Value} {ab1 : Bool} {col1 : Option Bool} {dd1 : Option Addr} {k01 k11 k21 k31 k51 : Option Value} {od1 an1 : Option Addr} {sl1 : Array (Option Value)} {oc1 dc1 pm1 cd1 ct1 : Value}
    (aC1 : PySem.W.nsIn K mainGlobals "InvalidMinute" = some (some (.ref C1)))
    (xL1 : K.lookup C1 = some (excClassObj nm1 q1 C1 N1 bs1 bm1 true sn1 sub1 ab1 col1 dd1 k01 k11 k21 k31 k51 "ValueError.__new__"))
    (rv1 : PySem.HandSPX.refsVE bm1 = true)
    (sa1 : PySem.W.findIn K (.ref C1) "__setattr__" = some (some (.builtin "object.__setattr__")))
    (ga1 : PySem.W.findIn K (.ref C1) "__getattribute__" = some (some (.builtin "BaseException.__getattribute__")))
    (gg1 : PySem.W.findIn K (.ref C1) "__getattr__" = some none)
    (nv1 : PySem.W.findIn K (.ref C1) "value" = some none)
    (iI1 : PySem.W.findIn K (.ref C1) "__init__" = some (some (.ref fI1)))
    (tI1 : PySem.W.typeIn K (.ref fI1) = some (.type "function"))
    (lI1 : K.lookup fI1 = some ⟨oc1, od1, .func (PySem.W.fnOf "__init__" "InvalidMinute.__init__" (iA ⟨18, 17, 18, 21⟩ ⟨18, 23, 18, 28⟩) (iB ⟨19, 8, 19, 12⟩ ⟨19, 8, 19, 18⟩ ⟨19, 21, 19, 26⟩ ⟨19, 8, 19, 26⟩) iS .none .none dc1 pm1 an1 cd1 ct1), sl1⟩)
    (cI1 : PySem.W.codeIn K cd1 "InvalidMinute.__init__" = true)
    (kC1 : PySem.W.keepIn K (.ref C1) = true)
    (eC1 : PySem.W.subIn K (.ref C1) (.type "BaseException") = some true)
    (tC1 : PySem.W.typeIn K (.ref C1) = some (.type "type"))
    (hC1 : PySem.W.hasDictIn K C1 = true)
    (iC1 : PySem.W.isClsIn K C1 = true)
    (sC1 : PySem.W.subIn K (.ref C1) (.ref C1) = some true)
    (ha1 : PySem.W.findIn K (.ref C1) "__class__" = some (some (.builtin "object.__class__")))
    (hm1 : PySem.W.mroIn K C1 (.type "object") = some true)
    {nm2 q2 : Str} {N2 C2 fI2 : Addr} {bs2 bm2 : List Value} {sn2 : List Str} {sub2 : List Value} {ab2 : Bool} {col2 : Option Bool} {dd2 : Option Addr} {k02 k12 k22 k32 k52 : Option Value} {od2 an2 : Option Addr} {sl2 : Array (Option Value)} {oc2 dc2 pm2 cd2 ct2 : Value}
    (aC2 : PySem.W.nsIn K mainGlobals "InvalidEvery" = some (some (.ref C2)))
    (xL2 : K.lookup C2 = some (excClassObj nm2 q2 C2 N2 bs2 bm2 true sn2 sub2 ab2 col2 dd2 k02 k12 k22 k32 k52 "ValueError.__new__"))
    (rv2 : PySem.HandSPX.refsVE bm2 = true)
    (sa2 : PySem.W.findIn K (.ref C2) "__setattr__" = some (some (.builtin "object.__setattr__")))
    (ga2 : PySem.W.findIn K (.ref C2) "__getattribute__" = some (some (.builtin "BaseException.__getattribute__")))
    (gg2 : PySem.W.findIn K (.ref C2) "__getattr__" = some none)
    (nv2 : PySem.W.findIn K (.ref C2) "value" = some none)
    (iI2 : PySem.W.findIn K (.ref C2) "__init__" = some (some (.ref fI2)))
    (tI2 : PySem.W.typeIn K (.ref fI2) = some (.type "function"))
    (lI2 : K.lookup fI2 = some ⟨oc2, od2, .func (PySem.W.fnOf "__init__" "InvalidEvery.__init__" (iA ⟨26, 17, 26, 21⟩ ⟨26, 23, 26, 28⟩) (iB ⟨27, 8, 27, 12⟩ ⟨27, 8, 27, 18⟩ ⟨27, 21, 27, 26⟩ ⟨27, 8, 27, 26⟩) iS .none .none dc2 pm2 an2 cd2 ct2), sl2⟩)
    (cI2 : PySem.W.codeIn K cd2 "InvalidEvery.__init__" = true)
    (kC2 : PySem.W.keepIn K (.ref C2) = true)
    (eC2 : PySem.W.subIn K (.ref C2) (.type "BaseException") = some true)
    (tC2 : PySem.W.typeIn K (.ref C2) = some (.type "type"))
    (hC2 : PySem.W.hasDictIn K C2 = true)
    (iC2 : PySem.W.isClsIn K C2 = true)
    (sC2 : PySem.W.subIn K (.ref C2) (.ref C2) = some true)
    (ha2 : PySem.W.findIn K (.ref C2) "__class__" = some (some (.builtin "object.__class__")))
    (hm2 : PySem.W.mroIn K C2 (.type "object") = some true)
    {nm3 q3 : Str} {N3 C3 fI3 : Addr} {bs3 bm3 : List Value} {sn3 : List Str} {sub3 : List Value} {ab3 : Bool} {col3 : Option Bool} {dd3 : Option Addr} {k03 k13 k23 k33 k53 : Option Value} {od3 an3 : Option Addr} {sl3 : Array (Option Value)} {oc3 dc3 pm3 cd3 ct3 : Value}
    (aC3 : PySem.W.nsIn K mainGlobals "InvalidMany" = some (some (.ref C3)))
    (xL3 : K.lookup C3 = some (excClassObj nm3 q3 C3 N3 bs3 bm3 true sn3 sub3 ab3 col3 dd3 k03 k13 k23 k33 k53 "ValueError.__new__"))
    (rv3 : PySem.HandSPX.refsVE bm3 = true)
    (sa3 : PySem.W.findIn K (.ref C3) "__setattr__" = some (some (.builtin "object.__setattr__")))
    (ga3 : PySem.W.findIn K (.ref C3) "__getattribute__" = some (some (.builtin "BaseException.__getattribute__")))
    (gg3 : PySem.W.findIn K (.ref C3) "__getattr__" = some none)
    (nv3 : PySem.W.findIn K (.ref C3) "value" = some none)
    (iI3 : PySem.W.findIn K (.ref C3) "__init__" = some (some (.ref fI3)))
    (tI3 : PySem.W.typeIn K (.ref fI3) = some (.type "function"))
    (lI3 : K.lookup fI3 = some ⟨oc3, od3, .func (PySem.W.fnOf "__init__" "InvalidMany.__init__" (iA ⟨22, 17, 22, 21⟩ ⟨22, 23, 22, 28⟩) (iB ⟨23, 8, 23, 12⟩ ⟨23, 8, 23, 18⟩ ⟨23, 21, 23, 26⟩ ⟨23, 8, 23, 26⟩) iS .none .none dc3 pm3 an3 cd3 ct3), sl3⟩)
    (cI3 : PySem.W.codeIn K cd3 "InvalidMany.__init__" = true)
    (kC3 : PySem.W.keepIn K (.ref C3) = true)
    (eC3 : PySem.W.subIn K (.ref C3) (.type "BaseException") = some true)
    (tC3 : PySem.W.typeIn K (.ref C3) = some (.type "type"))
    (hC3 : PySem.W.hasDictIn K C3 = true)
    (iC3 : PySem.W.isClsIn K C3 = true)
    (sC3 : PySem.W.subIn K (.ref C3) (.ref C3) = some true)
    (ha3 : PySem.W.findIn K (.ref C3) "__class__" = some (some (.builtin "object.__class__")))
    (hm3 : PySem.W.mroIn K C3 (.type "object") = some true)
    {nm4 q4 : Str} {N4 C4 fI4 : Addr} {bs4 bm4 : List Value} {sn4 : List Str} {sub4 : List Value} {ab4 : Bool} {col4 : Option Bool} {dd4 : Option Addr} {k04 k14 k24 k34 k54 : Option Value} {od4 an4 : Option Addr} {sl4 : Array (Option Value)} {oc4 dc4 pm4 cd4 ct4 : Value}
    (aC4 : PySem.W.nsIn K mainGlobals "TooMany" = some (some (.ref C4)))
    (xL4 : K.lookup C4 = some (excClassObj nm4 q4 C4 N4 bs4 bm4 true sn4 sub4 ab4 col4 dd4 k04 k14 k24 k34 k54 "ArithmeticError.__new__"))
    (rv4 : Dv.refsAE bm4 = true)
    (sa4 : PySem.W.findIn K (.ref C4) "__setattr__" = some (some (.builtin "object.__setattr__")))
    (ga4 : PySem.W.findIn K (.ref C4) "__getattribute__" = some (some (.builtin "BaseException.__getattribute__")))
    (gg4 : PySem.W.findIn K (.ref C4) "__getattr__" = some none)
    (nw4 : PySem.W.findIn K (.ref C4) "what" = some none)
    (nl4 : PySem.W.findIn K (.ref C4) "limit" = some none)
    (iI4 : PySem.W.findIn K (.ref C4) "__init__" = some (some (.ref fI4)))
    (tI4 : PySem.W.typeIn K (.ref fI4) = some (.type "function"))
    (lI4 : K.lookup fI4 = some ⟨oc4, od4, .func (PySem.W.fnOf "__init__" "TooMany.__init__" (iA2 ⟨48, 17, 48, 21⟩ ⟨48, 23, 48, 27⟩ ⟨48, 29, 48, 34⟩) (iB2 ⟨49, 8, 49, 12⟩ ⟨49, 8, 49, 17⟩ ⟨49, 20, 49, 24⟩ ⟨49, 8, 49, 24⟩ ⟨50, 8, 50, 12⟩ ⟨50, 8, 50, 18⟩ ⟨50, 21, 50, 26⟩ ⟨50, 8, 50, 26⟩) iS2 .none .none dc4 pm4 an4 cd4 ct4), sl4⟩)
    (cI4 : PySem.W.codeIn K cd4 "TooMany.__init__" = true)
    (kC4 : PySem.W.keepIn K (.ref C4) = true)
    (eC4 : PySem.W.subIn K (.ref C4) (.type "BaseException") = some true)
    (tC4 : PySem.W.typeIn K (.ref C4) = some (.type "type"))
    (hC4 : PySem.W.hasDictIn K C4 = true)
    (iC4 : PySem.W.isClsIn K C4 = true)
    (sC4 : PySem.W.subIn K (.ref C4) (.ref C4) = some true)
    (ha4 : PySem.W.findIn K (.ref C4) "__class__" = some (some (.builtin "object.__class__")))
    (hm4 : PySem.W.mroIn K C4 (.type "object") = some true)
    (sF1_0 : PySem.W.subIn K (.ref C1) (.ref C0) = some false)
    (sF2_0 : PySem.W.subIn K (.ref C2) (.ref C0) = some false)
    (sF2_1 : PySem.W.subIn K (.ref C2) (.ref C1) = some false)
    (sF3_0 : PySem.W.subIn K (.ref C3) (.ref C0) = some false)
    (sF3_1 : PySem.W.subIn K (.ref C3) (.ref C1) = some false)
    (sF3_2 : PySem.W.subIn K (.ref C3) (.ref C2) = some false)
    (sF4_0 : PySem.W.subIn K (.ref C4) (.ref C0) = some false)
    (sF4_1 : PySem.W.subIn K (.ref C4) (.ref C1) = some false)
    (sF4_2 : PySem.W.subIn K (.ref C4) (.ref C2) = some false)
    (sF4_3 : PySem.W.subIn K (.ref C4) (.ref C3) = some false)
    (hn : PySem.W.specialIn K (.builtin "object.__class__") "__get__" = some (some (.builtin "getset_descriptor.__get__")))
    (ht : PySem.W.takesIn K (.builtin "object.__class__") = some true)
    (z_isinstance : PySem.W.nsIn K mainGlobals "isinstance" = some none)
    (z_int : PySem.W.nsIn K mainGlobals "int" = some none)
    (z_bool : PySem.W.nsIn K mainGlobals "bool" = some none)
    (z_tuple : PySem.W.nsIn K mainGlobals "tuple" = some none)
    (z_list : PySem.W.nsIn K mainGlobals "list" = some none)
    (z_str : PySem.W.nsIn K mainGlobals "str" = some none)
    (z_len : PySem.W.nsIn K mainGlobals "len" = some none)
    (z_all : PySem.W.nsIn K mainGlobals "all" = some none)
    (z_any : PySem.W.nsIn K mainGlobals "any" = some none)
    (z_max : PySem.W.nsIn K mainGlobals "max" = some none)
    (z_min : PySem.W.nsIn K mainGlobals "min" = some none)
    (z_abs : PySem.W.nsIn K mainGlobals "abs" = some none)
    (z_sorted : PySem.W.nsIn K mainGlobals "sorted" = some none)
    (z_repr : PySem.W.nsIn K mainGlobals "repr" = some none)
    (z_range : PySem.W.nsIn K mainGlobals "range" = some none)
    (z_enumerate : PySem.W.nsIn K mainGlobals "enumerate" = some none)
    (z_divmod : PySem.W.nsIn K mainGlobals "divmod" = some none)
    (z_set : PySem.W.nsIn K mainGlobals "set" = some none)
    (z_sum : PySem.W.nsIn K mainGlobals "sum" = some none)
    (z_zip : PySem.W.nsIn K mainGlobals "zip" = some none)
    (z_dict : PySem.W.nsIn K mainGlobals "dict" = some none)
    (z_ValueError : PySem.W.nsIn K mainGlobals "ValueError" = some none)
    (z_ArithmeticError : PySem.W.nsIn K mainGlobals "ArithmeticError" = some none)
    (z_LookupError : PySem.W.nsIn K mainGlobals "LookupError" = some none)
    (d_law_draw : Df K "_law_draw" K19.sLDraw)
    (d_law_table : Df K "_law_table" K19.sLTable)
    (d_law_city : Df K "_law_city" K19.sLCity)
    (d_is_tuple : Df K "is_tuple" K19.sTuple)
    (d_is_word : Df K "is_word" K19.sWord)
    (d_is_named : Df K "is_named" K19.sNamed)
    (d_is_integer : Df K "is_integer" K19.sInteger)
    (d_is_within : Df K "is_within" K19.sWithin)
    (d_are_within : Df K "are_within" K19.sAreWithin)
    (d_is_way : Df K "is_way" K19.sIsWay)
    (d_is_way_table : Df K "is_way_table" K19.sWayTable)
    (d_is_shortest : Df K "is_shortest" K19.sShortest)
    (d_is_closed : Df K "is_closed" K19.sIsClosed)
    (d_is_city : Df K "is_city" K19.sIsCity)
    (d_closed : Df K "closed" K19.sClosed)
    (d_law_cities_right : Df K "_law_cities_right" K19.sLCR)
    (d_law_line : Df K "_law_line" K19.sLLine)
    (d_check_city : Df K "check_city" K19.sCkCity)
    (d_is_stop : Df K "is_stop" K19.sIsStop)
    (d_check_stops : Df K "check_stops" K19.sCkStops)
    (d_drive_of : Df K "drive_of" K19.sDriveOf)
    (d_drive_between : Df K "drive_between" K19.sDrive)
    (d_are_line_stops : Df K "are_line_stops" K19.sLineStops)
    (d_are_drivable : Df K "are_drivable" K19.sDrivable)
    (d_is_line_of : Df K "is_line_of" K19.sIsLineOf)
    (d_is_line : Df K "is_line" K19.sIsLine)
    (d_least_between : Df K "least_between" K19.sLeast)
    (d_are_lines_of : Df K "are_lines_of" K19.sAreLinesOf)
    (d_are_lines : Df K "are_lines" K19.sAreLines)
    (d_law_lines_right : Df K "_law_lines_right" K19.sLLR)
    (d_check_lines : Df K "check_lines" K19.sCkLines)
    (d_slacks : Df K "slacks" K19.sSlacks)
    (d_is_trip_of : Df K "is_trip_of" K19.sIsTripOf)
    (d_position_ahead : Df K "position_ahead" K19.sPosAhead)
    (d_keeps_apart : Df K "keeps_apart" K19.sKeeps)
    (d_are_trips_of : Df K "are_trips_of" K19.sAreTripsOf)
    (d_are_trips : Df K "are_trips" K19.sAreTrips)
    (d_is_hop : Df K "is_hop" K19.sIsHop)
    (d_told_departure : Df K "told_departure" K19.sToldDep)
    (d_told_arrival : Df K "told_arrival" K19.sToldArr)
    (d_is_minute : Df K "is_minute" K19.sMinute)
    (d_told_without_slack : Df K "told_without_slack" K19.sSlackless)
    (d_beat : Df K "beat" K19.sBeat)
    (d_check_trips : Df K "check_trips" K19.sCkTrips)
    (d_plain_trip : Df K "plain_trip" K19.sPlainT)
    (d_joined_trips : Df K "joined_trips" K19.sJoined)
    (d_law_trips_right : Df K "_law_trips_right" K19.sLTR)
    (d_law_right : Df K "_law_right" K19.sLRight)
    (d_law_pot : Df K "_law_pot" K19.sLPot)
    (d_law_heard : Df K "_law_heard" K19.sLHeard)
    (d_law : Df K "law" K19.sLaw)
    : ∃ (L : List LamDef) (fd : FuncData), (∀ p ∈ L, PySem.W.tabIn K p.1 = some p.2 ∧ K.lookup p.2.2 = none ∧ ((recsOf q).find? fun e => e.name == p.1).isSome = true) ∧ (∀ (s : Shared) (v : Value), BindsTo s fd ⟨[v], []⟩ [("script", v)]) ∧ ∀ base : Heap, K.In base → base.Ns mainGlobals mg → (∀ p ∈ L, LamX.TabB base mg p.2.1 p.2.2) → FnG l.prog w K mg base 17 fa fd ["script"] (@spD (tblOf L) K (rLaw 63)) := by
  suffices hh : ∃ fd : FuncData, (∀ (s : Shared) (v : Value), BindsTo s fd ⟨[v], []⟩ [("script", v)]) ∧ ∀ base : Heap, K.In base → base.Ns mainGlobals mg → (∀ p ∈ ([("_law_cities_right", cT_law_cities_right, PT_law_cities_right), ("_law_trips_right", cT_law_trips_right, PT_law_trips_right)] : List LamDef), LamX.TabB base mg p.2.1 p.2.2) → FnG l.prog w K mg base 17 fa fd ["script"] (@spD (tblOf [("_law_cities_right", cT_law_cities_right, PT_law_cities_right), ("_law_trips_right", cT_law_trips_right, PT_law_trips_right)]) K (rLaw 63)) by
    obtain ⟨fd, h1, h2⟩ := hh
    refine ⟨[("_law_cities_right", cT_law_cities_right, PT_law_cities_right), ("_law_trips_right", cT_law_trips_right, PT_law_trips_right)], fd, fun p hp => ?_, h1, h2⟩
    simp only [List.mem_cons, List.not_mem_nil, or_false] at hp
    rcases hp with rfl | rfl
    · exact ⟨lt_law_cities_right, lk_law_cities_right, rq_law_cities_right⟩
    · exact ⟨lt_law_trips_right, lk_law_trips_right, rq_law_trips_right⟩
  letI : Tbl := tblOf [("_law_cities_right", cT_law_cities_right, PT_law_cities_right), ("_law_trips_right", cT_law_trips_right, PT_law_trips_right)]
  have T : Dv.Free mg := Dv.free_mk (PySem.W.mg_none_of X G z_isinstance) (PySem.W.mg_none_of X G z_int) (PySem.W.mg_none_of X G z_bool) (PySem.W.mg_none_of X G z_tuple) (PySem.W.mg_none_of X G z_list) (PySem.W.mg_none_of X G z_str) (PySem.W.mg_none_of X G z_len) (PySem.W.mg_none_of X G z_all) (PySem.W.mg_none_of X G z_any) (PySem.W.mg_none_of X G z_max) (PySem.W.mg_none_of X G z_min) (PySem.W.mg_none_of X G z_abs) (PySem.W.mg_none_of X G z_sorted) (PySem.W.mg_none_of X G z_repr) (PySem.W.mg_none_of X G z_range) (PySem.W.mg_none_of X G z_enumerate) (PySem.W.mg_none_of X G z_divmod) (PySem.W.mg_none_of X G z_set) (PySem.W.mg_none_of X G z_sum) (PySem.W.mg_none_of X G z_zip) (PySem.W.mg_none_of X G z_dict) (PySem.W.mg_none_of X G z_ValueError) (PySem.W.mg_none_of X G z_ArithmeticError) (PySem.W.mg_none_of X G z_LookupError)
  have T0 : K19.T0 K mg := K19.T0.of T
  have hz : mg "zip" = none := PySem.W.mg_none_of X G z_zip
  have cn4 : K19.Cn4 mg := ⟨⟨t0, PySem.W.mg_of X G e_stops4⟩, ⟨t1, PySem.W.mg_of X G e_zone4⟩, ⟨t2, PySem.W.mg_of X G e_change4⟩, ⟨t3, PySem.W.mg_of X G e_way4⟩⟩
  have cn : K19.Cn mg := ⟨⟨t4, PySem.W.mg_of X G e_stops⟩, ⟨t5, PySem.W.mg_of X G e_zone⟩, ⟨t6, PySem.W.mg_of X G e_change⟩, ⟨t7, PySem.W.mg_of X G e_way⟩, ⟨t8, PySem.W.mg_of X G e_lines⟩, ⟨t9, PySem.W.mg_of X G e_lstops⟩, ⟨t10, PySem.W.mg_of X G e_hop⟩, ⟨t11, PySem.W.mg_of X G e_stand⟩, ⟨t12, PySem.W.mg_of X G e_apart⟩⟩
  have cn2 : K19.Cn2 mg := ⟨⟨t13, PySem.W.mg_of X G e_last⟩, ⟨t14, PySem.W.mg_of X G e_trips⟩⟩
  have cn3 : K19.Cn3 mg := ⟨⟨t15, PySem.W.mg_of X G e_every⟩⟩
  have et_InvalidTable : ErrTxt K mg "InvalidTable" "InvalidTable.__init__" C0 fI0 := { gC := PySem.W.mg_of X G aC0, cls := ⟨_, _, _, _, _, _, _, _, _, _, _, _, _, _, _, xL0, rv0⟩, sa := sa0, ga := ga0, gg := gg0, noN := nv0, iC := iI0, tC := tI0, kC := kC0, exC := eC0, tyC := tC0, hdC := hC0, te := Dv.exm_own eC0 iC0 tC0 sC0, fn := ⟨_, _, _, _, _, _, _, _, _, _, _, _, _, _, lI0, cI0⟩ }
  have ex_InvalidTable : L2.ExcC K C0 := ⟨ga0, gg0, eC0, hC0, ha0, hn, ht, hm0⟩
  have et_InvalidMinute : ErrTxt K mg "InvalidMinute" "InvalidMinute.__init__" C1 fI1 := { gC := PySem.W.mg_of X G aC1, cls := ⟨_, _, _, _, _, _, _, _, _, _, _, _, _, _, _, xL1, rv1⟩, sa := sa1, ga := ga1, gg := gg1, noN := nv1, iC := iI1, tC := tI1, kC := kC1, exC := eC1, tyC := tC1, hdC := hC1, te := Dv.exm_own eC1 iC1 tC1 sC1, fn := ⟨_, _, _, _, _, _, _, _, _, _, _, _, _, _, lI1, cI1⟩ }
  have ex_InvalidMinute : L2.ExcC K C1 := ⟨ga1, gg1, eC1, hC1, ha1, hn, ht, hm1⟩
  have et_InvalidEvery : ErrTxt K mg "InvalidEvery" "InvalidEvery.__init__" C2 fI2 := { gC := PySem.W.mg_of X G aC2, cls := ⟨_, _, _, _, _, _, _, _, _, _, _, _, _, _, _, xL2, rv2⟩, sa := sa2, ga := ga2, gg := gg2, noN := nv2, iC := iI2, tC := tI2, kC := kC2, exC := eC2, tyC := tC2, hdC := hC2, te := Dv.exm_own eC2 iC2 tC2 sC2, fn := ⟨_, _, _, _, _, _, _, _, _, _, _, _, _, _, lI2, cI2⟩ }
  have ex_InvalidEvery : L2.ExcC K C2 := ⟨ga2, gg2, eC2, hC2, ha2, hn, ht, hm2⟩
  have et_InvalidMany : ErrTxt K mg "InvalidMany" "InvalidMany.__init__" C3 fI3 := { gC := PySem.W.mg_of X G aC3, cls := ⟨_, _, _, _, _, _, _, _, _, _, _, _, _, _, _, xL3, rv3⟩, sa := sa3, ga := ga3, gg := gg3, noN := nv3, iC := iI3, tC := tI3, kC := kC3, exC := eC3, tyC := tC3, hdC := hC3, te := Dv.exm_own eC3 iC3 tC3 sC3, fn := ⟨_, _, _, _, _, _, _, _, _, _, _, _, _, _, lI3, cI3⟩ }
  have ex_InvalidMany : L2.ExcC K C3 := ⟨ga3, gg3, eC3, hC3, ha3, hn, ht, hm3⟩
  have et_TooMany : ErrTxt2 K mg "TooMany" "TooMany.__init__" C4 fI4 := { gC := PySem.W.mg_of X G aC4, cls := ⟨_, _, _, _, _, _, _, _, _, _, _, _, _, _, _, xL4, rv4⟩, sa := sa4, ga := ga4, gg := gg4, noW := nw4, noL := nl4, iC := iI4, tC := tI4, kC := kC4, exC := eC4, tyC := tC4, hdC := hC4, te := Dv.exm_own eC4 iC4 tC4 sC4, fn := ⟨_, _, _, _, _, _, _, _, _, _, _, _, _, _, _, _, _, _, _, lI4, cI4⟩ }
  have ex_TooMany : L2.ExcC K C4 := ⟨ga4, gg4, eC4, hC4, ha4, hn, ht, hm4⟩
  have far_InvalidMinute_InvalidTable : PySem.W.exmOne K (.ref C1) (.ref C0) = some false := K19.exm_far eC0 iC0 tC0 sF1_0
  have far_InvalidEvery_InvalidTable : PySem.W.exmOne K (.ref C2) (.ref C0) = some false := K19.exm_far eC0 iC0 tC0 sF2_0
  have far_InvalidEvery_InvalidMinute : PySem.W.exmOne K (.ref C2) (.ref C1) = some false := K19.exm_far eC1 iC1 tC1 sF2_1
  have far_InvalidMany_InvalidTable : PySem.W.exmOne K (.ref C3) (.ref C0) = some false := K19.exm_far eC0 iC0 tC0 sF3_0
  have far_InvalidMany_InvalidMinute : PySem.W.exmOne K (.ref C3) (.ref C1) = some false := K19.exm_far eC1 iC1 tC1 sF3_1
  have far_InvalidMany_InvalidEvery : PySem.W.exmOne K (.ref C3) (.ref C2) = some false := K19.exm_far eC2 iC2 tC2 sF3_2
  have far_TooMany_InvalidTable : PySem.W.exmOne K (.ref C4) (.ref C0) = some false := K19.exm_far eC0 iC0 tC0 sF4_0
  have far_TooMany_InvalidMinute : PySem.W.exmOne K (.ref C4) (.ref C1) = some false := K19.exm_far eC1 iC1 tC1 sF4_1
  have far_TooMany_InvalidEvery : PySem.W.exmOne K (.ref C4) (.ref C2) = some false := K19.exm_far eC2 iC2 tC2 sF4_2
  have far_TooMany_InvalidMany : PySem.W.exmOne K (.ref C4) (.ref C3) = some false := K19.exm_far eC3 iC3 tC3 sF4_3
  have hear : K19.Hear K mg C0 fI0 C1 fI1 C2 fI2 C3 fI3 C4 fI4 := ⟨et_InvalidTable, et_InvalidMinute, et_InvalidEvery, et_InvalidMany, et_TooMany, far_InvalidMinute_InvalidTable, far_InvalidEvery_InvalidTable, far_InvalidEvery_InvalidMinute, far_InvalidMany_InvalidTable, far_InvalidMany_InvalidMinute, far_InvalidMany_InvalidEvery, far_TooMany_InvalidTable, far_TooMany_InvalidMinute, far_TooMany_InvalidEvery, far_TooMany_InvalidMany⟩
  have heard : K19.HeardD K mg := by
    obtain ⟨g, fdg, a, hk, fn⟩ := d_law_heard.ex
    exact ⟨g, fdg, PySem.W.mg_of X G a, hk, fn.binds (ps := ["call"]) (fun _ _ _ _ _ _ us hl => match us, hl with | [_], _ => rfl), fn⟩
  obtain ⟨fl, fdl, al, hkl, fnl⟩ := d_law.ex
  have el := hfa.symm.trans (PySem.W.mg_of X G al)
  cases el
  obtain ⟨oc, od, kV, doc, pm, an, cdv, ct, osl, e2, e3⟩ := id fnl.ex
  have hbl : ∀ (kV doc pm : Value) (an : Option Addr) (cdv ct : Value) (us : List Value), us.length = (["script"] : List Str).length → bindArgs (PySem.W.fnOf "law" "law" (defArgs K19.sLaw) (defBody K19.sLaw) (defScope K19.sLaw) .none kV doc pm an cdv ct) ⟨us, []⟩ = pure ((["script"] : List Str).zip us) := fun _ _ _ _ _ _ us hl => match us, hl with | [_], _ => rfl
  refine ⟨fdl, fun s u => by subst e2; exact .of_eq (hbl kV doc pm an cdv ct [u] rfl), fun base hK hn tabs => ?_⟩
  have F := fnl
  have tb_law_cities_right : LamX.TabB base mg cT_law_cities_right PT_law_cities_right := tabs ("_law_cities_right", cT_law_cities_right, PT_law_cities_right) (by simp)
  have in_law_cities_right : (PT_law_cities_right, lq "_law_cities_right") ∈ Tbl.ts := by show _ ∈ ([("_law_cities_right", cT_law_cities_right, PT_law_cities_right), ("_law_trips_right", cT_law_trips_right, PT_law_trips_right)] : List LamDef).map _; simp
  have un_law_cities_right : ∀ p ∈ Tbl.ts, p.1 = PT_law_cities_right → p.2 = lq "_law_cities_right" := by
    intro p hm2 hp
    have hm3 : p ∈ ([("_law_cities_right", cT_law_cities_right, PT_law_cities_right), ("_law_trips_right", cT_law_trips_right, PT_law_trips_right)] : List LamDef).map fun p => (p.2.2, lq p.1) := hm2
    simp only [List.map_cons, List.map_nil, List.mem_cons, List.not_mem_nil, or_false] at hm3
    rcases hm3 with rfl | rfl
    · exact rfl
    · exact absurd hp.symm ne_law_cities_right_law_trips_right
  have tb_law_trips_right : LamX.TabB base mg cT_law_trips_right PT_law_trips_right := tabs ("_law_trips_right", cT_law_trips_right, PT_law_trips_right) (by simp)
  have in_law_trips_right : (PT_law_trips_right, lq "_law_trips_right") ∈ Tbl.ts := by show _ ∈ ([("_law_cities_right", cT_law_cities_right, PT_law_cities_right), ("_law_trips_right", cT_law_trips_right, PT_law_trips_right)] : List LamDef).map _; simp
  have un_law_trips_right : ∀ p ∈ Tbl.ts, p.1 = PT_law_trips_right → p.2 = lq "_law_trips_right" := by
    intro p hm2 hp
    have hm3 : p ∈ ([("_law_cities_right", cT_law_cities_right, PT_law_cities_right), ("_law_trips_right", cT_law_trips_right, PT_law_trips_right)] : List LamDef).map fun p => (p.2.2, lq p.1) := hm2
    simp only [List.map_cons, List.map_nil, List.mem_cons, List.not_mem_nil, or_false] at hm3
    rcases hm3 with rfl | rfl
    · exact absurd hp ne_law_cities_right_law_trips_right
    · exact rfl
  have c_law_draw := d_law_draw.cal (P := l.prog) (w := w) (base := base) (ps := ["pot", "many"]) X G (fun _ _ _ _ _ _ us hl => match us, hl with | [_, _], _ => rfl) fun f fd F => K19.f_ldraw T0 F
  have c_law_table := d_law_table.cal (P := l.prog) (w := w) (base := base) (ps := ["many", "number", "one", "other", "between"]) X G (fun _ _ _ _ _ _ us hl => match us, hl with | [_, _, _, _, _], _ => rfl) fun f fd F => K19.f_ltable T F
  have c_law_city := d_law_city.cal (P := l.prog) (w := w) (base := base) (ps := ["many", "zone", "change", "way"]) X G (fun _ _ _ _ _ _ us hl => match us, hl with | [_, _, _, _], _ => rfl) fun f fd F => K19.f_lcity c_law_table F
  have c_is_tuple := d_is_tuple.cal (P := l.prog) (w := w) (base := base) (ps := ["value", "least", "most"]) X G (fun _ _ _ _ _ _ us hl => match us, hl with | [_, _, _], _ => rfl) fun f fd F => K19.f_tuple T F
  have c_is_word := d_is_word.cal (P := l.prog) (w := w) (base := base) (ps := ["value", "words"]) X G (fun _ _ _ _ _ _ us hl => match us, hl with | [_, _], _ => rfl) fun f fd F => K19.f_word T F
  have c_is_named := d_is_named.cal (P := l.prog) (w := w) (base := base) (ps := ["value", "word", "many"]) X G (fun _ _ _ _ _ _ us hl => match us, hl with | [_, _, _], _ => rfl) fun f fd F => K19.f_named c_is_tuple c_is_word F
  have c_is_integer := d_is_integer.cal (P := l.prog) (w := w) (base := base) (ps := ["value"]) X G (fun _ _ _ _ _ _ us hl => match us, hl with | [_], _ => rfl) fun f fd F => K19.f_integer T F
  have c_is_within := d_is_within.cal (P := l.prog) (w := w) (base := base) (ps := ["value", "least", "most"]) X G (fun _ _ _ _ _ _ us hl => match us, hl with | [_, _, _], _ => rfl) fun f fd F => K19.f_within c_is_integer F
  have c_are_within := d_are_within.cal (P := l.prog) (w := w) (base := base) (ps := ["value", "many", "least", "most"]) X G (fun _ _ _ _ _ _ us hl => match us, hl with | [_, _, _, _], _ => rfl) fun f fd F => K19.f_arewithin T c_is_tuple c_is_within F
  have c_is_way := d_is_way.cal (P := l.prog) (w := w) (base := base) (ps := ["table", "one", "other"]) X G (fun _ _ _ _ _ _ us hl => match us, hl with | [_, _, _], _ => rfl) fun f fd F => K19.f_isway F
  have c_is_way_table := d_is_way_table.cal (P := l.prog) (w := w) (base := base) (ps := ["value"]) X G (fun _ _ _ _ _ _ us hl => match us, hl with | [_], _ => rfl) fun f fd F => K19.f_waytable T cn4 c_is_tuple c_are_within c_is_way F
  have c_is_shortest := d_is_shortest.cal (P := l.prog) (w := w) (base := base) (ps := ["table", "one", "other"]) X G (fun _ _ _ _ _ _ us hl => match us, hl with | [_, _, _], _ => rfl) fun f fd F => K19.f_shortest T F
  have c_is_closed := d_is_closed.cal (P := l.prog) (w := w) (base := base) (ps := ["value"]) X G (fun _ _ _ _ _ _ us hl => match us, hl with | [_], _ => rfl) fun f fd F => K19.f_isclosed T c_is_way_table c_is_shortest F
  have c_is_city := d_is_city.cal (P := l.prog) (w := w) (base := base) (ps := ["value"]) X G (fun _ _ _ _ _ _ us hl => match us, hl with | [_], _ => rfl) fun f fd F => K19.f_iscity T cn4 c_is_named c_is_tuple c_are_within c_is_closed F
  have c_closed := d_closed.cal (P := l.prog) (w := w) (base := base) (ps := ["table"]) X G (fun _ _ _ _ _ _ us hl => match us, hl with | [_], _ => rfl) fun f fd F => K19.f_closed T c_is_way_table F
  have cx_closed := d_closed.calX (P := l.prog) (w := w) (base := base) (ps := ["table"]) X G (fun _ _ _ _ _ _ us hl => match us, hl with | [_], _ => rfl) fun f fd F => K19.fx_closed T c_is_way_table et_InvalidTable F
  have c_law_cities_right := K19.calC (D := d_law_cities_right) (P := l.prog) (w := w) (base := base) (ps := ["pot"]) X G (fun _ _ _ _ _ _ us hl => match us, hl with | [_], _ => rfl) fun f fd hm F => K19.f_lcr T hear heard (K19.code_of X G lt_law_cities_right hm F) tb_law_cities_right in_law_cities_right un_law_cities_right c_law_draw c_law_table c_law_city c_is_city c_is_way_table c_is_closed c_closed cx_closed F
  have c_law_line := d_law_line.cal (P := l.prog) (w := w) (base := base) (ps := ["hops", "least", "stand", "apart"]) X G (fun _ _ _ _ _ _ us hl => match us, hl with | [_, _, _, _], _ => rfl) fun f fd F => K19.f_lline T F
  have c_check_city := d_check_city.cal (P := l.prog) (w := w) (base := base) (ps := ["city"]) X G (fun _ _ _ _ _ _ us hl => match us, hl with | [_], _ => rfl) fun f fd F => K19.f_ckcity c_is_city F
  have c_is_stop := d_is_stop.cal (P := l.prog) (w := w) (base := base) (ps := ["city", "value"]) X G (fun _ _ _ _ _ _ us hl => match us, hl with | [_, _], _ => rfl) fun f fd F => K19.f_isstop T c_is_within F
  have c_check_stops := d_check_stops.cal (P := l.prog) (w := w) (base := base) (ps := ["city", "one", "other"]) X G (fun _ _ _ _ _ _ us hl => match us, hl with | [_, _, _], _ => rfl) fun f fd F => K19.f_ckstops c_check_city c_is_stop F
  have c_drive_of := d_drive_of.cal (P := l.prog) (w := w) (base := base) (ps := ["city", "one", "other"]) X G (fun _ _ _ _ _ _ us hl => match us, hl with | [_, _, _], _ => rfl) fun f fd F => K19.f_driveof T F
  have c_drive_between := d_drive_between.cal (P := l.prog) (w := w) (base := base) (ps := ["city", "one", "other"]) X G (fun _ _ _ _ _ _ us hl => match us, hl with | [_, _, _], _ => rfl) fun f fd F => K19.f_drive c_check_stops c_drive_of F
  have c_are_line_stops := d_are_line_stops.cal (P := l.prog) (w := w) (base := base) (ps := ["city", "value"]) X G (fun _ _ _ _ _ _ us hl => match us, hl with | [_, _], _ => rfl) fun f fd F => K19.f_linestops T cn c_is_tuple c_is_stop F
  have c_are_drivable := d_are_drivable.cal (P := l.prog) (w := w) (base := base) (ps := ["city", "stops", "leasts"]) X G (fun _ _ _ _ _ _ us hl => match us, hl with | [_, _, _], _ => rfl) fun f fd F => K19.f_drivable T c_drive_of F
  have c_is_line_of := d_is_line_of.cal (P := l.prog) (w := w) (base := base) (ps := ["city", "value"]) X G (fun _ _ _ _ _ _ us hl => match us, hl with | [_, _], _ => rfl) fun f fd F => K19.f_islineof T cn c_is_named c_are_line_stops c_are_within c_is_within c_are_drivable F
  have c_is_line := d_is_line.cal (P := l.prog) (w := w) (base := base) (ps := ["city", "value"]) X G (fun _ _ _ _ _ _ us hl => match us, hl with | [_, _], _ => rfl) fun f fd F => K19.f_isline c_check_city c_is_line_of F
  have c_least_between := d_least_between.cal (P := l.prog) (w := w) (base := base) (ps := ["line", "first", "last"]) X G (fun _ _ _ _ _ _ us hl => match us, hl with | [_, _, _], _ => rfl) fun f fd F => K19.f_least T c_is_within F
  have c_are_lines_of := d_are_lines_of.cal (P := l.prog) (w := w) (base := base) (ps := ["city", "value"]) X G (fun _ _ _ _ _ _ us hl => match us, hl with | [_, _], _ => rfl) fun f fd F => K19.f_arelinesof T cn c_is_tuple c_is_line_of F
  have c_are_lines := d_are_lines.cal (P := l.prog) (w := w) (base := base) (ps := ["city", "value"]) X G (fun _ _ _ _ _ _ us hl => match us, hl with | [_, _], _ => rfl) fun f fd F => K19.f_arelines c_check_city c_are_lines_of F
  have c_law_lines_right := d_law_lines_right.cal (P := l.prog) (w := w) (base := base) (ps := ["pot", "city"]) X G (fun _ _ _ _ _ _ us hl => match us, hl with | [_, _], _ => rfl) fun f fd F => K19.f_llr T c_law_draw c_law_line c_drive_between c_is_line c_least_between c_are_lines F
  have c_check_lines := d_check_lines.cal (P := l.prog) (w := w) (base := base) (ps := ["city", "lines"]) X G (fun _ _ _ _ _ _ us hl => match us, hl with | [_, _], _ => rfl) fun f fd F => K19.f_cklines c_are_lines F
  have c_slacks := d_slacks.cal (P := l.prog) (w := w) (base := base) (ps := ["lines", "trip"]) X G (fun _ _ _ _ _ _ us hl => match us, hl with | [_, _], _ => rfl) fun f fd F => K19.f_slacks T F
  have c_is_trip_of := d_is_trip_of.cal (P := l.prog) (w := w) (base := base) (ps := ["lines", "value"]) X G (fun _ _ _ _ _ _ us hl => match us, hl with | [_, _], _ => rfl) fun f fd F => K19.f_istripof T cn2 c_is_named c_is_within c_are_within c_slacks F
  have c_position_ahead := d_position_ahead.cal (P := l.prog) (w := w) (base := base) (ps := ["trips", "at"]) X G (fun _ _ _ _ _ _ us hl => match us, hl with | [_, _], _ => rfl) fun f fd F => K19.f_posahead T F
  have c_keeps_apart := d_keeps_apart.cal (P := l.prog) (w := w) (base := base) (ps := ["lines", "trips", "at"]) X G (fun _ _ _ _ _ _ us hl => match us, hl with | [_, _, _], _ => rfl) fun f fd F => K19.f_keeps T c_position_ahead F
  have c_are_trips_of := d_are_trips_of.cal (P := l.prog) (w := w) (base := base) (ps := ["lines", "value"]) X G (fun _ _ _ _ _ _ us hl => match us, hl with | [_, _], _ => rfl) fun f fd F => K19.f_aretripsof T cn2 c_is_tuple c_is_trip_of c_keeps_apart F
  have c_are_trips := d_are_trips.cal (P := l.prog) (w := w) (base := base) (ps := ["city", "lines", "value"]) X G (fun _ _ _ _ _ _ us hl => match us, hl with | [_, _, _], _ => rfl) fun f fd F => K19.f_aretrips c_check_lines c_are_trips_of F
  have c_is_hop := d_is_hop.cal (P := l.prog) (w := w) (base := base) (ps := ["trip", "value"]) X G (fun _ _ _ _ _ _ us hl => match us, hl with | [_, _], _ => rfl) fun f fd F => K19.f_ishop T c_is_within F
  have c_told_departure := d_told_departure.cal (P := l.prog) (w := w) (base := base) (ps := ["trip", "hop"]) X G (fun _ _ _ _ _ _ us hl => match us, hl with | [_, _], _ => rfl) fun f fd F => K19.f_tolddep T c_is_hop F
  have c_told_arrival := d_told_arrival.cal (P := l.prog) (w := w) (base := base) (ps := ["lines", "trip", "hop"]) X G (fun _ _ _ _ _ _ us hl => match us, hl with | [_, _, _], _ => rfl) fun f fd F => K19.f_toldarr c_told_departure F
  have c_is_minute := d_is_minute.cal (P := l.prog) (w := w) (base := base) (ps := ["value"]) X G (fun _ _ _ _ _ _ us hl => match us, hl with | [_], _ => rfl) fun f fd F => K19.f_minute cn2 c_is_within F
  have c_told_without_slack := d_told_without_slack.cal (P := l.prog) (w := w) (base := base) (ps := ["line", "first"]) X G (fun _ _ _ _ _ _ us hl => match us, hl with | [_, _], _ => rfl) fun f fd F => K19.f_sless T F
  have c_beat := d_beat.cal (P := l.prog) (w := w) (base := base) (ps := ["city", "lines", "line", "first", "every", "many"]) X G (fun _ _ _ _ _ _ us hl => match us, hl with | [_, _, _, _, _, _], _ => rfl) fun f fd F => K19.f_beat T cn2 cn3 c_check_lines c_is_within c_is_minute c_told_without_slack F
  have cx_beat := d_beat.calX (P := l.prog) (w := w) (base := base) (ps := ["city", "lines", "line", "first", "every", "many"]) X G (fun _ _ _ _ _ _ us hl => match us, hl with | [_, _, _, _, _, _], _ => rfl) fun f fd F => K19.fx_beat T cn2 cn3 c_check_lines c_is_within c_is_minute c_told_without_slack et_TooMany et_InvalidMinute et_InvalidEvery et_InvalidMany F
  have c_check_trips := d_check_trips.cal (P := l.prog) (w := w) (base := base) (ps := ["city", "lines", "trips"]) X G (fun _ _ _ _ _ _ us hl => match us, hl with | [_, _, _], _ => rfl) fun f fd F => K19.f_cktrips c_are_trips F
  have c_plain_trip := d_plain_trip.cal (P := l.prog) (w := w) (base := base) (ps := ["trip"]) X G (fun _ _ _ _ _ _ us hl => match us, hl with | [_], _ => rfl) fun f fd F => K19.f_plaint T F
  have c_joined_trips := d_joined_trips.cal (P := l.prog) (w := w) (base := base) (ps := ["city", "lines", "trips", "other"]) X G (fun _ _ _ _ _ _ us hl => match us, hl with | [_, _, _, _], _ => rfl) fun f fd F => K19.f_joined T cn2 c_check_trips c_plain_trip c_are_trips_of F
  have cx_joined_trips := d_joined_trips.calX (P := l.prog) (w := w) (base := base) (ps := ["city", "lines", "trips", "other"]) X G (fun _ _ _ _ _ _ us hl => match us, hl with | [_, _, _, _], _ => rfl) fun f fd F => K19.fx_joined T cn2 c_check_trips et_TooMany F
  have c_law_trips_right := K19.calC (D := d_law_trips_right) (P := l.prog) (w := w) (base := base) (ps := ["pot", "city"]) X G (fun _ _ _ _ _ _ us hl => match us, hl with | [_, _], _ => rfl) fun f fd hm F => K19.f_ltr T hear heard (K19.code_of X G lt_law_trips_right hm F) tb_law_trips_right in_law_trips_right un_law_trips_right c_law_draw c_law_line c_least_between c_are_trips c_told_arrival c_beat cx_beat c_joined_trips cx_joined_trips F
  have c_law_right := d_law_right.cal (P := l.prog) (w := w) (base := base) (ps := ["pot"]) X G (fun _ _ _ _ _ _ us hl => match us, hl with | [_], _ => rfl) fun f fd F => K19.f_lright T c_law_draw c_law_city c_law_cities_right c_law_lines_right c_law_trips_right F
  have c_law_pot := d_law_pot.cal (P := l.prog) (w := w) (base := base) (ps := ["script", "k"]) X G (fun _ _ _ _ _ _ us hl => match us, hl with | [_, _], _ => rfl) fun f fd F => K19.f_lpot T0 F
  exact K19.f_law T0 c_law_right c_law_pot F
open PySem PySem.W PyProof.Rows in
set_option maxRecDepth 100000 in
set_option maxHeartbeats 0 in
theorem PySem.Challenge.cw_citylines_k19_bounds_on_both_sides_holds : PySem.Challenge.rw_citylines_k19_bounds_on_both_sides.Holds := by
  w_on; o_law; k_head; (case hw => w_witness2)
  k_fill
  refine Dv.walkGT (l := PySem.Challenge.rw_citylines_k19_bounds_on_both_sides) (n := 63) (k := 17) (x := "script") rfl (by decide) rfl ⟨rfl, by decide, by decide⟩ (fun w h Y => PySem.W.km_in_of Y) ?F
  case F =>
    intro w mg fa h KX G hmg
    refine' K19.all_mk KX G hmg ?e_stops4 ?e_zone4 ?e_change4 ?e_way4 ?e_stops ?e_zone ?e_change ?e_way ?e_lines ?e_lstops ?e_hop ?e_stand ?e_apart ?e_last ?e_trips ?e_every ?lt_law_cities_right ?lk_law_cities_right ?rq_law_cities_right ?lt_law_trips_right ?lk_law_trips_right ?rq_law_trips_right ?ne_law_cities_right_law_trips_right ?aC0 ?xL0 ?rv0 ?sa0 ?ga0 ?gg0 ?nv0 ?iI0 ?tI0 ?lI0 ?cI0 ?kC0 ?eC0 ?tC0 ?hC0 ?iC0 ?sC0 ?ha0 ?hm0 ?aC1 ?xL1 ?rv1 ?sa1 ?ga1 ?gg1 ?nv1 ?iI1 ?tI1 ?lI1 ?cI1 ?kC1 ?eC1 ?tC1 ?hC1 ?iC1 ?sC1 ?ha1 ?hm1 ?aC2 ?xL2 ?rv2 ?sa2 ?ga2 ?gg2 ?nv2 ?iI2 ?tI2 ?lI2 ?cI2 ?kC2 ?eC2 ?tC2 ?hC2 ?iC2 ?sC2 ?ha2 ?hm2 ?aC3 ?xL3 ?rv3 ?sa3 ?ga3 ?gg3 ?nv3 ?iI3 ?tI3 ?lI3 ?cI3 ?kC3 ?eC3 ?tC3 ?hC3 ?iC3 ?sC3 ?ha3 ?hm3 ?aC4 ?xL4 ?rv4 ?sa4 ?ga4 ?gg4 ?nw4 ?nl4 ?iI4 ?tI4 ?lI4 ?cI4 ?kC4 ?eC4 ?tC4 ?hC4 ?iC4 ?sC4 ?ha4 ?hm4 ?sF1_0 ?sF2_0 ?sF2_1 ?sF3_0 ?sF3_1 ?sF3_2 ?sF4_0 ?sF4_1 ?sF4_2 ?sF4_3 ?hn ?ht ?z_isinstance ?z_int ?z_bool ?z_tuple ?z_list ?z_str ?z_len ?z_all ?z_any ?z_max ?z_min ?z_abs ?z_sorted ?z_repr ?z_range ?z_enumerate ?z_divmod ?z_set ?z_sum ?z_zip ?z_dict ?z_ValueError ?z_ArithmeticError ?z_LookupError ?d_law_draw ?d_law_table ?d_law_city ?d_is_tuple ?d_is_word ?d_is_named ?d_is_integer ?d_is_within ?d_are_within ?d_is_way ?d_is_way_table ?d_is_shortest ?d_is_closed ?d_is_city ?d_closed ?d_law_cities_right ?d_law_line ?d_check_city ?d_is_stop ?d_check_stops ?d_drive_of ?d_drive_between ?d_are_line_stops ?d_are_drivable ?d_is_line_of ?d_is_line ?d_least_between ?d_are_lines_of ?d_are_lines ?d_law_lines_right ?d_check_lines ?d_slacks ?d_is_trip_of ?d_position_ahead ?d_keeps_apart ?d_are_trips_of ?d_are_trips ?d_is_hop ?d_told_departure ?d_told_arrival ?d_is_minute ?d_told_without_slack ?d_beat ?d_check_trips ?d_plain_trip ?d_joined_trips ?d_law_trips_right ?d_law_right ?d_law_pot ?d_law_heard ?d_law
    (case e_stops4 => k_is)
    (case e_zone4 => k_is)
    (case e_change4 => k_is)
    (case e_way4 => k_is)
    (case e_stops => k_is)
    (case e_zone => k_is)
    (case e_change => k_is)
    (case e_way => k_is)
    (case e_lines => k_is)
    (case e_lstops => k_is)
    (case e_hop => k_is)
    (case e_stand => k_is)
    (case e_apart => k_is)
    (case e_last => k_is)
    (case e_trips => k_is)
    (case e_every => k_is)
    (case lt_law_cities_right => (refine' K19.tab_mk ?a ?l ?c ?k ?vv; (case a => k_is); (case l => k_is); (case c => rfl); (case k => k_is); (case vv => rfl)))
    (case lk_law_cities_right => first | k_is | kernel_rfl)
    (case rq_law_cities_right => decide +kernel)
    (case lt_law_trips_right => (refine' K19.tab_mk ?a ?l ?c ?k ?vv; (case a => k_is); (case l => k_is); (case c => rfl); (case k => k_is); (case vv => rfl)))
    (case lk_law_trips_right => first | k_is | kernel_rfl)
    (case rq_law_trips_right => decide +kernel)
    (case ne_law_cities_right_law_trips_right => decide)
    (case aC0 => k_is)
    (case xL0 => k_is)
    (case rv0 => decide +kernel)
    (case sa0 => k_is)
    (case ga0 => k_is)
    (case gg0 => k_is)
    (case nv0 => k_is)
    (case iI0 => k_is)
    (case tI0 => k_is)
    (case lI0 => k_is)
    (case cI0 => k_is)
    (case kC0 => k_is)
    (case eC0 => k_is)
    (case tC0 => k_is)
    (case hC0 => k_is)
    (case iC0 => k_is)
    (case sC0 => first | rfl | k_is)
    (case ha0 => k_is)
    (case hm0 => k_is)
    (case aC1 => k_is)
    (case xL1 => k_is)
    (case rv1 => decide +kernel)
    (case sa1 => k_is)
    (case ga1 => k_is)
    (case gg1 => k_is)
    (case nv1 => k_is)
    (case iI1 => k_is)
    (case tI1 => k_is)
    (case lI1 => k_is)
    (case cI1 => k_is)
    (case kC1 => k_is)
    (case eC1 => k_is)
    (case tC1 => k_is)
    (case hC1 => k_is)
    (case iC1 => k_is)
    (case sC1 => first | rfl | k_is)
    (case ha1 => k_is)
    (case hm1 => k_is)
    (case aC2 => k_is)
    (case xL2 => k_is)
    (case rv2 => decide +kernel)
    (case sa2 => k_is)
    (case ga2 => k_is)
    (case gg2 => k_is)
    (case nv2 => k_is)
    (case iI2 => k_is)
    (case tI2 => k_is)
    (case lI2 => k_is)
    (case cI2 => k_is)
    (case kC2 => k_is)
    (case eC2 => k_is)
    (case tC2 => k_is)
    (case hC2 => k_is)
    (case iC2 => k_is)
    (case sC2 => first | rfl | k_is)
    (case ha2 => k_is)
    (case hm2 => k_is)
    (case aC3 => k_is)
    (case xL3 => k_is)
    (case rv3 => decide +kernel)
    (case sa3 => k_is)
    (case ga3 => k_is)
    (case gg3 => k_is)
    (case nv3 => k_is)
    (case iI3 => k_is)
    (case tI3 => k_is)
    (case lI3 => k_is)
    (case cI3 => k_is)
    (case kC3 => k_is)
    (case eC3 => k_is)
    (case tC3 => k_is)
    (case hC3 => k_is)
    (case iC3 => k_is)
    (case sC3 => first | rfl | k_is)
    (case ha3 => k_is)
    (case hm3 => k_is)
    (case aC4 => k_is)
    (case xL4 => k_is)
    (case rv4 => decide +kernel)
    (case sa4 => k_is)
    (case ga4 => k_is)
    (case gg4 => k_is)
    (case nw4 => k_is)
    (case nl4 => k_is)
    (case iI4 => k_is)
    (case tI4 => k_is)
    (case lI4 => k_is)
    (case cI4 => k_is)
    (case kC4 => k_is)
    (case eC4 => k_is)
    (case tC4 => k_is)
    (case hC4 => k_is)
    (case iC4 => k_is)
    (case sC4 => first | rfl | k_is)
    (case ha4 => k_is)
    (case hm4 => k_is)
    (case sF1_0 => first | k_is | rfl)
    (case sF2_0 => first | k_is | rfl)
    (case sF2_1 => first | k_is | rfl)
    (case sF3_0 => first | k_is | rfl)
    (case sF3_1 => first | k_is | rfl)
    (case sF3_2 => first | k_is | rfl)
    (case sF4_0 => first | k_is | rfl)
    (case sF4_1 => first | k_is | rfl)
    (case sF4_2 => first | k_is | rfl)
    (case sF4_3 => first | k_is | rfl)
    (case hn => k_is)
    (case ht => k_is)
    (case z_isinstance => k_is)
    (case z_int => k_is)
    (case z_bool => k_is)
    (case z_tuple => k_is)
    (case z_list => k_is)
    (case z_str => k_is)
    (case z_len => k_is)
    (case z_all => k_is)
    (case z_any => k_is)
    (case z_max => k_is)
    (case z_min => k_is)
    (case z_abs => k_is)
    (case z_sorted => k_is)
    (case z_repr => k_is)
    (case z_range => k_is)
    (case z_enumerate => k_is)
    (case z_divmod => k_is)
    (case z_set => k_is)
    (case z_sum => k_is)
    (case z_zip => k_is)
    (case z_dict => k_is)
    (case z_ValueError => k_is)
    (case z_ArithmeticError => k_is)
    (case z_LookupError => k_is)
    (case d_law_draw => (letI : Dv.Tbl := ⟨[]⟩; refine' Dv.df_mk ?a ?l ?c ?k; (case a => k_is); (case l => k_is); (case c => k_is); (case k => k_is)))
    (case d_law_table => (letI : Dv.Tbl := ⟨[]⟩; refine' Dv.df_mk ?a ?l ?c ?k; (case a => k_is); (case l => k_is); (case c => k_is); (case k => k_is)))
    (case d_law_city => (letI : Dv.Tbl := ⟨[]⟩; refine' Dv.df_mk ?a ?l ?c ?k; (case a => k_is); (case l => k_is); (case c => k_is); (case k => k_is)))
    (case d_is_tuple => (letI : Dv.Tbl := ⟨[]⟩; refine' Dv.df_mk ?a ?l ?c ?k; (case a => k_is); (case l => k_is); (case c => k_is); (case k => k_is)))
    (case d_is_word => (letI : Dv.Tbl := ⟨[]⟩; refine' Dv.df_mk ?a ?l ?c ?k; (case a => k_is); (case l => k_is); (case c => k_is); (case k => k_is)))
    (case d_is_named => (letI : Dv.Tbl := ⟨[]⟩; refine' Dv.df_mk ?a ?l ?c ?k; (case a => k_is); (case l => k_is); (case c => k_is); (case k => k_is)))
    (case d_is_integer => (letI : Dv.Tbl := ⟨[]⟩; refine' Dv.df_mk ?a ?l ?c ?k; (case a => k_is); (case l => k_is); (case c => k_is); (case k => k_is)))
    (case d_is_within => (letI : Dv.Tbl := ⟨[]⟩; refine' Dv.df_mk ?a ?l ?c ?k; (case a => k_is); (case l => k_is); (case c => k_is); (case k => k_is)))
    (case d_are_within => (letI : Dv.Tbl := ⟨[]⟩; refine' Dv.df_mk ?a ?l ?c ?k; (case a => k_is); (case l => k_is); (case c => k_is); (case k => k_is)))
    (case d_is_way => (letI : Dv.Tbl := ⟨[]⟩; refine' Dv.df_mk ?a ?l ?c ?k; (case a => k_is); (case l => k_is); (case c => k_is); (case k => k_is)))
    (case d_is_way_table => (letI : Dv.Tbl := ⟨[]⟩; refine' Dv.df_mk ?a ?l ?c ?k; (case a => k_is); (case l => k_is); (case c => k_is); (case k => k_is)))
    (case d_is_shortest => (letI : Dv.Tbl := ⟨[]⟩; refine' Dv.df_mk ?a ?l ?c ?k; (case a => k_is); (case l => k_is); (case c => k_is); (case k => k_is)))
    (case d_is_closed => (letI : Dv.Tbl := ⟨[]⟩; refine' Dv.df_mk ?a ?l ?c ?k; (case a => k_is); (case l => k_is); (case c => k_is); (case k => k_is)))
    (case d_is_city => (letI : Dv.Tbl := ⟨[]⟩; refine' Dv.df_mk ?a ?l ?c ?k; (case a => k_is); (case l => k_is); (case c => k_is); (case k => k_is)))
    (case d_closed => (letI : Dv.Tbl := ⟨[]⟩; refine' Dv.df_mk ?a ?l ?c ?k; (case a => k_is); (case l => k_is); (case c => k_is); (case k => k_is)))
    (case d_law_cities_right => (letI : Dv.Tbl := ⟨[]⟩; refine' Dv.df_mk ?a ?l ?c ?k; (case a => k_is); (case l => k_is); (case c => k_is); (case k => k_is)))
    (case d_law_line => (letI : Dv.Tbl := ⟨[]⟩; refine' Dv.df_mk ?a ?l ?c ?k; (case a => k_is); (case l => k_is); (case c => k_is); (case k => k_is)))
    (case d_check_city => (letI : Dv.Tbl := ⟨[]⟩; refine' Dv.df_mk ?a ?l ?c ?k; (case a => k_is); (case l => k_is); (case c => k_is); (case k => k_is)))
    (case d_is_stop => (letI : Dv.Tbl := ⟨[]⟩; refine' Dv.df_mk ?a ?l ?c ?k; (case a => k_is); (case l => k_is); (case c => k_is); (case k => k_is)))
    (case d_check_stops => (letI : Dv.Tbl := ⟨[]⟩; refine' Dv.df_mk ?a ?l ?c ?k; (case a => k_is); (case l => k_is); (case c => k_is); (case k => k_is)))
    (case d_drive_of => (letI : Dv.Tbl := ⟨[]⟩; refine' Dv.df_mk ?a ?l ?c ?k; (case a => k_is); (case l => k_is); (case c => k_is); (case k => k_is)))
    (case d_drive_between => (letI : Dv.Tbl := ⟨[]⟩; refine' Dv.df_mk ?a ?l ?c ?k; (case a => k_is); (case l => k_is); (case c => k_is); (case k => k_is)))
    (case d_are_line_stops => (letI : Dv.Tbl := ⟨[]⟩; refine' Dv.df_mk ?a ?l ?c ?k; (case a => k_is); (case l => k_is); (case c => k_is); (case k => k_is)))
    (case d_are_drivable => (letI : Dv.Tbl := ⟨[]⟩; refine' Dv.df_mk ?a ?l ?c ?k; (case a => k_is); (case l => k_is); (case c => k_is); (case k => k_is)))
    (case d_is_line_of => (letI : Dv.Tbl := ⟨[]⟩; refine' Dv.df_mk ?a ?l ?c ?k; (case a => k_is); (case l => k_is); (case c => k_is); (case k => k_is)))
    (case d_is_line => (letI : Dv.Tbl := ⟨[]⟩; refine' Dv.df_mk ?a ?l ?c ?k; (case a => k_is); (case l => k_is); (case c => k_is); (case k => k_is)))
    (case d_least_between => (letI : Dv.Tbl := ⟨[]⟩; refine' Dv.df_mk ?a ?l ?c ?k; (case a => k_is); (case l => k_is); (case c => k_is); (case k => k_is)))
    (case d_are_lines_of => (letI : Dv.Tbl := ⟨[]⟩; refine' Dv.df_mk ?a ?l ?c ?k; (case a => k_is); (case l => k_is); (case c => k_is); (case k => k_is)))
    (case d_are_lines => (letI : Dv.Tbl := ⟨[]⟩; refine' Dv.df_mk ?a ?l ?c ?k; (case a => k_is); (case l => k_is); (case c => k_is); (case k => k_is)))
    (case d_law_lines_right => (letI : Dv.Tbl := ⟨[]⟩; refine' Dv.df_mk ?a ?l ?c ?k; (case a => k_is); (case l => k_is); (case c => k_is); (case k => k_is)))
    (case d_check_lines => (letI : Dv.Tbl := ⟨[]⟩; refine' Dv.df_mk ?a ?l ?c ?k; (case a => k_is); (case l => k_is); (case c => k_is); (case k => k_is)))
    (case d_slacks => (letI : Dv.Tbl := ⟨[]⟩; refine' Dv.df_mk ?a ?l ?c ?k; (case a => k_is); (case l => k_is); (case c => k_is); (case k => k_is)))
    (case d_is_trip_of => (letI : Dv.Tbl := ⟨[]⟩; refine' Dv.df_mk ?a ?l ?c ?k; (case a => k_is); (case l => k_is); (case c => k_is); (case k => k_is)))
    (case d_position_ahead => (letI : Dv.Tbl := ⟨[]⟩; refine' Dv.df_mk ?a ?l ?c ?k; (case a => k_is); (case l => k_is); (case c => k_is); (case k => k_is)))
    (case d_keeps_apart => (letI : Dv.Tbl := ⟨[]⟩; refine' Dv.df_mk ?a ?l ?c ?k; (case a => k_is); (case l => k_is); (case c => k_is); (case k => k_is)))
    (case d_are_trips_of => (letI : Dv.Tbl := ⟨[]⟩; refine' Dv.df_mk ?a ?l ?c ?k; (case a => k_is); (case l => k_is); (case c => k_is); (case k => k_is)))
    (case d_are_trips => (letI : Dv.Tbl := ⟨[]⟩; refine' Dv.df_mk ?a ?l ?c ?k; (case a => k_is); (case l => k_is); (case c => k_is); (case k => k_is)))
    (case d_is_hop => (letI : Dv.Tbl := ⟨[]⟩; refine' Dv.df_mk ?a ?l ?c ?k; (case a => k_is); (case l => k_is); (case c => k_is); (case k => k_is)))
    (case d_told_departure => (letI : Dv.Tbl := ⟨[]⟩; refine' Dv.df_mk ?a ?l ?c ?k; (case a => k_is); (case l => k_is); (case c => k_is); (case k => k_is)))
    (case d_told_arrival => (letI : Dv.Tbl := ⟨[]⟩; refine' Dv.df_mk ?a ?l ?c ?k; (case a => k_is); (case l => k_is); (case c => k_is); (case k => k_is)))
    (case d_is_minute => (letI : Dv.Tbl := ⟨[]⟩; refine' Dv.df_mk ?a ?l ?c ?k; (case a => k_is); (case l => k_is); (case c => k_is); (case k => k_is)))
    (case d_told_without_slack => (letI : Dv.Tbl := ⟨[]⟩; refine' Dv.df_mk ?a ?l ?c ?k; (case a => k_is); (case l => k_is); (case c => k_is); (case k => k_is)))
    (case d_beat => (letI : Dv.Tbl := ⟨[]⟩; refine' Dv.df_mk ?a ?l ?c ?k; (case a => k_is); (case l => k_is); (case c => k_is); (case k => k_is)))
    (case d_check_trips => (letI : Dv.Tbl := ⟨[]⟩; refine' Dv.df_mk ?a ?l ?c ?k; (case a => k_is); (case l => k_is); (case c => k_is); (case k => k_is)))
    (case d_plain_trip => (letI : Dv.Tbl := ⟨[]⟩; refine' Dv.df_mk ?a ?l ?c ?k; (case a => k_is); (case l => k_is); (case c => k_is); (case k => k_is)))
    (case d_joined_trips => (letI : Dv.Tbl := ⟨[]⟩; refine' Dv.df_mk ?a ?l ?c ?k; (case a => k_is); (case l => k_is); (case c => k_is); (case k => k_is)))
    (case d_law_trips_right => (letI : Dv.Tbl := ⟨[]⟩; refine' Dv.df_mk ?a ?l ?c ?k; (case a => k_is); (case l => k_is); (case c => k_is); (case k => k_is)))
    (case d_law_right => (letI : Dv.Tbl := ⟨[]⟩; refine' Dv.df_mk ?a ?l ?c ?k; (case a => k_is); (case l => k_is); (case c => k_is); (case k => k_is)))
    (case d_law_pot => (letI : Dv.Tbl := ⟨[]⟩; refine' Dv.df_mk ?a ?l ?c ?k; (case a => k_is); (case l => k_is); (case c => k_is); (case k => k_is)))
    (case d_law_heard => (letI : Dv.Tbl := ⟨[]⟩; refine' Dv.df_mk ?a ?l ?c ?k; (case a => k_is); (case l => k_is); (case c => k_is); (case k => k_is)))
    (case d_law => (letI : Dv.Tbl := ⟨[]⟩; refine' Dv.df_mk ?a ?l ?c ?k; (case a => k_is); (case l => k_is); (case c => k_is); (case k => k_is)))

