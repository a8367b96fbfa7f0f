import PyProof.Rows.All
import Wide.All
import OpenK.AllK
import Wide.FinOn
import PySem.Challenge.RW_hintring_k15_papers_of_what_is_held
import HandS.ForMost
import HandS.ForExc
import HandS.Flow
import HandS.ExcInit
import HandS.Conv
import HandS.TupAny
import HandS.IsInst
import HandS.Style
import HandS.Wide
import HandS.Zip
import HandS.Rev
import HandS.RevRange
import HandS.Defaults
import HandS.ExcIs
import HandS.ExcValue
import HandS.ExcField
import HandS.ExcOwn
import HandS.ExcSuper
import HandS.ExcBuiltin
import HandS.ForSpec
import KE.KExcIs
import HandS.FStr
import HandS.Deep
import HandS.WideBits
import KE.SortData
import HandS.TupLe
import HandS.SortOrd
import HandS.SortRule
import HandS.TupSets
import HandS.Strs
import KE.GoesMore
set_option Elab.async false
set_option linter.all false
set_option maxRecDepth 100000
set_option maxHeartbeats 1000000
/-! G1: plain data in the place of heaps: what a slot stands for, steps, results, and how they are put together. -/
namespace Gx
open PySem PySem.Spec L2
open PyProof.Rows hiding St

structure Ex where
  cls : Str
  arg : Option Int
inductive Rs (α : Type) where
  | st
  | ex (e : Ex)
  | ok (a : α)
/-- a row of numbers that stands fast: a list, a tuple -/
inductive Sc where
  | l (ns : List Int)
  | t (ns : List Int)
inductive En where
  | no
  | fz (d : PyData)
  | ol (xs : List PyData)
  | bl (xs : List PyData)
  | sc (ns : Sc)
abbrev Ev := List En
inductive Rv where
  | fz (d : PyData)
  | ol (xs : List PyData)
def Rv.d : Rv → PyData
  | .fz d => d
  | .ol xs => .list xs
def Rv.en : Rv → En
  | .fz d => .fz d
  | .ol xs => .ol xs
inductive Fl where
  | nx
  | rt (r : Rv)
  | bk
  | ct
abbrev Dn (α : Type) := Ev → Rs (α × Ev)
def ret {α : Type} (a : α) : Dn α := fun ρ => .ok (a, ρ)
def bnd {α β : Type} (f : Dn α) (g : α → Dn β) : Dn β := fun ρ => match f ρ with
  | .st => .st
  | .ex e => .ex e
  | .ok (a, ρ') => g a ρ'
def lft {α : Type} : Option α → Dn α
  | none => fun _ => .st
  | some a => fun ρ => .ok (a, ρ)

/-! ### data over a heap -/
/-- an exception as data: its class stands at C; the number that it keeps -/
abbrev exD0 (C : Addr) : PyData := .dict [(.int (C : Int), .none)]
abbrev exD1 (C : Addr) (n : Int) : PyData := .dict [(.int (C : Int), .int n)]
mutual
inductive Dq (H : Hp) : V → PyData → Prop
  | non : Dq H .non .none
  | bl (b : Bool) : Dq H (.bl b) (.bool b)
  | int (i : Int) : Dq H (.int i) (.int i)
  | str (x : Str) : Dq H (.str x) (.str x)
  | lst {a : Addr} {xs : List V} {ds : List PyData} : H a = some (.lst xs) → DqAll H xs ds → Dq H (.ref a) (.list ds)
  | tup {a : Addr} {xs : List V} {ds : List PyData} : H a = some (.tup xs) → DqAll H xs ds → Dq H (.ref a) (.tuple ds)
  | ex0 {a C : Addr} : H a = some (exo a C none) → Dq H (.ref a) (exD0 C)
  | ex1 {a C d : Addr} {n : Int} : H a = some (exo a C (some d)) → H d = some (exd d [(("number" : Str), .int n)]) → Dq H (.ref a) (exD1 C n)
inductive DqAll (H : Hp) : List V → List PyData → Prop
  | nil : DqAll H [] []
  | cons {v : V} {vs : List V} {d : PyData} {ds : List PyData} : Dq H v d → DqAll H vs ds → DqAll H (v :: vs) (d :: ds)
end
mutual
/-- nothing but data -/
def cln : PyData → Bool
  | .list ds => clns ds
  | .tuple ds => clns ds
  | .dict _ => false
  | _ => true
def clns : List PyData → Bool
  | [] => true
  | d :: ds => cln d && clns ds
end
mutual
theorem dq_dp {K : PySem.W.Frag} {H : Hp} : ∀ (d : PyData) (v : V), cln d = true → Dq H v d → Dp K H v d
  | .none, _, _, h => by cases h; exact .non
  | .bool b, _, _, h => by cases h; exact .bl b
  | .int i, _, _, h => by cases h; exact .int i
  | .str x, _, _, h => by cases h; exact .str x
  | .list ds, _, c, h => by
    cases h with
    | lst hs ha => exact .lst (.of hs) (dqs_dp ds _ (by unfold cln at c; exact c) ha)
  | .tuple ds, _, c, h => by
    cases h with
    | tup hs ha => exact .tup (.of hs) (dqs_dp ds _ (by unfold cln at c; exact c) ha)
  | .dict _, _, c, h => by unfold cln at c; cases c
theorem dqs_dp {K : PySem.W.Frag} {H : Hp} : ∀ (ds : List PyData) (vs : List V), clns ds = true → DqAll H vs ds → DpAll K H vs ds
  | [], _, _, h => by cases h; exact .nil
  | d :: ds, _, c, h => by
    cases h with
    | cons h1 h2 =>
      unfold clns at c
      rw [Bool.and_eq_true] at c
      exact .cons (dq_dp d _ c.1 h1) (dqs_dp ds _ c.2 h2)
end
theorem same_T {K : PySem.W.Frag} {H H' : Hp} {a : Addr} {xs : List V} (e : Same H H') (h : SqT K H a xs) : SqT K H' a xs := by
  rcases h with (h | ⟨o, h⟩) | h
  · exact .inl (.inl (e _ _ h))
  · exact .inl (.inr ⟨o, e _ _ h⟩)
  · exact .inr h
mutual
theorem dp_mono {H H' : Hp} (e : Same H H') : ∀ (d : PyData) (v : V), Dq H v d → Dq H' v d
  | .none, _, h => by cases h; exact .non
  | .bool b, _, h => by cases h; exact .bl b
  | .int i, _, h => by cases h; exact .int i
  | .str x, _, h => by cases h; exact .str x
  | .list ds, _, h => by
    cases h with
    | lst hs ha => exact .lst (e _ _ hs) (dps_mono e ds _ ha)
  | .tuple ds, _, h => by
    cases h with
    | tup hs ha => exact .tup (e _ _ hs) (dps_mono e ds _ ha)
  | .dict _, _, h => by
    cases h with
    | ex0 h1 => exact .ex0 (e _ _ h1)
    | ex1 h1 h2 => exact .ex1 (e _ _ h1) (e _ _ h2)
theorem dps_mono {H H' : Hp} (e : Same H H') : ∀ (ds : List PyData) (vs : List V), DqAll H vs ds → DqAll H' vs ds
  | [], _, h => by cases h; exact .nil
  | d :: ds, _, h => by
    cases h with
    | cons h1 h2 => exact .cons (dp_mono e d _ h1) (dps_mono e ds _ h2)
end
theorem dps_len {H : Hp} : ∀ {vs : List V} {ds : List PyData}, DqAll H vs ds → vs.length = ds.length
  | [], _, h => by cases h; rfl
  | v :: vs, _, h => by
    cases h with
    | cons h1 h2 => simp [dps_len h2]
theorem dps_get {H : Hp} : ∀ {vs : List V} {ds : List PyData} {i : Nat} {d : PyData}, DqAll H vs ds → ds[i]? = some d → ∃ v, vs[i]? = some v ∧ Dq H v d
  | [], _, i, d, h, e => by cases h; simp at e
  | v :: vs, _, 0, d, h, e => by
    cases h with
    | cons h1 h2 =>
      simp at e
      subst e
      exact ⟨v, rfl, h1⟩
  | v :: vs, _, i + 1, d, h, e => by
    cases h with
    | cons h1 h2 =>
      obtain ⟨u, e1, e2⟩ := dps_get (i := i) h2 (by simpa using e)
      exact ⟨u, by simpa using e1, e2⟩
theorem dps_app {H : Hp} : ∀ {vs : List V} {ds : List PyData} {us : List V} {es : List PyData}, DqAll H vs ds → DqAll H us es → DqAll H (vs ++ us) (ds ++ es)
  | [], _, us, es, h, q => by cases h; exact q
  | v :: vs, _, us, es, h, q => by
    cases h with
    | cons h1 h2 => exact .cons h1 (dps_app h2 q)
theorem dps_one {H : Hp} {v : V} {d : PyData} (h : Dq H v d) : DqAll H [v] [d] := .cons h .nil
theorem dps_set {H : Hp} {v : V} {d : PyData} (q : Dq H v d) : ∀ {vs : List V} {ds : List PyData} (i : Nat), DqAll H vs ds → DqAll H (vs.set i v) (ds.set i d)
  | [], _, i, h => by cases h; exact .nil
  | u :: vs, _, 0, h => by
    cases h with
    | cons h1 h2 => exact .cons q h2
  | u :: vs, _, i + 1, h => by
    cases h with
    | cons h1 h2 => exact .cons h1 (dps_set q i h2)
theorem dps_take {H : Hp} : ∀ {vs : List V} {ds : List PyData} (n : Nat), DqAll H vs ds → DqAll H (vs.take n) (ds.take n)
  | _, _, 0, h => by simp; exact .nil
  | [], _, n + 1, h => by cases h; simp; exact .nil
  | v :: vs, _, n + 1, h => by
    cases h with
    | cons h1 h2 => exact .cons h1 (dps_take n h2)
theorem dps_drop {H : Hp} : ∀ {vs : List V} {ds : List PyData} (n : Nat), DqAll H vs ds → DqAll H (vs.drop n) (ds.drop n)
  | _, _, 0, h => by simpa using h
  | [], _, n + 1, h => by cases h; simp; exact .nil
  | v :: vs, _, n + 1, h => by
    cases h with
    | cons h1 h2 => simpa using dps_drop n h2
theorem dps_erase {H : Hp} : ∀ {vs : List V} {ds : List PyData} (i : Nat), DqAll H vs ds → DqAll H (vs.eraseIdx i) (ds.eraseIdx i)
  | [], _, i, h => by cases h; exact .nil
  | v :: vs, _, 0, h => by
    cases h with
    | cons h1 h2 => exact h2
  | v :: vs, _, i + 1, h => by
    cases h with
    | cons h1 h2 => exact .cons h1 (dps_erase i h2)
theorem dps_rev {H : Hp} : ∀ {vs : List V} {ds : List PyData}, DqAll H vs ds → DqAll H vs.reverse ds.reverse
  | [], _, h => by cases h; exact .nil
  | v :: vs, _, h => by
    cases h with
    | cons h1 h2 =>
      rw [List.reverse_cons, List.reverse_cons]
      exact dps_app (dps_rev h2) (dps_one h1)
theorem dps_rep {H : Hp} {vs : List V} {ds : List PyData} (h : DqAll H vs ds) : ∀ n : Nat, DqAll H (List.replicate n vs).flatten (List.replicate n ds).flatten
  | 0 => .nil
  | n + 1 => by
    rw [List.replicate_succ, List.replicate_succ, List.flatten_cons, List.flatten_cons]
    exact dps_app h (dps_rep h n)

/-! ### whose a list is -/
def OwnL (ρ : Ev) (σ : St) (p : Addr) : Prop := ∃ (i : Nat) (xs : List PyData), ρ[i]? = some (.ol xs) ∧ σ[i]? = some (some (.ref p))
def OwnB (ρ : Ev) (σ : St) (p : Addr) : Prop := ∃ (i : Nat) (xs : List PyData), ρ[i]? = some (.bl xs) ∧ σ[i]? = some (some (.ref p))
def Own (ρ : Ev) (σ : St) (p : Addr) : Prop := OwnL ρ σ p ∨ OwnB ρ σ p
def IsOwn (ρ : Ev) (i : Nat) : Prop := (∃ xs : List PyData, ρ[i]? = some (.ol xs)) ∨ ∃ xs : List PyData, ρ[i]? = some (.bl xs)
theorem own_at {ρ : Ev} {σ : St} {p : Addr} {i : Nat} (h : IsOwn ρ i) (e : σ[i]? = some (some (.ref p))) : Own ρ σ p := by
  rcases h with ⟨xs, h⟩ | ⟨xs, h⟩
  · exact .inl ⟨i, xs, h, e⟩
  · exact .inr ⟨i, xs, h, e⟩
theorem own_ex {ρ : Ev} {σ : St} {p : Addr} (h : Own ρ σ p) : ∃ i : Nat, IsOwn ρ i ∧ σ[i]? = some (some (.ref p)) := by
  rcases h with ⟨i, xs, h, e⟩ | ⟨i, xs, h, e⟩
  · exact ⟨i, .inl ⟨xs, h⟩, e⟩
  · exact ⟨i, .inr ⟨xs, h⟩, e⟩

/-- the slots σ over the heap H stand for ρ; F: what of H will never change -/
def Sc.at (K : PySem.W.Frag) (F : Hp) (a : Addr) : Sc → Prop
  | .l ns => SqL K F a (ns.map V.int)
  | .t ns => SqT K F a (ns.map V.int)
theorem sc_keep {K : PySem.W.Frag} {F H : Hp} (s : Same F H) {a : Addr} : ∀ {x : Sc}, x.at K F a → x.at K H a
  | .l _, h => s.seq h
  | .t _, h => same_T s h
structure Rel (K : PySem.W.Frag) (ρ : Ev) (σ : St) (F H : Hp) : Prop where
  sub : Same F H
  fz : ∀ (i : Nat) (d : PyData), ρ[i]? = some (.fz d) → ∃ v, σ[i]? = some (some v) ∧ Dq F v d
  ls : ∀ (i : Nat) (xs : List PyData), (ρ[i]? = some (.ol xs) ∨ ρ[i]? = some (.bl xs)) → ∃ p vs, σ[i]? = some (some (.ref p)) ∧ H p = some (.lst vs) ∧ F p = none ∧ DqAll F vs xs
  sc : ∀ (i : Nat) (ns : Sc), ρ[i]? = some (.sc ns) → ∃ a, σ[i]? = some (some (.ref a)) ∧ ns.at K F a
  sep : ∀ (i j : Nat) (p : Addr), IsOwn ρ i → IsOwn ρ j → σ[i]? = some (some (.ref p)) → σ[j]? = some (some (.ref p)) → i = j
  ln : ρ.length = σ.length
theorem Rel.own {K : PySem.W.Frag} {ρ : Ev} {σ : St} {F H : Hp} (R : Rel K ρ σ F H) {p : Addr} (h : Own ρ σ p) : (∃ vs, H p = some (.lst vs)) ∧ F p = none := by
  obtain ⟨i, h, e⟩ := own_ex h
  obtain ⟨xs, hx⟩ : ∃ xs, ρ[i]? = some (.ol xs) ∨ ρ[i]? = some (.bl xs) := by
    rcases h with ⟨xs, h⟩ | ⟨xs, h⟩
    · exact ⟨xs, .inl h⟩
    · exact ⟨xs, .inr h⟩
  obtain ⟨q, vs, e1, e2, e3, _⟩ := R.ls i xs hx
  rw [e] at e1
  cases e1
  exact ⟨⟨vs, e2⟩, e3⟩

structure Stp (K : PySem.W.Frag) (ρ : Ev) (σ : St) (F H : Hp) (ρ' : Ev) (σ' : St) (F' H' : Hp) : Prop where
  rel : Rel K ρ' σ' F' H'
  ff : Same F F'
  fr : ∀ a o, H a = some o → ¬ Own ρ σ a → H' a = some o
  oo : ∀ p, OwnL ρ' σ' p → OwnL ρ σ p ∨ H p = none
  bk : ∀ (i : Nat) (xs : List PyData), ρ[i]? = some (.bl xs) → (∃ ys, ρ'[i]? = some (.bl ys)) ∧ σ'[i]? = σ[i]?
  kb : ∀ (i : Nat) (ys : List PyData), ρ'[i]? = some (.bl ys) → ∃ xs, ρ[i]? = some (.bl xs)
  nw : ∀ a, F' a ≠ none → F a ≠ none ∨ OwnL ρ σ a ∨ H a = none
  ln : ρ'.length = ρ.length
  dm : ∀ a, H' a = none → H a = none
section
variable {K : PySem.W.Frag} {ρ ρ1 ρ2 : Ev} {σ σ1 σ2 : St} {F F1 F2 H H1 H2 : Hp}
theorem Stp.refl (R : Rel K ρ σ F H) : Stp K ρ σ F H ρ σ F H :=
  ⟨R, Same.refl F, fun _ _ h _ => h, fun _ h => .inl h, fun _ xs h => ⟨⟨xs, h⟩, rfl⟩, fun _ ys h => ⟨ys, h⟩, fun _ h => .inl h, rfl, fun _ h => h⟩
theorem Stp.ob (s : Stp K ρ σ F H ρ1 σ1 F1 H1) {p : Addr} (h : OwnB ρ1 σ1 p) : OwnB ρ σ p := by
  obtain ⟨i, ys, h1, h2⟩ := h
  obtain ⟨xs, h3⟩ := s.kb i ys h1
  exact ⟨i, xs, h3, by rw [← (s.bk i xs h3).2]; exact h2⟩
theorem Stp.bo (s : Stp K ρ σ F H ρ1 σ1 F1 H1) {p : Addr} (h : OwnB ρ σ p) : OwnB ρ1 σ1 p := by
  obtain ⟨i, ys, h1, h2⟩ := h
  obtain ⟨⟨xs, h3⟩, h4⟩ := s.bk i ys h1
  exact ⟨i, xs, h3, by rw [h4]; exact h2⟩
/-- what was nobody's is nobody's -/
theorem Stp.nob (s : Stp K ρ σ F H ρ1 σ1 F1 H1) {a : Addr} {o : HO} (h : H a = some o) (n : ¬ Own ρ σ a) : ¬ Own ρ1 σ1 a := fun q => by
  rcases q with q | q
  · rcases s.oo a q with z | z
    · exact n (.inl z)
    · rw [h] at z
      cases z
  · exact n (.inr (s.ob q))
theorem Stp.trans (s : Stp K ρ σ F H ρ1 σ1 F1 H1) (t : Stp K ρ1 σ1 F1 H1 ρ2 σ2 F2 H2) : Stp K ρ σ F H ρ2 σ2 F2 H2 where
  rel := t.rel
  ff := s.ff.trans t.ff
  fr := fun a o h n => t.fr a o (s.fr a o h n) (s.nob h n)
  oo := fun p h => by
    rcases t.oo p h with z | z
    · exact s.oo p z
    · exact .inr (s.dm p z)
  bk := fun i xs h => by
    obtain ⟨⟨ys, h1⟩, h2⟩ := s.bk i xs h
    obtain ⟨h3, h4⟩ := t.bk i ys h1
    exact ⟨h3, h4.trans h2⟩
  kb := fun i ys h => by
    obtain ⟨xs, h1⟩ := t.kb i ys h
    exact s.kb i xs h1
  nw := fun a h => by
    rcases t.nw a h with z | z | z
    · exact s.nw a z
    · rcases s.oo a z with y | y
      · exact .inr (.inl y)
      · exact .inr (.inr y)
    · exact .inr (.inr (s.dm a z))
  ln := t.ln.trans s.ln
  dm := fun a h => s.dm a (t.dm a h)

/-- things are made, nothing is changed -/
structure Grow (F H F' H' : Hp) : Prop where
  ff : Same F F'
  hh : Same H H'
  sub : Same F' H'
  nw : ∀ a, F' a ≠ none → F a ≠ none ∨ H a = none
theorem Grow.refl (h : Same F H) : Grow F H F H := ⟨Same.refl F, Same.refl H, h, fun _ z => .inl z⟩
theorem Grow.trans (g : Grow F H F1 H1) (k : Grow F1 H1 F2 H2) : Grow F H F2 H2 :=
  ⟨g.ff.trans k.ff, g.hh.trans k.hh, k.sub, fun a z => by
    rcases k.nw a z with y | y
    · exact g.nw a y
    · exact .inr (g.hh.free y)⟩
theorem same_new {H : Hp} {p : Addr} {o : HO} (h : H p = none) : Same H (upd H p o) := fun b x e => by
  rw [upd_ne (ne_of_none e h)]
  exact e
theorem sub_none {F H : Hp} (s : Same F H) {p : Addr} (h : H p = none) : F p = none := s.free h
/-- a new thing that will not change -/
theorem Grow.new {p : Addr} {o : HO} (s : Same F H) (h : H p = none) : Grow F H (upd F p o) (upd H p o) :=
  ⟨same_new (s.free h), same_new h, fun b x e => by
    by_cases q : b = p
    · subst q
      rw [upd_same] at e ⊢
      exact e
    · rw [upd_ne q] at e ⊢
      exact s b x e, fun a z => by
    by_cases q : a = p
    · subst q
      exact .inr h
    · rw [upd_ne q] at z
      exact .inl z⟩
/-- a new thing whose way is open -/
theorem Grow.own {p : Addr} {o : HO} (s : Same F H) (h : H p = none) : Grow F H F (upd H p o) :=
  ⟨Same.refl F, same_new h, s.trans (same_new h), fun a z => .inl z⟩
theorem Grow.stp (R : Rel K ρ σ F H) (g : Grow F H F1 H1) : Stp K ρ σ F H ρ σ F1 H1 where
  rel := by
    refine ⟨g.sub, fun i d h => ?_, fun i xs h => ?_, fun i ns h => ?_, R.sep, R.ln⟩
    · obtain ⟨v, h1, h2⟩ := R.fz i d h
      exact ⟨v, h1, dp_mono g.ff d v h2⟩
    · obtain ⟨p, vs, h1, h2, h3, h4⟩ := R.ls i xs h
      refine ⟨p, vs, h1, g.hh _ _ h2, ?_, dps_mono g.ff xs vs h4⟩
      cases e : F1 p with
      | none => rfl
      | some o =>
        rcases g.nw p (by rw [e]; intro z; cases z) with z | z
        · exact absurd h3 z
        · rw [h2] at z
          cases z
    · obtain ⟨a, h1, h2⟩ := R.sc i ns h
      exact ⟨a, h1, sc_keep g.ff h2⟩
  ff := g.ff
  fr := fun a o h _ => g.hh a o h
  oo := fun _ h => .inl h
  bk := fun _ xs h => ⟨⟨xs, h⟩, rfl⟩
  kb := fun _ ys h => ⟨ys, h⟩
  nw := fun a h => by
    rcases g.nw a h with z | z
    · exact .inl z
    · exact .inr (.inr z)
  ln := rfl
  dm := fun a h => g.hh.free h
end

/-! ### results -/
def ROk (ρ : Ev) (σ : St) (H : Hp) (ρ' : Ev) (σ' : St) (F' H' : Hp) : Rv → V → Prop
  | .fz d, v => Dq F' v d
  | .ol xs, v => ∃ p vs, v = .ref p ∧ (OwnL ρ σ p ∨ H p = none) ∧ H' p = some (.lst vs) ∧ F' p = none ∧ DqAll F' vs xs ∧ ¬ Own ρ' σ' p
def ArOk (H : Hp) (d : Option Addr) (H' : Hp) : Option Int → Prop
  | none => d = none
  | some n => ∃ dd, d = some dd ∧ H dd = none ∧ H' dd = some (.xd [("number", .int n)])
/-- an exception on its way out -/
structure XP (mg : Str → Option Value) (ρ : Ev) (σ : St) (H : Hp) (e : Ex) (cls : Value) (d : Option Addr) (H' : Hp) : Prop where
  cl : mg e.cls = some cls
  fr : ∀ a o, H a = some o → ¬ Own ρ σ a → H' a = some o
  dm : ∀ a, H' a = none → H a = none
  ar : ArOk H d H' e.arg
def Out {α : Type} (mg : Str → Option Value) (E : XK) (ρ : Ev) (σ : St) (H : Hp) (m : Rs (α × Ev)) (P : α → Ev → Prop) : Prop :=
  match m with
  | .st => False
  | .ex e => ∀ cls d H', XP mg ρ σ H e cls d H' → E cls d H'
  | .ok (a, ρ') => P a ρ'
section
variable {α β : Type} {K : PySem.W.Frag} {mg : Str → Option Value} {E : XK} {ρ ρ1 : Ev} {σ σ1 : St} {F F1 H H1 : Hp}
theorem XP.after {e : Ex} {cls : Value} {d : Option Addr} {H' : Hp} (s : Stp K ρ σ F H ρ1 σ1 F1 H1) (x : XP mg ρ1 σ1 H1 e cls d H') : XP mg ρ σ H e cls d H' :=
  ⟨x.cl, fun a o h n => x.fr a o (s.fr a o h n) (s.nob h n), fun a h => s.dm a (x.dm a h), by
    have y := x.ar
    cases q : e.arg with
    | none => rw [q] at y; exact y
    | some n =>
      rw [q] at y
      obtain ⟨dd, h1, h2, h3⟩ := y
      exact ⟨dd, h1, s.dm dd h2, h3⟩⟩
theorem Out.mono {m : Rs (α × Ev)} {P P' : α → Ev → Prop} (h : Out mg E ρ σ H m P) (f : ∀ a ρ', P a ρ' → P' a ρ') : Out mg E ρ σ H m P' := by
  cases m with
  | st => exact h
  | ex e => exact h
  | ok a => exact f a.1 a.2 h
theorem out_bnd {f : Dn α} {g : α → Dn β} {P : β → Ev → Prop} (h : Out mg E ρ σ H (bnd f g ρ) P) :
    Out mg E ρ σ H (f ρ) (fun a ρ1 => ∀ σ1 F1 H1, Stp K ρ σ F H ρ1 σ1 F1 H1 → Out mg E ρ1 σ1 H1 (g a ρ1) P) := by
  unfold bnd at h
  cases e : f ρ with
  | st => rw [e] at h; exact h
  | ex x => rw [e] at h; exact h
  | ok a =>
    rw [e] at h
    intro σ1 F1 H1 s
    show Out mg E a.2 σ1 H1 (g a.1 a.2) P
    have h' : Out mg E ρ σ H (g a.1 a.2) P := h
    cases q : g a.1 a.2 with
    | st => rw [q] at h'; exact h'
    | ex x =>
      rw [q] at h'
      exact fun cls d H' xp => h' cls d H' (xp.after s)
    | ok b => rw [q] at h'; exact h'
theorem out_ret {a : α} {P : α → Ev → Prop} (h : Out mg E ρ σ H (ret a ρ) P) : P a ρ := h
theorem out_lft {o : Option α} {P : α → Ev → Prop} (h : Out mg E ρ σ H (lft o ρ) P) : ∃ a, o = some a ∧ P a ρ := by
  cases o with
  | none => exact (show False from h).elim
  | some a => exact ⟨a, rfl, h⟩
end

/-! ### readings -/
section
variable (K : PySem.W.Frag) (mg : Str → Option Value) (E : XK)
def tE (f : Dn Rv) : TE := fun σ H Q => ∃ ρ F, Rel K ρ σ F H ∧ Out mg E ρ σ H (f ρ) fun r ρ' => ∀ v F' H', Stp K ρ σ F H ρ' σ F' H' → ROk ρ σ H ρ' σ F' H' r v → Q v H'
def tD (f : Dn PyData) : TE := fun σ H Q => ∃ ρ F, Rel K ρ σ F H ∧ Out mg E ρ σ H (f ρ) fun d ρ' => ∀ v F' H', Stp K ρ σ F H ρ' σ F' H' → Dq F' v d → Q v H'
def tT (f : Dn Bool) : TT := fun σ H Q => ∃ ρ F, Rel K ρ σ F H ∧ Out mg E ρ σ H (f ρ) fun b ρ' => ∀ F' H', Stp K ρ σ F H ρ' σ F' H' → Q b H'
def tDs (f : Dn (List PyData)) : TA := fun σ H Q => ∃ ρ F, Rel K ρ σ F H ∧ Out mg E ρ σ H (f ρ) fun ds ρ' => ∀ vs F' H', Stp K ρ σ F H ρ' σ F' H' → DqAll F' vs ds → Q vs H'
def tS (f : Dn Fl) : TS := fun D σ H => ∃ ρ F, Rel K ρ σ F H ∧ Out mg E ρ σ H (f ρ) fun fl ρ' => match fl with
  | .nx => ∀ σ' F' H', Stp K ρ σ F H ρ' σ' F' H' → D.nx σ' H'
  | .bk => ∀ σ' F' H', Stp K ρ σ F H ρ' σ' F' H' → D.bk σ' H'
  | .ct => ∀ σ' F' H', Stp K ρ σ F H ρ' σ' F' H' → D.ct σ' H'
  | .rt r => ∀ σ' v F' H', Stp K ρ σ F H ρ' σ' F' H' → ROk ρ σ H ρ' σ' F' H' r v → D.rt v H'
end
theorem pe_wk {X : Cx} {e : Expr} {t t' : TE} (h : PE X e t) (w : ∀ σ H Q, t' σ H Q → t σ H Q) : PE X e t' := ⟨fun pins s σ H Q I q => h.run pins s σ H Q I (w σ H Q q)⟩
theorem pt_wk {X : Cx} {e : Expr} {t t' : TT} (h : PT X e t) (w : ∀ σ H Q, t' σ H Q → t σ H Q) : PT X e t' := ⟨fun pins s σ H Q I q => h.run pins s σ H Q I (w σ H Q q)⟩
theorem pw_wk {X : Cx} {e : Expr} {t t' : TT} (h : PW X e t) (w : ∀ σ H Q, t' σ H Q → t σ H Q) : PW X e t' := ⟨fun wh pins s σ H Q I q => h.run wh pins s σ H Q I (w σ H Q q)⟩
theorem pa_wk {X : Cx} {es : List Expr} {t t' : TA} (h : PA X es t) (w : ∀ σ H Q, t' σ H Q → t σ H Q) : PA X es t' := ⟨fun pos pins s σ H Q I q => h.run pos pins s σ H Q I (w σ H Q q)⟩
theorem ps_wk {X : Cx} {st : Stmt} {t t' : TS} (h : PS X st t) (w : ∀ D σ H, t' D σ H → t D σ H) : PS X st t' := ⟨fun pins s σ H D I q => h.run pins s σ H D I (w D σ H q)⟩
theorem pss_wk {X : Cx} {st : List Stmt} {t t' : TS} (h : PSs X st t) (w : ∀ D σ H, t' D σ H → t D σ H) : PSs X st t' := ⟨fun pins s σ H D I q => h.run pins s σ H D I (w D σ H q)⟩

/-- a list of one's own is let go -/
theorem freeze {K : PySem.W.Frag} {ρ ρ' : Ev} {σ σ' : St} {F H F' H' : Hp} {p : Addr} {vs : List V} (s : Stp K ρ σ F H ρ' σ' F' H') (h1 : OwnL ρ σ p ∨ H p = none) (h2 : H' p = some (.lst vs)) (h3 : F' p = none) (h4 : ¬ Own ρ' σ' p) :
    Stp K ρ σ F H ρ' σ' (upd F' p (.lst vs)) H' where
  rel := ⟨fun b x e => by
      by_cases q : b = p
      · subst q
        rw [upd_same] at e
        cases e
        exact h2
      · rw [upd_ne q] at e
        exact s.rel.sub b x e, fun i d h => by
      obtain ⟨v, e1, e2⟩ := s.rel.fz i d h
      exact ⟨v, e1, dp_mono (same_new h3) d v e2⟩, fun i xs h => by
      obtain ⟨q, ws, e1, e2, e3, e4⟩ := s.rel.ls i xs h
      have hi : IsOwn ρ' i := by
        rcases h with h | h
        · exact .inl ⟨xs, h⟩
        · exact .inr ⟨xs, h⟩
      have ne : q ≠ p := fun z => h4 (by rw [← z]; exact own_at hi e1)
      exact ⟨q, ws, e1, e2, by rw [upd_ne ne]; exact e3, dps_mono (same_new h3) xs ws e4⟩, fun i ns h => by
      obtain ⟨a, h1, h2⟩ := s.rel.sc i ns h
      exact ⟨a, h1, sc_keep (same_new h3) h2⟩, s.rel.sep, s.rel.ln⟩
  ff := s.ff.trans (same_new h3)
  fr := s.fr
  oo := s.oo
  bk := s.bk
  kb := s.kb
  nw := fun a h => by
    by_cases q : a = p
    · subst q
      exact .inr h1
    · rw [upd_ne q] at h
      exact s.nw a h
  ln := s.ln
  dm := s.dm
def frz (f : Dn Rv) : Dn PyData := bnd f fun r => ret r.d
theorem toD {X : Cx} {e : Expr} {K : PySem.W.Frag} {mg : Str → Option Value} {E : XK} {f : Dn Rv} (h : PE X e (tE K mg E f)) : PE X e (tD K mg E (frz f)) :=
  pe_wk h fun σ H Q ⟨ρ, F, R, q⟩ => ⟨ρ, F, R, (out_bnd (K := K) (F := F) q).mono fun r ρ1 k v F1 H1 s ro => by
    cases r with
    | fz d => exact out_ret (k _ _ _ s) v F1 H1 s ro
    | ol xs =>
      obtain ⟨p, vs, rfl, h1, h2, h3, h4, h5⟩ := ro
      have s2 := freeze s h1 h2 h3 h5
      exact out_ret (k _ _ _ s2) _ _ _ s2 (.lst upd_same (dps_mono (same_new h3) xs vs h4))⟩
def ofD (f : Dn PyData) : Dn Rv := bnd f fun d => ret (.fz d)
theorem toE {X : Cx} {e : Expr} {K : PySem.W.Frag} {mg : Str → Option Value} {E : XK} {f : Dn PyData} (h : PE X e (tD K mg E f)) : PE X e (tE K mg E (ofD f)) :=
  pe_wk h fun σ H Q ⟨ρ, F, R, q⟩ => ⟨ρ, F, R, (out_bnd (K := K) (F := F) q).mono fun d ρ1 k v F1 H1 s dp => out_ret (k _ _ _ s) v F1 H1 s dp⟩
end Gx

/-! G2: expressions over plain data. -/
namespace Gx
open PySem PySem.Spec L2
open PyProof.Rows hiding St

/-! ### slots -/
theorem set_get {α : Type} {l : List α} {i j : Nat} {e x : α} (h : (l.set i e)[j]? = some x) : (j = i ∧ x = e) ∨ (j ≠ i ∧ l[j]? = some x) := by
  by_cases q : j = i
  · subst q
    by_cases z : j < l.length
    · rw [List.getElem?_set_self z] at h
      exact .inl ⟨rfl, (Option.some.inj h).symm⟩
    · rw [List.getElem?_eq_none (by simpa using z)] at h
      cases h
  · rw [List.getElem?_set_ne (Ne.symm q)] at h
    exact .inr ⟨q, h⟩
section
variable {K : PySem.W.Frag} {ρ ρ1 : Ev} {σ σ1 : St} {F F1 H H1 : Hp} {i : Nat}
theorem own_set_fz {d : PyData} {v : V} {p : Addr} (h : OwnL (ρ1.set i (.fz d)) (σ1.set i (some v)) p) : OwnL ρ1 σ1 p := by
  obtain ⟨j, xs, h1, h2⟩ := h
  rcases set_get h1 with ⟨_, z⟩ | ⟨n, h1⟩
  · cases z
  · rw [List.getElem?_set_ne (Ne.symm n)] at h2
    exact ⟨j, xs, h1, h2⟩
theorem isOwn_set {e : En} (he : ∀ xs, e ≠ .ol xs ∧ e ≠ .bl xs) {j : Nat} (h : IsOwn (ρ1.set i e) j) : j ≠ i ∧ IsOwn ρ1 j := by
  rcases h with ⟨xs, h⟩ | ⟨xs, h⟩
  · rcases set_get h with ⟨_, z⟩ | ⟨n, h⟩
    · exact absurd z.symm (he xs).1
    · exact ⟨n, .inl ⟨xs, h⟩⟩
  · rcases set_get h with ⟨_, z⟩ | ⟨n, h⟩
    · exact absurd z.symm (he xs).2
    · exact ⟨n, .inr ⟨xs, h⟩⟩
theorem store_fz {d : PyData} {v : V} (S : Stp K ρ σ F H ρ1 σ1 F1 H1) (nb : ∀ xs, ρ1[i]? ≠ some (.bl xs)) (hi : i < ρ1.length) (q : Dq F1 v d) : Stp K ρ σ F H (ρ1.set i (.fz d)) (σ1.set i (some v)) F1 H1 where
  rel := by
    have hσ : i < σ1.length := by rw [← S.rel.ln]; exact hi
    refine ⟨S.rel.sub, fun j e h => ?_, fun j xs h => ?_, fun j ns h => ?_, fun j k p hj hk e1 e2 => ?_, by simpa using S.rel.ln⟩
    · rcases set_get h with ⟨rfl, z⟩ | ⟨n, h⟩
      · cases z
        exact ⟨v, List.getElem?_set_self hσ, q⟩
      · rw [List.getElem?_set_ne (Ne.symm n)]
        exact S.rel.fz j e h
    · have h' : j ≠ i ∧ (ρ1[j]? = some (.ol xs) ∨ ρ1[j]? = some (.bl xs)) := by
        rcases h with h | h
        · rcases set_get h with ⟨_, z⟩ | ⟨n, h⟩
          · cases z
          · exact ⟨n, .inl h⟩
        · rcases set_get h with ⟨_, z⟩ | ⟨n, h⟩
          · cases z
          · exact ⟨n, .inr h⟩
      rw [List.getElem?_set_ne (Ne.symm h'.1)]
      exact S.rel.ls j xs h'.2
    · rcases set_get h with ⟨_, z⟩ | ⟨n, h⟩
      · cases z
      · rw [List.getElem?_set_ne (Ne.symm n)]
        exact S.rel.sc j ns h
    · obtain ⟨n1, o1⟩ := isOwn_set (fun xs => ⟨(fun z => by cases z), (fun z => by cases z)⟩) hj
      obtain ⟨n2, o2⟩ := isOwn_set (fun xs => ⟨(fun z => by cases z), (fun z => by cases z)⟩) hk
      rw [List.getElem?_set_ne (Ne.symm n1)] at e1
      rw [List.getElem?_set_ne (Ne.symm n2)] at e2
      exact S.rel.sep j k p o1 o2 e1 e2
  ff := S.ff
  fr := S.fr
  oo := fun p h => S.oo p (own_set_fz h)
  bk := fun j xs h => by
    obtain ⟨⟨ys, h1⟩, h2⟩ := S.bk j xs h
    have n : j ≠ i := fun z => nb ys (by rw [← z]; exact h1)
    rw [List.getElem?_set_ne (Ne.symm n), List.getElem?_set_ne (Ne.symm n)]
    exact ⟨⟨ys, h1⟩, h2⟩
  kb := fun j ys h => by
    rcases set_get h with ⟨_, z⟩ | ⟨n, h⟩
    · cases z
    · exact S.kb j ys h
  nw := S.nw
  ln := by rw [List.length_set]; exact S.ln
  dm := S.dm
theorem store_ol {p : Addr} {vs : List V} {xs : List PyData} (S : Stp K ρ σ F H ρ1 σ1 F1 H1) (nb : ∀ xs, ρ1[i]? ≠ some (.bl xs)) (hi : i < ρ1.length)
    (h1 : OwnL ρ σ p ∨ H p = none) (h2 : H1 p = some (.lst vs)) (h3 : F1 p = none) (h4 : DqAll F1 vs xs) (h5 : ¬ Own ρ1 σ1 p) : Stp K ρ σ F H (ρ1.set i (.ol xs)) (σ1.set i (some (.ref p))) F1 H1 where
  rel := by
    have hσ : i < σ1.length := by rw [← S.rel.ln]; exact hi
    have key : ∀ (j : Nat), IsOwn (ρ1.set i (.ol xs)) j → j ≠ i → IsOwn ρ1 j := fun j h n => by
      rcases h with ⟨ys, h⟩ | ⟨ys, h⟩
      · rw [List.getElem?_set_ne (Ne.symm n)] at h
        exact .inl ⟨ys, h⟩
      · rw [List.getElem?_set_ne (Ne.symm n)] at h
        exact .inr ⟨ys, h⟩
    refine ⟨S.rel.sub, fun j e h => ?_, fun j ys h => ?_, fun j ns h => ?_, fun j k q hj hk e1 e2 => ?_, by simpa using S.rel.ln⟩
    · rcases set_get h with ⟨_, z⟩ | ⟨n, h⟩
      · cases z
      · rw [List.getElem?_set_ne (Ne.symm n)]
        exact S.rel.fz j e h
    · by_cases n : j = i
      · subst n
        have e : ys = xs := by
          rcases h with h | h
          · rcases set_get h with ⟨_, z⟩ | ⟨n, h⟩
            · cases z; rfl
            · exact absurd rfl n
          · rcases set_get h with ⟨_, z⟩ | ⟨n, h⟩
            · cases z
            · exact absurd rfl n
        subst e
        exact ⟨p, vs, List.getElem?_set_self hσ, h2, h3, h4⟩
      · rw [List.getElem?_set_ne (Ne.symm n)] at h ⊢
        exact S.rel.ls j ys h
    · rcases set_get h with ⟨_, z⟩ | ⟨n, h⟩
      · cases z
      · rw [List.getElem?_set_ne (Ne.symm n)]
        exact S.rel.sc j ns h
    · by_cases n1 : j = i
      · by_cases n2 : k = i
        · rw [n1, n2]
        · rw [n1, List.getElem?_set_self hσ] at e1
          cases e1
          rw [List.getElem?_set_ne (Ne.symm n2)] at e2
          exact absurd (own_at (key k hk n2) e2) h5
      · rw [List.getElem?_set_ne (Ne.symm n1)] at e1
        by_cases n2 : k = i
        · rw [n2, List.getElem?_set_self hσ] at e2
          cases e2
          exact absurd (own_at (key j hj n1) e1) h5
        · rw [List.getElem?_set_ne (Ne.symm n2)] at e2
          exact S.rel.sep j k q (key j hj n1) (key k hk n2) e1 e2
  ff := S.ff
  fr := S.fr
  oo := fun q h => by
    obtain ⟨j, ys, e1, e2⟩ := h
    by_cases n : j = i
    · have hσ : i < σ1.length := by rw [← S.rel.ln]; exact hi
      rw [n, List.getElem?_set_self hσ] at e2
      cases e2
      exact h1
    · rw [List.getElem?_set_ne (Ne.symm n)] at e1 e2
      exact S.oo q ⟨j, ys, e1, e2⟩
  bk := fun j ys h => by
    obtain ⟨⟨zs, e1⟩, e2⟩ := S.bk j ys h
    have n : j ≠ i := fun z => nb zs (by rw [← z]; exact e1)
    rw [List.getElem?_set_ne (Ne.symm n), List.getElem?_set_ne (Ne.symm n)]
    exact ⟨⟨zs, e1⟩, e2⟩
  kb := fun j ys h => by
    rcases set_get h with ⟨_, z⟩ | ⟨n, h⟩
    · cases z
    · exact S.kb j ys h
  nw := S.nw
  ln := by rw [List.length_set]; exact S.ln
  dm := S.dm
/-- slot i gives its list away -/
theorem give {p : Addr} {vs : List V} {xs : List PyData} (S : Stp K ρ σ F H ρ1 σ1 F1 H1) (hx : ρ1[i]? = some (.ol xs)) (hp : σ1[i]? = some (some (.ref p))) :
    Stp K ρ σ F H (ρ1.set i .no) σ1 F1 H1 ∧ ¬ Own (ρ1.set i .no) σ1 p := by
  have key : ∀ {e : En} {j : Nat}, e ≠ .no → (ρ1.set i .no)[j]? = some e → j ≠ i ∧ ρ1[j]? = some e := fun {e j} ne h => by
    rcases set_get h with ⟨_, z⟩ | h
    · exact absurd z ne
    · exact h
  have key2 : ∀ {j : Nat}, IsOwn (ρ1.set i .no) j → j ≠ i ∧ IsOwn ρ1 j := fun {j} h => isOwn_set (fun xs => ⟨(fun z => by cases z), (fun z => by cases z)⟩) h
  refine ⟨⟨⟨S.rel.sub, fun j d h => S.rel.fz j d (key (by intro z; cases z) h).2, fun j ys h => ?_, fun j ns h => S.rel.sc j ns (key (by intro z; cases z) h).2, fun j k q hj hk => S.rel.sep j k q (key2 hj).2 (key2 hk).2, by rw [List.length_set]; exact S.rel.ln⟩,
    S.ff, S.fr, fun q h => ?_, fun j ys h => ?_, fun j ys h => S.kb j ys (key (by intro z; cases z) h).2, S.nw, by rw [List.length_set]; exact S.ln, S.dm⟩, fun h => ?_⟩
  · rcases h with h | h
    · exact S.rel.ls j ys (.inl (key (by intro z; cases z) h).2)
    · exact S.rel.ls j ys (.inr (key (by intro z; cases z) h).2)
  · obtain ⟨j, ys, h1, h2⟩ := h
    exact S.oo q ⟨j, ys, (key (by intro z; cases z) h1).2, h2⟩
  · obtain ⟨⟨zs, e1⟩, e2⟩ := S.bk j ys h
    have n : j ≠ i := fun z => by rw [z, hx] at e1; cases e1
    rw [List.getElem?_set_ne (Ne.symm n)]
    exact ⟨⟨zs, e1⟩, e2⟩
  · obtain ⟨j, h1, h2⟩ := own_ex h
    obtain ⟨n, h1⟩ := key2 h1
    exact n (S.rel.sep j i p h1 (.inl ⟨xs, hx⟩) h2 hp)
end

/-! ### what is new -/
def NOk (H F' H' : Hp) : Rv → V → Prop
  | .fz d, v => Dq F' v d
  | .ol xs, v => ∃ p vs, v = .ref p ∧ H p = none ∧ H' p = some (.lst vs) ∧ F' p = none ∧ DqAll F' vs xs
theorem NOk.rok {K : PySem.W.Frag} {ρ : Ev} {σ : St} {F H F' H' : Hp} (R : Rel K ρ σ F H) {r : Rv} {v : V} (h : NOk H F' H' r v) : ROk ρ σ H ρ σ F' H' r v := by
  cases r with
  | fz d => exact h
  | ol xs =>
    obtain ⟨p, vs, h1, h2, h3, h4, h5⟩ := h
    refine ⟨p, vs, h1, .inr h2, h3, h4, h5, fun z => ?_⟩
    obtain ⟨⟨ws, e⟩, _⟩ := R.own z
    rw [h2] at e
    cases e
theorem ROk.before {K : PySem.W.Frag} {ρ ρ1 ρ2 : Ev} {σ σ1 σ2 : St} {F H F1 H1 F2 H2 : Hp} (S : Stp K ρ σ F H ρ1 σ1 F1 H1) {r : Rv} {v : V} (h : ROk ρ1 σ1 H1 ρ2 σ2 F2 H2 r v) : ROk ρ σ H ρ2 σ2 F2 H2 r v := by
  cases r with
  | fz d => exact h
  | ol xs =>
    obtain ⟨p, vs, h1, h2, h3⟩ := h
    refine ⟨p, vs, h1, ?_, h3⟩
    rcases h2 with h2 | h2
    · exact S.oo p h2
    · exact .inr (S.dm p h2)

section
variable {X : Cx} {E : XK} {pos : Pos} {a b : Expr}
/-! ### names, constants -/
def dName (i : Nat) : Dn PyData := fun ρ => match ρ[i]? with
  | some (.fz d) => .ok (d, ρ)
  | some (.ol xs) => .ok (.list xs, ρ.set i (.fz (.list xs)))
  | _ => .st
theorem g_name (i : Nat) {x : Str} (hN : X.N[i]? = some x := by rfl) (hv : Vis X.env.scope x := by first | exact Or.inl rfl | exact Or.inr (Or.inl rfl) | exact Or.inr (Or.inr rfl)) (hd : (x == ("__debug__" : Str)) = false := by decide)
    (hcd : (x == ("__classdict__" : Str)) = false := by decide) : PE X (.Name x pos) (tD X.K X.mg E (dName i)) :=
  pe_wk (pe_var hN hv hd hcd) fun σ H Q ⟨ρ, F, R, q⟩ => by
    unfold dName at q
    cases e : ρ[i]? with
    | none => rw [e] at q; exact q.elim
    | some en =>
      rw [e] at q
      cases en with
      | fz d =>
        obtain ⟨v, h1, h2⟩ := R.fz i d e
        exact ⟨v, h1, q v F H (Stp.refl R) h2⟩
      | ol xs =>
        obtain ⟨p, vs, h1, h2, h3, h4⟩ := R.ls i xs (.inl e)
        obtain ⟨S, n⟩ := give (vs := vs) (Stp.refl R) e h1
        have S2 := freeze S (.inl ⟨i, xs, e, h1⟩) h2 h3 n
        have hi : i < ρ.length := (List.getElem?_eq_some_iff.mp e).1
        have dq : Dq (upd F p (.lst vs)) (.ref p) (.list xs) := .lst upd_same (dps_mono (same_new h3) xs vs h4)
        have S3 := store_fz (v := .ref p) S2 (i := i) (fun ys z => by rw [List.getElem?_set_self hi] at z; cases z) (by rw [List.length_set]; exact hi) dq
        have e2 : σ.set i (some (.ref p)) = σ := by
          apply List.ext_getElem?
          intro j
          by_cases hj : j = i
          · subst hj
            rw [List.getElem?_set_self (by rw [← R.ln]; exact hi), h1]
          · rw [List.getElem?_set_ne (Ne.symm hj)]
        rw [e2, List.set_set] at S3
        exact ⟨.ref p, h1, q _ _ _ S3 dq⟩
      | no => exact q.elim
      | bl _ => exact q.elim
      | sc _ => exact q.elim
/-- the name's list is handed on with all rights -/
def dMove (i : Nat) : Dn Rv := fun ρ => match ρ[i]? with
  | some (.fz d) => .ok (.fz d, ρ)
  | some (.ol xs) => .ok (.ol xs, ρ.set i .no)
  | _ => .st
theorem g_move (i : Nat) {x : Str} (hN : X.N[i]? = some x := by rfl) (hv : Vis X.env.scope x := by first | exact Or.inl rfl | exact Or.inr (Or.inl rfl) | exact Or.inr (Or.inr rfl)) (hd : (x == ("__debug__" : Str)) = false := by decide)
    (hcd : (x == ("__classdict__" : Str)) = false := by decide) : PE X (.Name x pos) (tE X.K X.mg E (dMove i)) :=
  pe_wk (pe_var hN hv hd hcd) fun σ H Q ⟨ρ, F, R, q⟩ => by
    unfold dMove at q
    cases e : ρ[i]? with
    | none => rw [e] at q; exact q.elim
    | some en =>
      rw [e] at q
      cases en with
      | fz d =>
        obtain ⟨v, h1, h2⟩ := R.fz i d e
        exact ⟨v, h1, q v F H (Stp.refl R) h2⟩
      | ol xs =>
        obtain ⟨p, vs, h1, h2, h3, h4⟩ := R.ls i xs (.inl e)
        obtain ⟨S, n⟩ := give (vs := vs) (Stp.refl R) e h1
        exact ⟨.ref p, h1, q _ _ _ S ⟨p, vs, rfl, .inl ⟨i, xs, e, h1⟩, h2, h3, h4, n⟩⟩
      | no => exact q.elim
      | bl _ => exact q.elim
      | sc _ => exact q.elim
def dC (d : PyData) : Dn PyData := ret d
theorem g_const {e : Expr} {v : V} {d : PyData} (h : PE X e (tC v)) (hd : ∀ F, Dq F v d) : PE X e (tD X.K X.mg E (dC d)) :=
  pe_wk h fun σ H Q ⟨ρ, F, R, q⟩ => (out_ret q) v F H (Stp.refl R) (hd F)
theorem g_int {i j} : PE X (.Constant (.int i) j pos) (tD X.K X.mg E (dC (.int i))) := g_const pe_int fun _ => .int i
theorem g_bl {b j} : PE X (.Constant (.bool b) j pos) (tD X.K X.mg E (dC (.bool b))) := g_const pe_bl fun _ => .bl b
theorem g_non {j} : PE X (.Constant .none j pos) (tD X.K X.mg E (dC .none)) := g_const pe_non fun _ => .non
theorem g_str {x j} : PE X (.Constant (.str x) j pos) (tD X.K X.mg E (dC (.str x))) := g_const pe_str fun _ => .str x

/-! ### operators -/
def OpD (X : Cx) (f : Value → Value → Sem Value) (g : PyData → PyData → Option Rv) : Prop :=
  OpR X f fun x y H Q => ∃ F d e r, Same F H ∧ Dq F x d ∧ Dq F y e ∧ g d e = some r ∧ ∀ v F' H', Grow F H F' H' → NOk H F' H' r v → Q v H'
def dBin (g : PyData → PyData → Option Rv) (fa fb : Dn PyData) : Dn Rv := bnd fa fun x => bnd fb fun y => lft (g x y)
theorem bin_wk {K : PySem.W.Frag} {mg : Str → Option Value} {g : PyData → PyData → Option Rv} {fa fb : Dn PyData} {r : R2} (hr : ∀ x y H Q, (∃ F d e r, Same F H ∧ Dq F x d ∧ Dq F y e ∧ g d e = some r ∧ ∀ v F' H', Grow F H F' H' → NOk H F' H' r v → Q v H') → r x y H Q)
    (σ : St) (H : Hp) (Q : VK) (h : tE K mg E (dBin g fa fb) σ H Q) : tOp r (tD K mg E fa) (tD K mg E fb) σ H Q := by
  obtain ⟨ρ, F, R, q⟩ := h
  refine ⟨ρ, F, R, (out_bnd (K := K) (F := F) q).mono fun x ρ1 k v F1 H1 S1 d1 => ⟨ρ1, F1, S1.rel, (out_bnd (K := K) (F := F1) (k _ _ _ S1)).mono fun y ρ2 k2 u F2 H2 S2 d2 => hr _ _ _ _ ?_⟩⟩
  obtain ⟨r, hr, q2⟩ := out_lft (k2 _ _ _ S2)
  refine ⟨F2, x, y, r, S2.rel.sub, dp_mono S2.ff x v d1, d2, hr, fun w F3 H3 gr nk => ?_⟩
  have S3 := gr.stp S2.rel
  exact q2 w F3 H3 ((S1.trans S2).trans S3) ((nk.rok S2.rel).before (S1.trans S2))
theorem g_bin {op : Operator} {g : PyData → PyData → Option Rv} {fa fb : Dn PyData} (ho : OpD X (binaryOp op) g) (ha : PE X a (tD X.K X.mg E fa)) (hb : PE X b (tD X.K X.mg E fb)) : PE X (.BinOp a op b pos) (tE X.K X.mg E (dBin g fa fb)) :=
  pe_wk (pe_op ho ha hb) (bin_wk fun _ _ _ _ h => h)
theorem g_cmp {op : CmpOp} {g : PyData → PyData → Option Rv} {fa fb : Dn PyData} (ho : OpD X (compareOp op) g) (ha : PE X a (tD X.K X.mg E fa)) (hb : PE X b (tD X.K X.mg E fb)) (hm : behindInMarks op b = false) : PE X (.Compare a [op] [b] pos) (tE X.K X.mg E (dBin g fa fb)) :=
  pe_wk (pe_cmpR ho ha hb hm) (bin_wk fun _ _ _ _ h => h)
def boolOf : PyData → Option Bool
  | .bool b => some b
  | _ => none
/-- a comparison as a test -/
def dCmpT (g : PyData → PyData → Option Rv) (fa fb : Dn PyData) : Dn Bool := bnd (dBin g fa fb) fun r => lft (boolOf r.d)
theorem boolOf_some {d : PyData} {b : Bool} (h : boolOf d = some b) : d = .bool b := by
  cases d <;> simp [boolOf] at h
  rw [h]
theorem rv_bool {r : Rv} {b : Bool} (h : boolOf r.d = some b) : r = .fz (.bool b) := by
  cases r with
  | fz d => rw [boolOf_some (d := d) h]
  | ol xs => cases h
theorem test_wk {K : PySem.W.Frag} {mg : Str → Option Value} {f : Dn Rv} {t : TE} (hw : ∀ σ H Q, tE K mg E f σ H Q → t σ H Q) (σ : St) (H : Hp) (Q : Bool → Hp → Prop) (h : tT K mg E (bnd f fun r => lft (boolOf r.d)) σ H Q) : tTest t σ H Q := by
  obtain ⟨ρ, F, R, q⟩ := h
  refine hw σ H _ ⟨ρ, F, R, (out_bnd (K := K) (F := F) q).mono fun r ρ1 k v F1 H1 S1 ro => ?_⟩
  obtain ⟨c, hc, q2⟩ := out_lft (k _ _ _ S1)
  rw [rv_bool hc] at ro
  cases ro
  exact ⟨c, rfl, q2 _ _ S1⟩
theorem g_cmpT {op : CmpOp} {g : PyData → PyData → Option Rv} {fa fb : Dn PyData} (ho : OpD X (compareOp op) g) (ha : PE X a (tD X.K X.mg E fa)) (hb : PE X b (tD X.K X.mg E fb)) (hm : behindInMarks op b = false) : PT X (.Compare a [op] [b] pos) (tT X.K X.mg E (dCmpT g fa fb)) :=
  pt_wk (pt_cmpR ho ha hb hm) (test_wk (bin_wk fun _ _ _ _ h => h))
/-- a op b op c -/
def dChain (g g' : PyData → PyData → Option Rv) (fa fb fc : Dn PyData) : Dn Rv := bnd fa fun x => bnd fb fun y => bnd (lft (g x y)) fun r => bnd (lft (boolOf r.d)) fun k => if k then bnd fc fun z => lft (g' y z) else ret (.fz (.bool false))
theorem chain_wk {K : PySem.W.Frag} {mg : Str → Option Value} {g g' : PyData → PyData → Option Rv} {fa fb fc : Dn PyData} (hp : ∀ d e r, g d e = some r → ∃ k, r = .fz (.bool k)) (σ : St) (H : Hp) (Q : VK) (h : tE K mg E (dChain g g' fa fb fc) σ H Q) :
    tChain (fun x y H Q => ∃ F d e r, Same F H ∧ Dq F x d ∧ Dq F y e ∧ g d e = some r ∧ ∀ v F' H', Grow F H F' H' → NOk H F' H' r v → Q v H') (fun x y H Q => ∃ F d e r, Same F H ∧ Dq F x d ∧ Dq F y e ∧ g' d e = some r ∧ ∀ v F' H', Grow F H F' H' → NOk H F' H' r v → Q v H')
      (tD K mg E fa) (tD K mg E fb) (tD K mg E fc) σ H Q := by
  obtain ⟨ρ, F, R, q⟩ := h
  refine ⟨ρ, F, R, (out_bnd (K := K) (F := F) q).mono fun x ρ1 k v F1 H1 S1 d1 => ⟨ρ1, F1, S1.rel, (out_bnd (K := K) (F := F1) (k _ _ _ S1)).mono fun y ρ2 k2 u F2 H2 S2 d2 => ?_⟩⟩
  obtain ⟨r, hr, q2⟩ := out_lft (out_bnd (K := K) (F := F2) (k2 _ _ _ S2))
  refine ⟨F2, x, y, r, S2.rel.sub, dp_mono S2.ff x v d1, d2, hr, fun w F3 H3 gr nk => ?_⟩
  have S3 := gr.stp S2.rel
  obtain ⟨c, hc, q3⟩ := out_lft (out_bnd (K := K) (F := F3) (q2 _ _ _ S3))
  rw [rv_bool hc] at nk
  cases nk
  have q4 := q3 _ _ _ (Stp.refl S3.rel)
  have S13 := (S1.trans S2).trans S3
  refine ⟨c, rfl, ?_⟩
  cases c with
  | false =>
    rw [if_neg Bool.false_ne_true]
    rw [if_neg Bool.false_ne_true] at q4
    exact out_ret q4 _ F3 H3 S13 (.bl false)
  | true =>
    rw [if_pos rfl]
    rw [if_pos rfl] at q4
    refine ⟨ρ2, F3, S3.rel, (out_bnd (K := K) (F := F3) q4).mono fun z ρ4 k4 t F4 H4 S4 d4 => ?_⟩
    obtain ⟨r2, hr2, q5⟩ := out_lft (k4 _ _ _ S4)
    refine ⟨F4, y, z, r2, S4.rel.sub, dp_mono S4.ff y u (dp_mono S3.ff y u d2), d4, hr2, fun w' F5 H5 gr5 nk5 => ?_⟩
    have S5 := gr5.stp S4.rel
    exact q5 w' F5 H5 ((S13.trans S4).trans S5) ((nk5.rok S4.rel).before (S13.trans S4))
theorem g_chain {op op' : CmpOp} {c : Expr} {g g' : PyData → PyData → Option Rv} {fa fb fc : Dn PyData} (ho : OpD X (compareOp op) g) (ho' : OpD X (compareOp op') g') (hp : ∀ d e r, g d e = some r → ∃ k, r = .fz (.bool k))
    (ha : PE X a (tD X.K X.mg E fa)) (hb : PE X b (tD X.K X.mg E fb)) (hc : PE X c (tD X.K X.mg E fc)) (hm : lastMarks [op, op'] [b, c] = false := by with_unfolding_all rfl) : PE X (.Compare a [op, op'] [b, c] pos) (tE X.K X.mg E (dChain g g' fa fb fc)) :=
  pe_wk (pe_chain ho ho' ha hb hc hm) (chain_wk hp)
theorem g_chainT {op op' : CmpOp} {c : Expr} {g g' : PyData → PyData → Option Rv} {fa fb fc : Dn PyData} (ho : OpD X (compareOp op) g) (ho' : OpD X (compareOp op') g') (hp : ∀ d e r, g d e = some r → ∃ k, r = .fz (.bool k))
    (ha : PE X a (tD X.K X.mg E fa)) (hb : PE X b (tD X.K X.mg E fb)) (hc : PE X c (tD X.K X.mg E fc)) (hm : lastMarks [op, op'] [b, c] = false := by with_unfolding_all rfl) : PT X (.Compare a [op, op'] [b, c] pos) (tT X.K X.mg E (bnd (dChain g g' fa fb fc) fun r => lft (boolOf r.d))) :=
  pt_wk (pt_chain ho ho' ha hb hc hm) (test_wk (chain_wk hp))
def UnD (X : Cx) (f : Value → Sem Value) (g : PyData → Option PyData) : Prop := UnR X f fun x H Q => ∃ F d r, Same F H ∧ Dq F x d ∧ g d = some r ∧ ∀ v, Dq F v r → Q v H
def dUn (g : PyData → Option PyData) (fa : Dn PyData) : Dn PyData := bnd fa fun x => lft (g x)
theorem g_un {op : UnaryOp} {g : PyData → Option PyData} {fa : Dn PyData} (ho : UnD X (unaryOp op) g) (ha : PE X a (tD X.K X.mg E fa)) : PE X (.UnaryOp op a pos) (tD X.K X.mg E (dUn g fa)) :=
  pe_wk (pe_un ho ha) fun σ H Q ⟨ρ, F, R, q⟩ => ⟨ρ, F, R, (out_bnd (K := X.K) (F := F) q).mono fun x ρ1 k v F1 H1 S1 d1 => by
    obtain ⟨r, hr, q2⟩ := out_lft (k _ _ _ S1)
    exact ⟨F1, x, r, S1.rel.sub, d1, hr, fun w h => q2 w F1 H1 S1 h⟩⟩

/-! ### truth -/
def truth : PyData → Option Bool
  | .none => some false
  | .bool b => some b
  | .int i => some (i != 0)
  | .str x => if x.length ≤ sizeLine then some ((x.length : Int) != 0) else none
  | .list xs => some (!xs.isEmpty)
  | .tuple xs => some (!xs.isEmpty)
  | .dict _ => none
theorem dqs_empty {F : Hp} {vs : List V} {xs : List PyData} (h : DqAll F vs xs) : vs.isEmpty = xs.isEmpty := by cases h <;> rfl
theorem tru_of {K : PySem.W.Frag} {F H : Hp} (s : Same F H) {v : V} {d : PyData} {k : Bool} (h : Dq F v d) (e : truth d = some k) : TruV K v H k := by
  cases h with
  | non => exact (Option.some.inj (show some false = some k from e)).symm
  | bl b => exact (Option.some.inj (show some b = some k from e)).symm
  | int i => exact (Option.some.inj (show some (i != 0) = some k from e)).symm
  | str x =>
    have e : (if x.length ≤ sizeLine then some ((x.length : Int) != 0) else none) = some k := e
    by_cases q : x.length ≤ sizeLine
    · rw [if_pos q] at e
      exact ⟨q, (Option.some.inj e).symm⟩
    · rw [if_neg q] at e
      cases e
  | lst ha hx => exact .inl ⟨_, .of (s _ _ ha), by rw [dqs_empty hx]; exact (Option.some.inj e).symm⟩
  | tup ha hx => exact .inr (.inl ⟨_, .of (s _ _ ha), by rw [dqs_empty hx]; exact (Option.some.inj e).symm⟩)
  | ex0 _ => cases e
  | ex1 _ _ => cases e
def dTru (fa : Dn PyData) : Dn Bool := bnd fa fun x => lft (truth x)
theorem g_tru {fa : Dn PyData} (ha : PE X a (tD X.K X.mg E fa)) (he : ∀ whole, isTrue a X.env whole = (do let v ← whole; standAt a.pos; holding [v] (truthy v)) := by intro _; rfl) : PT X a (tT X.K X.mg E (dTru fa)) :=
  pt_wk (pt_truth ha he) fun σ H Q ⟨ρ, F, R, q⟩ => ⟨ρ, F, R, (out_bnd (K := X.K) (F := F) q).mono fun x ρ1 k v F1 H1 S1 d1 => by
    obtain ⟨c, hc, q2⟩ := out_lft (k _ _ _ S1)
    exact ⟨c, tru_of S1.rel.sub d1 hc, q2 F1 H1 S1⟩⟩
def dNotT (f : Dn Bool) : Dn Bool := bnd f fun b => ret (!b)
theorem g_notT {f : Dn Bool} (ha : PT X a (tT X.K X.mg E f)) : PT X (.UnaryOp .Not a pos) (tT X.K X.mg E (dNotT f)) :=
  pt_wk (pt_not ha) fun σ H Q ⟨ρ, F, R, q⟩ => ⟨ρ, F, R, (out_bnd (K := X.K) (F := F) q).mono fun x ρ1 k F1 H1 S1 => out_ret (k _ _ _ S1) F1 H1 S1⟩
def dNot (fa : Dn PyData) : Dn PyData := bnd fa fun x => bnd (lft (truth x)) fun b => ret (.bool (!b))
theorem g_not {fa : Dn PyData} (ha : PE X a (tD X.K X.mg E fa)) : PE X (.UnaryOp .Not a pos) (tD X.K X.mg E (dNot fa)) :=
  pe_wk (pe_notT ha) fun σ H Q ⟨ρ, F, R, q⟩ => ⟨ρ, F, R, (out_bnd (K := X.K) (F := F) q).mono fun x ρ1 k v F1 H1 S1 d1 => by
    obtain ⟨c, hc, q2⟩ := out_lft (out_bnd (K := X.K) (F := F1) (k _ _ _ S1))
    exact ⟨c, tru_of S1.rel.sub d1 hc, out_ret (q2 _ _ _ (Stp.refl S1.rel)) _ _ _ S1 (.bl _)⟩⟩
def dAndT (f g : Dn Bool) : Dn Bool := bnd f fun b => if b then g else ret false
def dOrT (f g : Dn Bool) : Dn Bool := bnd f fun b => if b then ret true else g
variable {rest : List Expr}
theorem g_and1 {f : Dn Bool} (ha : PT X a (tT X.K X.mg E f)) : PW X (.BoolOp .And [a] pos) (tT X.K X.mg E f) := pw_and1 ha
theorem g_or1 {f : Dn Bool} (ha : PT X a (tT X.K X.mg E f)) : PW X (.BoolOp .Or [a] pos) (tT X.K X.mg E f) := pw_or1 ha
theorem g_andT {f g : Dn Bool} (ha : PT X a (tT X.K X.mg E f)) (hb : PW X (.BoolOp .And (b :: rest) pos) (tT X.K X.mg E g)) : PW X (.BoolOp .And (a :: b :: rest) pos) (tT X.K X.mg E (dAndT f g)) :=
  pw_wk (pw_and ha hb) fun σ H Q ⟨ρ, F, R, q⟩ => ⟨ρ, F, R, (out_bnd (K := X.K) (F := F) q).mono fun x ρ1 k F1 H1 S1 => by
    have q2 := k _ _ _ S1
    cases x with
    | true =>
      rw [if_pos rfl] at q2
      refine iteT ?_
      exact ⟨ρ1, F1, S1.rel, q2.mono fun c ρ2 k2 F2 H2 S2 => k2 F2 H2 (S1.trans S2)⟩
    | false =>
      rw [if_neg Bool.false_ne_true] at q2
      refine iteF ?_
      exact out_ret q2 F1 H1 S1⟩
theorem g_orT {f g : Dn Bool} (ha : PT X a (tT X.K X.mg E f)) (hb : PW X (.BoolOp .Or (b :: rest) pos) (tT X.K X.mg E g)) : PW X (.BoolOp .Or (a :: b :: rest) pos) (tT X.K X.mg E (dOrT f g)) :=
  pw_wk (pw_or ha hb) fun σ H Q ⟨ρ, F, R, q⟩ => ⟨ρ, F, R, (out_bnd (K := X.K) (F := F) q).mono fun x ρ1 k F1 H1 S1 => by
    have q2 := k _ _ _ S1
    cases x with
    | true =>
      rw [if_pos rfl] at q2
      refine iteT ?_
      exact out_ret q2 F1 H1 S1
    | false =>
      rw [if_neg Bool.false_ne_true] at q2
      refine iteF ?_
      exact ⟨ρ1, F1, S1.rel, q2.mono fun c ρ2 k2 F2 H2 S2 => k2 F2 H2 (S1.trans S2)⟩⟩
theorem g_wT {e : Expr} {f : Dn Bool} (h : PW X e (tT X.K X.mg E f)) : PT X e (tT X.K X.mg E f) := h.pt
/-- x and y, x or y as values -/
def dAnd (f g : Dn PyData) : Dn PyData := bnd f fun x => bnd (lft (truth x)) fun b => if b then g else ret x
def dOr (f : Dn Rv) (g : Dn Rv) : Dn Rv := bnd f fun x => bnd (lft (truth x.d)) fun b => if b then ret x else g
theorem g_one {op} {f : Dn PyData} (h : PE X a (tD X.K X.mg E f)) : PE X (.BoolOp op [a] pos) (tD X.K X.mg E f) := pe_one h
theorem g_oneE {op} {f : Dn Rv} (h : PE X a (tE X.K X.mg E f)) : PE X (.BoolOp op [a] pos) (tE X.K X.mg E f) := pe_one h
theorem g_and {f g : Dn PyData} (ha : PE X a (tD X.K X.mg E f)) (hb : PE X (.BoolOp .And (b :: rest) pos) (tD X.K X.mg E g)) : PE X (.BoolOp .And (a :: b :: rest) pos) (tD X.K X.mg E (dAnd f g)) :=
  pe_wk (pe_andT ha hb) fun σ H Q ⟨ρ, F, R, q⟩ => ⟨ρ, F, R, (out_bnd (K := X.K) (F := F) q).mono fun x ρ1 k v F1 H1 S1 d1 => by
    obtain ⟨c, hc, q2⟩ := out_lft (out_bnd (K := X.K) (F := F1) (k _ _ _ S1))
    have q3 := q2 _ _ _ (Stp.refl S1.rel)
    refine ⟨c, tru_of S1.rel.sub d1 hc, ?_⟩
    cases c with
    | true =>
      rw [if_pos rfl] at q3 ⊢
      exact ⟨ρ1, F1, S1.rel, q3.mono fun c ρ2 k2 w F2 H2 S2 d2 => k2 w F2 H2 (S1.trans S2) d2⟩
    | false =>
      rw [if_neg Bool.false_ne_true] at q3 ⊢
      exact out_ret q3 v F1 H1 S1 d1⟩
/-- x or y where x's list stays one's own -/
theorem g_or {f g : Dn Rv} (ha : PE X a (tE X.K X.mg E f)) (hb : PE X (.BoolOp .Or (b :: rest) pos) (tE X.K X.mg E g)) : PE X (.BoolOp .Or (a :: b :: rest) pos) (tE X.K X.mg E (dOr f g)) :=
  pe_wk (pe_orT ha hb) fun σ H Q ⟨ρ, F, R, q⟩ => ⟨ρ, F, R, (out_bnd (K := X.K) (F := F) q).mono fun x ρ1 k v F1 H1 S1 d1 => by
    obtain ⟨c, hc, q2⟩ := out_lft (out_bnd (K := X.K) (F := F1) (k _ _ _ S1))
    have q3 := q2 _ _ _ (Stp.refl S1.rel)
    have ht : TruV X.K v H1 c := by
      cases x with
      | fz d => exact tru_of S1.rel.sub d1 hc
      | ol xs =>
        obtain ⟨p, vs, rfl, _, h2, _, h4, _⟩ := d1
        exact .inl ⟨_, .of h2, by rw [dqs_empty h4]; exact (Option.some.inj hc).symm⟩
    refine ⟨c, ht, ?_⟩
    cases c with
    | true =>
      rw [if_pos rfl] at q3 ⊢
      exact out_ret q3 v F1 H1 S1 d1
    | false =>
      rw [if_neg Bool.false_ne_true] at q3 ⊢
      exact ⟨ρ1, F1, S1.rel, q3.mono fun c ρ2 k2 w F2 H2 S2 d2 => k2 w F2 H2 (S1.trans S2) (d2.before S1)⟩⟩
/-! ### a if c else b -/
def dIf {α : Type} (c : Dn Bool) (f g : Dn α) : Dn α := bnd c fun b => if b then f else g
theorem g_if {c : Expr} {fc : Dn Bool} {f g : Dn PyData} (hc : PT X c (tT X.K X.mg E fc)) (ha : PE X a (tD X.K X.mg E f)) (hb : PE X b (tD X.K X.mg E g)) : PE X (.IfExp c a b pos) (tD X.K X.mg E (dIf fc f g)) :=
  pe_wk (pe_ifExp hc ha hb) fun σ H Q ⟨ρ, F, R, q⟩ => ⟨ρ, F, R, (out_bnd (K := X.K) (F := F) q).mono fun x ρ1 k F1 H1 S1 => by
    have q2 := k _ _ _ S1
    cases x with
    | true =>
      rw [if_pos rfl] at q2
      refine iteT ?_
      exact ⟨ρ1, F1, S1.rel, q2.mono fun c ρ2 k2 w F2 H2 S2 d2 => k2 w F2 H2 (S1.trans S2) d2⟩
    | false =>
      rw [if_neg Bool.false_ne_true] at q2
      refine iteF ?_
      exact ⟨ρ1, F1, S1.rel, q2.mono fun c ρ2 k2 w F2 H2 S2 d2 => k2 w F2 H2 (S1.trans S2) d2⟩⟩
theorem g_ifE {c : Expr} {fc : Dn Bool} {f g : Dn Rv} (hc : PT X c (tT X.K X.mg E fc)) (ha : PE X a (tE X.K X.mg E f)) (hb : PE X b (tE X.K X.mg E g)) : PE X (.IfExp c a b pos) (tE X.K X.mg E (dIf fc f g)) :=
  pe_wk (pe_ifExp hc ha hb) fun σ H Q ⟨ρ, F, R, q⟩ => ⟨ρ, F, R, (out_bnd (K := X.K) (F := F) q).mono fun x ρ1 k F1 H1 S1 => by
    have q2 := k _ _ _ S1
    cases x with
    | true =>
      rw [if_pos rfl] at q2
      refine iteT ?_
      exact ⟨ρ1, F1, S1.rel, q2.mono fun c ρ2 k2 w F2 H2 S2 d2 => k2 w F2 H2 (S1.trans S2) (d2.before S1)⟩
    | false =>
      rw [if_neg Bool.false_ne_true] at q2
      refine iteF ?_
      exact ⟨ρ1, F1, S1.rel, q2.mono fun c ρ2 k2 w F2 H2 S2 d2 => k2 w F2 H2 (S1.trans S2) (d2.before S1)⟩⟩

/-! ### displays -/
def dNil : Dn (List PyData) := ret []
def dCons (f : Dn PyData) (g : Dn (List PyData)) : Dn (List PyData) := bnd f fun d => bnd g fun ds => ret (d :: ds)
theorem gs_nil : PA X [] (tDs X.K X.mg E dNil) := pa_wk pa_nil fun σ H Q ⟨ρ, F, R, q⟩ => out_ret q [] F H (Stp.refl R) .nil
theorem gs_cons {e : Expr} {es : List Expr} {f : Dn PyData} {g : Dn (List PyData)} (h1 : PE X e (tD X.K X.mg E f)) (h2 : PA X es (tDs X.K X.mg E g)) (hs : starEach (e :: es) X.env = (false, eval e X.env) :: starEach es X.env := by rfl) :
    PA X (e :: es) (tDs X.K X.mg E (dCons f g)) :=
  pa_wk (pa_cons h1 h2 hs) fun σ H Q ⟨ρ, F, R, q⟩ => ⟨ρ, F, R, (out_bnd (K := X.K) (F := F) q).mono fun x ρ1 k v F1 H1 S1 d1 =>
    ⟨ρ1, F1, S1.rel, (out_bnd (K := X.K) (F := F1) (k _ _ _ S1)).mono fun ds ρ2 k2 vs F2 H2 S2 d2 => out_ret (k2 _ _ _ S2) _ F2 H2 (S1.trans S2) (.cons (dp_mono S2.ff x v d1) d2)⟩⟩
def okLen (n : Nat) : Bool := decide (n ≤ 16777216)
theorem okLen_le {n : Nat} (h : okLen n = true) : n ≤ sizeLine := by rw [sizeLine_eq]; exact of_decide_eq_true h
def dTup (f : Dn (List PyData)) : Dn PyData := bnd f fun ds => if okLen ds.length then ret (.tuple ds) else lft none
def dLst (f : Dn (List PyData)) : Dn Rv := bnd f fun ds => if okLen ds.length then ret (.ol ds) else lft none
theorem g_tup {es : List Expr} {x1} {f : Dn (List PyData)} (h : PA X es (tDs X.K X.mg E f)) : PE X (.Tuple es x1 pos) (tD X.K X.mg E (dTup f)) :=
  pe_wk (pe_tup h) fun σ H Q ⟨ρ, F, R, q⟩ => ⟨ρ, F, R, (out_bnd (K := X.K) (F := F) q).mono fun ds ρ1 k vs F1 H1 S1 d1 => by
    have q2 := k _ _ _ S1
    by_cases hl : okLen ds.length = true
    · rw [if_pos hl] at q2
      have e := dps_len d1
      refine ⟨by rw [e]; exact okLen_le hl, fun p np => ?_⟩
      have g := Grow.new (o := .tup vs) S1.rel.sub np
      exact out_ret q2 _ _ _ (S1.trans (g.stp S1.rel)) (.tup upd_same (dps_mono g.ff ds vs d1))
    · rw [if_neg hl] at q2
      exact (show False from q2).elim⟩
theorem g_lst {es : List Expr} {f : Dn (List PyData)} (h : PA X es (tDs X.K X.mg E f)) : PE X (.List es pos) (tE X.K X.mg E (dLst f)) :=
  pe_wk (pe_lst h) fun σ H Q ⟨ρ, F, R, q⟩ => ⟨ρ, F, R, (out_bnd (K := X.K) (F := F) q).mono fun ds ρ1 k vs F1 H1 S1 d1 => by
    have q2 := k _ _ _ S1
    by_cases hl : okLen ds.length = true
    · rw [if_pos hl] at q2
      have e := dps_len d1
      refine ⟨by rw [e]; exact okLen_le hl, fun p np => ?_⟩
      have g := Grow.own (o := .lst vs) S1.rel.sub np
      have S2 := g.stp S1.rel
      have nk : NOk H1 F1 (upd H1 p (.lst vs)) (.ol ds) (.ref p) := ⟨p, vs, rfl, np, upd_same, S1.rel.sub.free np, d1⟩
      exact out_ret q2 _ _ _ (S1.trans S2) ((nk.rok S1.rel).before S1)
    · rw [if_neg hl] at q2
      exact (show False from q2).elim⟩

/-! ### built-in functions -/
def CallD (X : Cx) (f : Value) (g : List PyData → Option Rv) : Prop :=
  CallR X f fun xs H Q => ∃ F ds r, Same F H ∧ DqAll F xs ds ∧ g ds = some r ∧ ∀ v F' H', Grow F H F' H' → NOk H F' H' r v → Q v H'
def dCall (g : List PyData → Option Rv) (f : Dn (List PyData)) : Dn Rv := bnd f fun ds => lft (g ds)
theorem call_wk {K : PySem.W.Frag} {mg : Str → Option Value} {g : List PyData → Option Rv} {f : Dn (List PyData)} (σ : St) (H : Hp) (Q : VK) (h : tE K mg E (dCall g f) σ H Q) :
    tCB (fun xs H Q => ∃ F ds r, Same F H ∧ DqAll F xs ds ∧ g ds = some r ∧ ∀ v F' H', Grow F H F' H' → NOk H F' H' r v → Q v H') (tDs K mg E f) σ H Q := by
  obtain ⟨ρ, F, R, q⟩ := h
  refine ⟨ρ, F, R, (out_bnd (K := K) (F := F) q).mono fun ds ρ1 k vs F1 H1 S1 d1 => ?_⟩
  obtain ⟨r, hr, q2⟩ := out_lft (k _ _ _ S1)
  exact ⟨F1, ds, r, S1.rel.sub, d1, hr, fun v F2 H2 gr nk => q2 v F2 H2 (S1.trans (gr.stp S1.rel)) ((nk.rok S1.rel).before S1)⟩
theorem g_callB {x : Str} {p : Pos} {e : Expr} {es : List Expr} {id : String} {g : List PyData → Option Rv} {f : Dn (List PyData)} (hc : CallD X (.builtin id) g) (hg : Gl X x) (hm : X.mg x = none) (hv : bootBuiltins x = some (.builtin id)) (ha : PA X (e :: es) (tDs X.K X.mg E f))
    (hn : x ≠ "__name__" := by decide) (hdb : (x == ("__debug__" : Str)) = false := by decide) (he : starEach (e :: es) X.env = (false, eval e X.env) :: starEach es X.env := by rfl) (hpl : (backTo pos (starEach es X.env)).any (·.1) = false := by rfl) :
    PE X (.Call (.Name x p) (e :: es) [] pos) (tE X.K X.mg E (dCall g f)) := pe_wk (pe_callB hc hg hm hv ha hn hdb he hpl) call_wk
theorem g_callTy {x : Str} {p : Pos} {e : Expr} {es : List Expr} {T : String} {g : List PyData → Option Rv} {f : Dn (List PyData)} (hc : CallD X (.type T) g) (hg : Gl X x) (hm : X.mg x = none) (hv : bootBuiltins x = some (.type T)) (ha : PA X (e :: es) (tDs X.K X.mg E f))
    (hn : x ≠ "__name__" := by decide) (hdb : (x == ("__debug__" : Str)) = false := by decide) (he : starEach (e :: es) X.env = (false, eval e X.env) :: starEach es X.env := by rfl) (hpl : (backTo pos (starEach es X.env)).any (·.1) = false := by rfl) :
    PE X (.Call (.Name x p) (e :: es) [] pos) (tE X.K X.mg E (dCall g f)) := pe_wk (pe_callTy hc hg hm hv ha hn hdb he hpl) call_wk

/-! ### items, slices -/
def IxD (X : Cx) (g : PyData → PyData → Option Rv) : Prop := IxR X fun x y H Q => ∃ F d e r, Same F H ∧ Dq F x d ∧ Dq F y e ∧ g d e = some r ∧ ∀ v F' H', Grow F H F' H' → NOk H F' H' r v → Q v H'
theorem g_ix {g : PyData → PyData → Option Rv} {fa fb : Dn PyData} (ho : IxD X g) (ha : PE X a (tD X.K X.mg E fa)) (hb : PE X b (tD X.K X.mg E fb)) (hs : PlainIx b := by intro _ _; rfl) : PE X (.Subscript a b pos) (tE X.K X.mg E (dBin g fa fb)) :=
  pe_wk (pe_ix ho ha hb hs) (bin_wk fun _ _ _ _ h => h)
def tO (K : PySem.W.Frag) (mg : Str → Option Value) (E : XK) (f : Dn (Option Int)) : TO := fun σ H Q => ∃ ρ F, Rel K ρ σ F H ∧ Out mg E ρ σ H (f ρ) fun o ρ' => ∀ F' H', Stp K ρ σ F H ρ' σ F' H' → Q o H'
def intOf : PyData → Option Int
  | .int i => some i
  | _ => none
def dOn (f : Dn PyData) : Dn (Option Int) := bnd f fun d => bnd (lft (intOf d)) fun i => ret (some i)
def dOff : Dn (Option Int) := ret none
theorem po_wk {e : Option Expr} {t t' : TO} (h : PO X e t) (w : ∀ σ H Q, t' σ H Q → t σ H Q) : PO X e t' := ⟨fun pins s σ H Q I q => h.run pins s σ H Q I (w σ H Q q)⟩
theorem go_none : PO X none (tO X.K X.mg E dOff) := po_wk po_none fun σ H Q ⟨ρ, F, R, q⟩ => out_ret q F H (Stp.refl R)
theorem go_some {e : Expr} {f : Dn PyData} (h : PE X e (tD X.K X.mg E f)) : PO X (some e) (tO X.K X.mg E (dOn f)) :=
  po_wk (po_some h) fun σ H Q ⟨ρ, F, R, q⟩ => ⟨ρ, F, R, (out_bnd (K := X.K) (F := F) q).mono fun x ρ1 k v F1 H1 S1 d1 => by
    obtain ⟨i, hi, q2⟩ := out_lft (out_bnd (K := X.K) (F := F1) (k _ _ _ S1))
    have e : x = .int i := by
      cases x <;> simp [intOf] at hi
      rw [hi]
    subst e
    cases d1
    exact ⟨i, rfl, out_ret (q2 _ _ _ (Stp.refl S1.rel)) F1 H1 S1⟩⟩
def cutD (xs : List PyData) (lo hi : Option Int) : List PyData := (xs.drop (HT.sIx xs.length 0 lo)).take (HT.sIx xs.length xs.length hi - HT.sIx xs.length 0 lo)
theorem dqs_cut {F : Hp} {vs : List V} {xs : List PyData} (h : DqAll F vs xs) (lo hi : Option Int) : DqAll F (cutV vs lo hi) (cutD xs lo hi) := by
  unfold cutV cutD
  rw [dps_len h]
  exact dps_take _ (dps_drop _ h)
def sliceD (x : PyData) (lo hi : Option Int) : Option Rv := match x with
  | .list xs => some (.ol (cutD xs lo hi))
  | .tuple xs => some (.fz (.tuple (cutD xs lo hi)))
  | _ => none
def rSlD (x : V) (lo hi : Option Int) (H : Hp) (Q : VK) : Prop := ∃ F d r, Same F H ∧ Dq F x d ∧ sliceD d lo hi = some r ∧ ∀ v F' H', Grow F H F' H' → NOk H F' H' r v → Q v H'
theorem slR_wk {r r' : V → Option Int → Option Int → Hp → VK → Prop} (h : SlR X r) (w : ∀ x lo hi H Q, r' x lo hi H Q → r x lo hi H Q) : SlR X r' := by
  intro pins s σ H x v vl vu lo hi sl Q I rx hs pl pu q
  exact h pins s σ H x v vl vu lo hi sl Q I rx hs pl pu (w _ _ _ _ _ q)
theorem sl_D : SlR X rSlD := slR_wk (sl_list.or sl_tupA) fun x lo hi H Q h => by
  obtain ⟨F, d, r, s, dq, hr, q⟩ := h
  cases dq with
  | @lst a vs xs ha hx =>
    cases hr
    refine .inl ⟨a, vs, rfl, .of (s _ _ ha), fun p np => q _ _ _ (Grow.own s np) ⟨p, _, rfl, np, upd_same, s.free np, dqs_cut hx lo hi⟩⟩
  | @tup a vs xs ha hx =>
    cases hr
    refine .inr ⟨a, vs, rfl, .of (s _ _ ha), fun hw => q _ _ _ (Grow.refl s) ?_, fun _ p np => q _ _ _ (Grow.new s np) (.tup upd_same (dps_mono (same_new (s.free np)) _ _ (dqs_cut hx lo hi)))⟩
    refine (.tup ha ?_ : Dq F (.ref a) (.tuple (cutD xs lo hi)))
    have e : cutD xs lo hi = xs := by
      unfold cutD
      rw [← dps_len hx, hw.1, hw.2, List.drop_zero, dps_len hx, Nat.sub_zero, List.take_length]
    rw [e]
    exact hx
  | _ => cases hr
def dSl (f : Dn PyData) (lo hi : Dn (Option Int)) : Dn Rv := bnd f fun x => bnd lo fun l => bnd hi fun h => lft (sliceD x l h)
theorem g_slice {e : Expr} {lo hi : Option Expr} {p2 : Pos} {f : Dn PyData} {fl fh : Dn (Option Int)} (he : PE X e (tD X.K X.mg E f)) (hl : PO X lo (tO X.K X.mg E fl)) (hu : PO X hi (tO X.K X.mg E fh)) :
    PE X (.Subscript e (.Slice lo hi none p2) pos) (tE X.K X.mg E (dSl f fl fh)) :=
  pe_wk (pe_slice sl_D he hl hu) fun σ H Q ⟨ρ, F, R, q⟩ => ⟨ρ, F, R, (out_bnd (K := X.K) (F := F) q).mono fun x ρ1 k v F1 H1 S1 d1 =>
    ⟨ρ1, F1, S1.rel, (out_bnd (K := X.K) (F := F1) (k _ _ _ S1)).mono fun l ρ2 k2 F2 H2 S2 =>
      ⟨ρ2, F2, S2.rel, (out_bnd (K := X.K) (F := F2) (k2 _ _ _ S2)).mono fun h ρ3 k3 F3 H3 S3 => by
        obtain ⟨r, hr, q4⟩ := out_lft (k3 _ _ _ S3)
        have S13 := (S1.trans S2).trans S3
        exact ⟨F3, x, r, S3.rel.sub, dp_mono S3.ff x v (dp_mono S2.ff x v d1), hr, fun w F4 H4 gr nk => q4 w F4 H4 (S13.trans (gr.stp S3.rel)) ((nk.rok S3.rel).before S13)⟩⟩⟩⟩
end
end Gx

/-! G4: statements, defs, calls. -/
namespace Gx
open PySem PySem.Spec L2
open PyProof.Rows hiding St

section
variable {X : Cx} {E : XK} {pos : Pos} {a b : Expr} {st : Stmt} {rest : List Stmt}
/-! ### blocks -/
def sNx : Dn Fl := ret .nx
def sSeq (f g : Dn Fl) : Dn Fl := bnd f fun fl => match fl with
  | .nx => g
  | fl => ret fl
theorem gss_nil : PSs X [] (tS X.K X.mg E sNx) := pss_wk pss_nil fun D σ H ⟨ρ, F, R, q⟩ => out_ret q σ F H (Stp.refl R)
theorem seq_wk {K : PySem.W.Frag} {mg : Str → Option Value} {f g : Dn Fl} (D : Ends) (σ : St) (H : Hp) (h : tS K mg E (sSeq f g) D σ H) : tSeq (tS K mg E f) (tS K mg E g) D σ H := by
  obtain ⟨ρ, F, R, q⟩ := h
  refine ⟨ρ, F, R, (out_bnd (K := K) (F := F) q).mono fun fl ρ1 k => ?_⟩
  cases fl with
  | nx =>
    intro σ1 F1 H1 S1
    refine ⟨ρ1, F1, S1.rel, (k σ1 F1 H1 S1).mono fun fl2 ρ2 k2 => ?_⟩
    cases fl2 with
    | nx => exact fun σ' F' H' S' => k2 σ' F' H' (S1.trans S')
    | bk => exact fun σ' F' H' S' => k2 σ' F' H' (S1.trans S')
    | ct => exact fun σ' F' H' S' => k2 σ' F' H' (S1.trans S')
    | rt r => exact fun σ' v F' H' S' ro => k2 σ' v F' H' (S1.trans S') (ro.before S1)
  | bk => exact fun σ' F' H' S' => out_ret (k σ' F' H' S') σ' F' H' S'
  | ct => exact fun σ' F' H' S' => out_ret (k σ' F' H' S') σ' F' H' S'
  | rt r => exact fun σ' v F' H' S' ro => out_ret (k σ' F' H' S') σ' v F' H' S' ro
theorem gss_cons {f g : Dn Fl} (h1 : PS X st (tS X.K X.mg E f)) (h2 : PSs X rest (tS X.K X.mg E g)) : PSs X (st :: rest) (tS X.K X.mg E (sSeq f g)) := pss_wk (pss_cons h1 h2) seq_wk
theorem gss_one {f : Dn Fl} (h1 : PS X st (tS X.K X.mg E f)) : PSs X [st] (tS X.K X.mg E f) := pss_one h1
theorem gs_pass : PS X (.Pass pos) (tS X.K X.mg E sNx) := ps_wk ps_pass fun D σ H ⟨ρ, F, R, q⟩ => out_ret q σ F H (Stp.refl R)
theorem gs_break : PS X (.Break pos) (tS X.K X.mg E (ret .bk)) := ps_wk ps_break fun D σ H ⟨ρ, F, R, q⟩ => out_ret q σ F H (Stp.refl R)
theorem gs_continue : PS X (.Continue pos) (tS X.K X.mg E (ret .ct)) := ps_wk ps_continue fun D σ H ⟨ρ, F, R, q⟩ => out_ret q σ F H (Stp.refl R)
def sRet (f : Dn Rv) : Dn Fl := bnd f fun r => ret (.rt r)
theorem gs_ret {e : Expr} {f : Dn Rv} (h : PE X e (tE X.K X.mg E f)) : PS X (.Return (some e) pos) (tS X.K X.mg E (sRet f)) :=
  ps_wk (ps_ret h) fun D σ H ⟨ρ, F, R, q⟩ => ⟨ρ, F, R, (out_bnd (K := X.K) (F := F) q).mono fun r ρ1 k v F1 H1 S1 ro => out_ret (k _ _ _ S1) σ v F1 H1 S1 ro⟩
theorem gs_retN : PS X (.Return none pos) (tS X.K X.mg E (ret (.rt (.fz .none)))) :=
  ps_wk ps_retN fun D σ H ⟨ρ, F, R, q⟩ => out_ret q σ .non F H (Stp.refl R) .non
def sIf (c : Dn Bool) (f g : Dn Fl) : Dn Fl := bnd c fun b => if b then f else g
theorem gs_if {c : Expr} {p q : List Stmt} {fc : Dn Bool} {f g : Dn Fl} (hc : PT X c (tT X.K X.mg E fc)) (ha : PSs X p (tS X.K X.mg E f)) (hb : PSs X q (tS X.K X.mg E g)) : PS X (.If c p q pos) (tS X.K X.mg E (sIf fc f g)) :=
  ps_wk (ps_if hc ha hb) fun D σ H ⟨ρ, F, R, q⟩ => ⟨ρ, F, R, (out_bnd (K := X.K) (F := F) q).mono fun x ρ1 k F1 H1 S1 => by
    have q2 := k _ _ _ S1
    cases x with
    | true =>
      rw [if_pos rfl] at q2
      refine iteT ⟨ρ1, F1, S1.rel, q2.mono fun fl ρ2 k2 => ?_⟩
      cases fl with
      | nx => exact fun σ' F' H' S' => k2 σ' F' H' (S1.trans S')
      | bk => exact fun σ' F' H' S' => k2 σ' F' H' (S1.trans S')
      | ct => exact fun σ' F' H' S' => k2 σ' F' H' (S1.trans S')
      | rt r => exact fun σ' v F' H' S' ro => k2 σ' v F' H' (S1.trans S') (ro.before S1)
    | false =>
      rw [if_neg Bool.false_ne_true] at q2
      refine iteF ⟨ρ1, F1, S1.rel, q2.mono fun fl ρ2 k2 => ?_⟩
      cases fl with
      | nx => exact fun σ' F' H' S' => k2 σ' F' H' (S1.trans S')
      | bk => exact fun σ' F' H' S' => k2 σ' F' H' (S1.trans S')
      | ct => exact fun σ' F' H' S' => k2 σ' F' H' (S1.trans S')
      | rt r => exact fun σ' v F' H' S' ro => k2 σ' v F' H' (S1.trans S') (ro.before S1)⟩
def sDrop (f : Dn PyData) : Dn Fl := bnd f fun _ => ret .nx
theorem gs_expr {e : Expr} {f : Dn PyData} (he : PE X e (tD X.K X.mg E f)) (hs : swapsWith e none pos.line X.env = pure false := by rfl) : PS X (.Expr e pos) (tS X.K X.mg E (sDrop f)) :=
  ps_wk (ps_expr he hs) fun D σ H ⟨ρ, F, R, q⟩ => ⟨ρ, F, R, (out_bnd (K := X.K) (F := F) q).mono fun r ρ1 k v F1 H1 S1 ro => out_ret (k _ _ _ S1) σ F1 H1 S1⟩

/-! ### stores -/
def isBl : Option En → Bool
  | some (.bl _) => true
  | none => true
  | _ => false
theorem isBl_f {ρ : Ev} {i : Nat} (h : isBl ρ[i]? = false) : (∀ xs, ρ[i]? ≠ some (.bl xs)) ∧ i < ρ.length := by
  cases e : ρ[i]? with
  | none => rw [e] at h; cases h
  | some en =>
    refine ⟨fun xs z => ?_, (List.getElem?_eq_some_iff.mp e).1⟩
    rw [e] at h
    cases z
    cases h
def put (i : Nat) (r : Rv) : Dn Fl := fun ρ => if isBl ρ[i]? then .st else .ok (.nx, ρ.set i r.en)
theorem put_stp {K : PySem.W.Frag} {mg : Str → Option Value} {ρ ρ1 : Ev} {σ σ1 : St} {F H F1 H1 : Hp} {i : Nat} {r : Rv} {v : V} {P : Fl → Ev → Prop} (S : Stp K ρ σ F H ρ1 σ1 F1 H1) (ro : ROk ρ σ H ρ1 σ1 F1 H1 r v) (h : Out mg E ρ1 σ1 H1 (put i r ρ1) P) :
    P .nx (ρ1.set i r.en) ∧ Stp K ρ σ F H (ρ1.set i r.en) (σ1.set i (some v)) F1 H1 := by
  unfold put at h
  cases q : isBl ρ1[i]? with
  | true => rw [q] at h; exact (show False from h).elim
  | false =>
    rw [q] at h
    refine ⟨h, ?_⟩
    obtain ⟨nb, hi⟩ := isBl_f q
    cases r with
    | fz d => exact store_fz S nb hi ro
    | ol xs =>
      obtain ⟨p, vs, rfl, h1, h2, h3, h4, h5⟩ := ro
      exact store_ol S nb hi h1 h2 h3 h4 h5
def sSet (i : Nat) (f : Dn Rv) : Dn Fl := bnd f fun r => put i r
theorem set_wk {K : PySem.W.Frag} {mg : Str → Option Value} {i : Nat} {f : Dn Rv} (D : Ends) (σ : St) (H : Hp) (h : tS K mg E (sSet i f) D σ H) : tAsg (tE K mg E f) (gName i) D σ H := by
  obtain ⟨ρ, F, R, q⟩ := h
  refine ⟨ρ, F, R, (out_bnd (K := K) (F := F) q).mono fun r ρ1 k v F1 H1 S1 ro => ?_⟩
  obtain ⟨q2, S2⟩ := put_stp S1 ro (k _ _ _ S1)
  exact q2 _ F1 H1 S2
theorem gs_set (i : Nat) {x : Str} {e : Expr} {pos' : Pos} {f : Dn Rv} (hN : X.N.Nodup) (he : PE X e (tE X.K X.mg E f)) (hi : X.N[i]? = some x := by rfl) (hx : Loc X.env.scope x := by first | exact Or.inl rfl | exact Or.inr rfl) (hs : swapsWith e (some (.Name x pos')) pos.line X.env = pure false := by rfl)
    (hf : X.fn x = true ∨ X.env.scope.names.lookup x = some .local := by first | exact .inl rfl | exact .inr rfl | assumption) : PS X (.Assign [.Name x pos'] e pos) (tS X.K X.mg E (sSet i f)) :=
  ps_wk (ps_set hN hi hx he hs hf) set_wk

/-! ### targets -/
/-- what a target does to the slots ts -/
def tGd (K : PySem.W.Frag) (ts : List Nat) (h : PyData → Ev → Option Ev) : TG := fun v σ H Q => ∃ d ρ F ρ' , Rel K ρ σ F H ∧ Dq F v d ∧ h d ρ = some ρ' ∧ ∀ σ', Stp K ρ σ F H ρ' σ' F H → (∀ j, j ∉ ts → σ'[j]? = σ[j]?) → Q σ' H
def hName (i : Nat) (d : PyData) (ρ : Ev) : Option Ev := if isBl ρ[i]? then none else some (ρ.set i (.fz d))
theorem pg_wk {X : Cx} {tg : Expr} {t t' : TG} (h : PG X tg t) (w : ∀ v σ H Q, t' v σ H Q → t v σ H Q) : PG X tg t' := ⟨fun pins s σ H v u Q I r q => h.run pins s σ H v u Q I r (w v σ H Q q)⟩
theorem hName_stp {K : PySem.W.Frag} {ρ ρ' : Ev} {σ : St} {F H : Hp} {i : Nat} {v : V} {d : PyData} (R : Rel K ρ σ F H) (dq : Dq F v d) (e : hName i d ρ = some ρ') : Stp K ρ σ F H ρ' (σ.set i (some v)) F H := by
  unfold hName at e
  cases q : isBl ρ[i]? with
  | true => rw [q] at e; cases e
  | false =>
    rw [q] at e
    cases e
    obtain ⟨nb, hi⟩ := isBl_f q
    exact store_fz (Stp.refl R) nb hi dq
theorem gg_name (i : Nat) {x : Str} (hN : X.N.Nodup) (hi : X.N[i]? = some x := by rfl) (hx : Loc X.env.scope x := by first | exact Or.inl rfl | exact Or.inr rfl) (hf : X.fn x = true ∨ X.env.scope.names.lookup x = some .local := by first | exact .inl rfl | exact .inr rfl | assumption) :
    PG X (.Name x pos) (tGd X.K [i] (hName i)) :=
  pg_wk (pg_name hN hi hx hf) fun v σ H Q ⟨d, ρ, F, ρ', R, dq, e, q⟩ => q _ (hName_stp R dq e) fun j hj => by
    rw [List.getElem?_set_ne]
    intro z
    exact hj (by rw [z]; simp)
/-- targets in a row -/
def tGds (K : PySem.W.Frag) (ts : List Nat) (h : List PyData → Ev → Option Ev) : TGs := fun vs σ H Q => ∃ ds ρ F ρ', Rel K ρ σ F H ∧ DqAll F vs ds ∧ h ds ρ = some ρ' ∧ ∀ σ', Stp K ρ σ F H ρ' σ' F H → (∀ j, j ∉ ts → σ'[j]? = σ[j]?) → Q σ' H
theorem pgs_wk {X : Cx} {tg : List Expr} {t t' : TGs} (h : PGs X tg t) (w : ∀ v σ H Q, t' v σ H Q → t v σ H Q) : PGs X tg t' := ⟨fun pins s σ H v u Q I r q => h.run pins s σ H v u Q I r (w v σ H Q q)⟩
def hNil (ds : List PyData) (ρ : Ev) : Option Ev := match ds with
  | [] => some ρ
  | _ => none
def hCons (h : PyData → Ev → Option Ev) (g : List PyData → Ev → Option Ev) (ds : List PyData) (ρ : Ev) : Option Ev := match ds with
  | [] => none
  | d :: ds => (h d ρ).bind (g ds)
theorem ggs_nil : PGs X [] (tGds X.K [] hNil) := pgs_wk pgs_nil fun vs σ H Q ⟨ds, ρ, F, ρ', R, dq, e, q⟩ => by
  cases dq with
  | nil =>
    cases e
    exact ⟨rfl, q σ (Stp.refl R) fun _ _ => rfl⟩
  | cons _ _ => cases e
theorem ggs_cons {e : Expr} {es : List Expr} {ts us : List Nat} {h : PyData → Ev → Option Ev} {g : List PyData → Ev → Option Ev} (h1 : PG X e (tGd X.K ts h)) (h2 : PGs X es (tGds X.K us g)) (hs : (assignEach (e :: es) X.env).map (·.2) = assign e X.env :: (assignEach es X.env).map (·.2) := by rfl) :
    PGs X (e :: es) (tGds X.K (ts ++ us) (hCons h g)) := pgs_wk (pgs_cons h1 h2 hs) fun vs σ H Q ⟨ds, ρ, F, ρ', R, dq, e, q⟩ => by
  cases dq with
  | nil => cases e
  | @cons v vs d ds d1 d2 =>
    have e' : (h d ρ).bind (g ds) = some ρ' := e
    obtain ⟨ρ1, e1, e2⟩ := Option.bind_eq_some_iff.mp e'
    exact ⟨v, vs, rfl, d, ρ, F, ρ1, R, d1, e1, fun σ1 S1 k1 => ⟨ds, ρ1, F, ρ', S1.rel, d2, e2, fun σ2 S2 k2 => q σ2 (S1.trans S2) fun j hj => by
      rw [List.mem_append, not_or] at hj
      exact (k2 j hj.2).trans (k1 j hj.1)⟩⟩
def hTup (n : Nat) (g : List PyData → Ev → Option Ev) (d : PyData) (ρ : Ev) : Option Ev := match d with
  | .tuple ds => if ds.length = n then g ds ρ else none
  | _ => none
theorem gg_tup {es : List Expr} {k n : Nat} {ts : List Nat} {g : List PyData → Ev → Option Ev} (hc : X.calm = true) (h : PGs X es (tGds X.K ts g)) (hn : (assignEach es X.env).length = n := by rfl) (hst : (assignEach es X.env).findIdx? (·.1) = none := by rfl) :
    PG X (.Tuple es k pos) (tGd X.K ts (hTup n g)) := pg_wk (pg_tup hc h hn hst) fun v σ H Q ⟨d, ρ, F, ρ', R, dq, e, q⟩ => by
  cases dq with
  | @tup a vs ds ha hx =>
    have e' : (if ds.length = n then g ds ρ else none) = some ρ' := e
    by_cases hl : ds.length = n
    · rw [if_pos hl] at e'
      exact ⟨a, vs, rfl, .of (R.sub _ _ ha), by rw [dps_len hx]; exact hl, ds, ρ, F, ρ', R, hx, e', q⟩
    · rw [if_neg hl] at e'
      cases e'
  | _ => cases e
def sAsg (f : Dn PyData) (h : PyData → Ev → Option Ev) : Dn Fl := bnd f fun d => fun ρ => match h d ρ with
  | none => .st
  | some ρ' => .ok (.nx, ρ')
theorem gs_asg {tg e : Expr} {f : Dn PyData} {ts : List Nat} {h : PyData → Ev → Option Ev} (he : PE X e (tD X.K X.mg E f)) (hg : PG X tg (tGd X.K ts h)) (hs : swapsWithSole [tg] e pos.line X.env = pure false := by rfl) (hw : swappedStores [tg] e X.env = pure none := by rfl)
    (h1 : (assignEach [tg] X.env).map (·.2) = [assign tg X.env] := by rfl) : PS X (.Assign [tg] e pos) (tS X.K X.mg E (sAsg f h)) :=
  ps_wk (ps_asg he hg hs hw h1) fun D σ H ⟨ρ, F, R, q⟩ => ⟨ρ, F, R, (out_bnd (K := X.K) (F := F) q).mono fun d ρ1 k v F1 H1 S1 dq => by
    have q2 := k _ _ _ S1
    cases e : h d ρ1 with
    | none => rw [e] at q2; exact (show False from q2).elim
    | some ρ2 =>
      rw [e] at q2
      exact ⟨d, ρ1, F1, ρ2, S1.rel, dq, e, fun σ' S2 _ => q2 σ' F1 H1 (S1.trans S2)⟩⟩

/-! ### arguments -/
inductive Ar where
  | fz (d : PyData)
  | tp (xs : List PyData)
  | sl (i : Nat)
  | sc (ns : Sc)
structure AOk (K : PySem.W.Frag) (ρ : Ev) (σ : St) (H : Hp) (ρ1 : Ev) (F1 H1 : Hp) (as : List Ar) (vs : List V) : Prop where
  ln : vs.length = as.length
  fz : ∀ (k : Nat) (d : PyData), as[k]? = some (.fz d) → ∃ v, vs[k]? = some v ∧ Dq F1 v d
  sl : ∀ (k i : Nat), as[k]? = some (.sl i) → ∃ v, vs[k]? = some v ∧ σ[i]? = some (some v)
  tp : ∀ (k : Nat) (xs : List PyData), as[k]? = some (.tp xs) → ∃ p ws, vs[k]? = some (.ref p) ∧ (OwnL ρ σ p ∨ H p = none) ∧ H1 p = some (.lst ws) ∧ F1 p = none ∧ DqAll F1 ws xs ∧ ¬ Own ρ1 σ p
  sc : ∀ (k : Nat) (ns : Sc), as[k]? = some (.sc ns) → ∃ a, vs[k]? = some (.ref a) ∧ ns.at K F1 a
  ap : ∀ (k l : Nat) (xs ys : List PyData) (p : Addr), as[k]? = some (.tp xs) → as[l]? = some (.tp ys) → vs[k]? = some (.ref p) → vs[l]? = some (.ref p) → k = l
def tAr (K : PySem.W.Frag) (mg : Str → Option Value) (E : XK) (f : Dn (List Ar)) : TA := fun σ H Q => ∃ ρ F, Rel K ρ σ F H ∧ Out mg E ρ σ H (f ρ) fun as ρ' => ∀ vs F' H', Stp K ρ σ F H ρ' σ F' H' → AOk K ρ σ H ρ' F' H' as vs → Q vs H'
def aNil : Dn (List Ar) := ret []
theorem ga_nil : PA X [] (tAr X.K X.mg E aNil) := pa_wk pa_nil fun σ H Q ⟨ρ, F, R, q⟩ => out_ret q [] F H (Stp.refl R)
  ⟨rfl, fun k d h => by simp at h, fun k d h => by simp at h, fun k d h => by simp at h, fun k d h => by simp at h, fun k l xs ys p h => by simp at h⟩
/-- an own list, met later -/
theorem keep_own {K : PySem.W.Frag} {ρ1 ρ2 : Ev} {σ : St} {F1 H1 F2 H2 : Hp} {p : Addr} {ws : List V} (S : Stp K ρ1 σ F1 H1 ρ2 σ F2 H2) (h2 : H1 p = some (.lst ws)) (h3 : F1 p = none) (h5 : ¬ Own ρ1 σ p) :
    H2 p = some (.lst ws) ∧ F2 p = none ∧ ¬ Own ρ2 σ p := by
  refine ⟨S.fr p _ h2 h5, ?_, S.nob h2 h5⟩
  cases e : F2 p with
  | none => rfl
  | some o =>
    rcases S.nw p (by rw [e]; intro z; cases z) with z | z | z
    · exact absurd h3 z
    · exact absurd (.inl z) h5
    · rw [h2] at z
      cases z
def aCons (f : Dn Rv) (g : Dn (List Ar)) : Dn (List Ar) := bnd f fun r => bnd g fun as => ret ((match r with
  | .fz d => Ar.fz d
  | .ol xs => Ar.tp xs) :: as)
theorem ga_cons {e : Expr} {es : List Expr} {f : Dn Rv} {g : Dn (List Ar)} (h1 : PE X e (tE X.K X.mg E f)) (h2 : PA X es (tAr X.K X.mg E g)) (hs : starEach (e :: es) X.env = (false, eval e X.env) :: starEach es X.env := by rfl) :
    PA X (e :: es) (tAr X.K X.mg E (aCons f g)) :=
  pa_wk (pa_cons h1 h2 hs) fun σ H Q ⟨ρ, F, R, q⟩ => ⟨ρ, F, R, (out_bnd (K := X.K) (F := F) q).mono fun r ρ1 k v F1 H1 S1 ro =>
    ⟨ρ1, F1, S1.rel, (out_bnd (K := X.K) (F := F1) (k _ _ _ S1)).mono fun as ρ2 k2 vs F2 H2 S2 A => out_ret (k2 _ _ _ S2) _ F2 H2 (S1.trans S2) (by
      have old : ∀ {p : Addr}, (OwnL ρ1 σ p ∨ H1 p = none) → (OwnL ρ σ p ∨ H p = none) := fun {p} h => by
        rcases h with h | h
        · exact S1.oo p h
        · exact .inr (S1.dm p h)
      cases r with
      | fz d =>
        refine ⟨by simp [A.ln], fun k e h => ?_, fun k i h => ?_, fun k xs h => ?_, fun k ns h => ?_, fun k l xs ys p e1 e2 e3 e4 => ?_⟩
        · cases k with
          | zero => simp at h; subst h; exact ⟨v, rfl, dp_mono S2.ff d v ro⟩
          | succ k => exact A.fz k e (by simpa using h)
        · cases k with
          | zero => simp at h
          | succ k => exact A.sl k i (by simpa using h)
        · cases k with
          | zero => simp at h
          | succ k =>
            obtain ⟨p, ws, e1, e2, e3⟩ := A.tp k xs (by simpa using h)
            exact ⟨p, ws, by simpa using e1, old e2, e3⟩
        · cases k with
          | zero => simp at h
          | succ k => exact A.sc k ns (by simpa using h)
        · cases k with
          | zero => simp at e1
          | succ k =>
            cases l with
            | zero => simp at e2
            | succ l => rw [A.ap k l xs ys p (by simpa using e1) (by simpa using e2) (by simpa using e3) (by simpa using e4)]
      | ol zs =>
        obtain ⟨p0, ws0, rfl, r1, r2, r3, r4, r5⟩ := ro
        obtain ⟨n1, n2, n3⟩ := keep_own S2 r2 r3 r5
        have apart : ∀ (k : Nat) (xs : List PyData), as[k]? = some (.tp xs) → vs[k]? ≠ some (.ref p0) := fun k xs h z => by
          obtain ⟨p, ws, e1, e2, _⟩ := A.tp k xs h
          rw [z] at e1
          cases e1
          rcases e2 with e2 | e2
          · exact r5 (.inl e2)
          · rw [r2] at e2
            cases e2
        refine ⟨by simp [A.ln], fun k e h => ?_, fun k i h => ?_, fun k xs h => ?_, fun k ns h => ?_, fun k l xs ys p e1 e2 e3 e4 => ?_⟩
        · cases k with
          | zero => simp at h
          | succ k => exact A.fz k e (by simpa using h)
        · cases k with
          | zero => simp at h
          | succ k => exact A.sl k i (by simpa using h)
        · cases k with
          | zero =>
            simp at h
            subst h
            exact ⟨p0, ws0, rfl, r1, n1, n2, dps_mono S2.ff _ _ r4, n3⟩
          | succ k =>
            obtain ⟨p, ws, e1, e2, e3⟩ := A.tp k xs (by simpa using h)
            exact ⟨p, ws, by simpa using e1, old e2, e3⟩
        · cases k with
          | zero => simp at h
          | succ k => exact A.sc k ns (by simpa using h)
        · cases k with
          | zero =>
            cases l with
            | zero => rfl
            | succ l =>
              have e3' : V.ref p0 = V.ref p := by simpa using e3
              cases e3'
              exact absurd (by simpa using e4) (apart l ys (by simpa using e2))
          | succ k =>
            cases l with
            | zero =>
              have e4' : V.ref p0 = V.ref p := by simpa using e4
              cases e4'
              exact absurd (by simpa using e3) (apart k xs (by simpa using e1))
            | succ l => rw [A.ap k l xs ys p (by simpa using e1) (by simpa using e2) (by simpa using e3) (by simpa using e4)])⟩⟩
/-- slot i is lent -/
def aLend (i : Nat) (g : Dn (List Ar)) : Dn (List Ar) := fun ρ => match ρ[i]? with
  | some (.ol _) => bnd g (fun as => ret (.sl i :: as)) ρ
  | some (.bl _) => bnd g (fun as => ret (.sl i :: as)) ρ
  | some (.sc ns) => bnd g (fun as => ret (.sc ns :: as)) ρ
  | _ => .st
theorem ga_lend (i : Nat) {x : Str} {p : Pos} {es : List Expr} {g : Dn (List Ar)} (h2 : PA X es (tAr X.K X.mg E g)) (hN : X.N[i]? = some x := by rfl) (hv : Vis X.env.scope x := by first | exact Or.inl rfl | exact Or.inr (Or.inl rfl) | exact Or.inr (Or.inr rfl))
    (hs : starEach (.Name x p :: es) X.env = (false, eval (.Name x p) X.env) :: starEach es X.env := by rfl) (hd : (x == ("__debug__" : Str)) = false := by decide) (hcd : (x == ("__classdict__" : Str)) = false := by decide) :
    PA X (.Name x p :: es) (tAr X.K X.mg E (aLend i g)) :=
  pa_wk (pa_cons (pe_var hN hv hd hcd) h2 hs) fun σ H Q ⟨ρ, F, R, q⟩ => by
    have go : ∀ xs : List PyData, (ρ[i]? = some (.ol xs) ∨ ρ[i]? = some (.bl xs)) → Out X.mg E ρ σ H (bnd g (fun as => ret (.sl i :: as)) ρ) (fun as ρ' => ∀ vs F' H', Stp X.K ρ σ F H ρ' σ F' H' → AOk X.K ρ σ H ρ' F' H' as vs → Q vs H') →
        tCons (tVar i) (tAr X.K X.mg E g) σ H Q := fun xs hx q => by
      obtain ⟨p, ws, h1, _⟩ := R.ls i xs hx
      refine ⟨_, h1, ρ, F, R, (out_bnd (K := X.K) (F := F) q).mono fun as ρ2 k2 vs F2 H2 S2 A => out_ret (k2 _ _ _ S2) _ F2 H2 S2 ?_⟩
      refine ⟨by simp [A.ln], fun k e h => ?_, fun k j h => ?_, fun k xs h => ?_, fun k ns h => ?_, fun k l xs ys p e1 e2 e3 e4 => ?_⟩
      · cases k with
        | zero => simp at h
        | succ k => exact A.fz k e (by simpa using h)
      · cases k with
        | zero => simp at h; subst h; exact ⟨_, rfl, h1⟩
        | succ k => exact A.sl k j (by simpa using h)
      · cases k with
        | zero => simp at h
        | succ k => exact A.tp k xs (by simpa using h)
      · cases k with
        | zero => simp at h
        | succ k => exact A.sc k ns (by simpa using h)
      · cases k with
        | zero => simp at e1
        | succ k =>
          cases l with
          | zero => simp at e2
          | succ l => rw [A.ap k l xs ys p (by simpa using e1) (by simpa using e2) (by simpa using e3) (by simpa using e4)]
    unfold aLend at q
    cases e : ρ[i]? with
    | none => rw [e] at q; exact q.elim
    | some en =>
      rw [e] at q
      cases en with
      | fz d => exact q.elim
      | no => exact q.elim
      | ol xs => exact go xs (.inl e) q
      | bl xs => exact go xs (.inr e) q
      | sc ns =>
        obtain ⟨a, h1, hs1⟩ := R.sc i ns e
        refine ⟨_, h1, ρ, F, R, (out_bnd (K := X.K) (F := F) q).mono fun as ρ2 k2 vs F2 H2 S2 A => out_ret (k2 _ _ _ S2) _ F2 H2 S2 ?_⟩
        refine ⟨by simp [A.ln], fun k e h => ?_, fun k j h => ?_, fun k xs h => ?_, fun k ns h => ?_, fun k l xs ys p e1 e2 e3 e4 => ?_⟩
        · cases k with
          | zero => simp at h
          | succ k => exact A.fz k e (by simpa using h)
        · cases k with
          | zero => simp at h
          | succ k => exact A.sl k j (by simpa using h)
        · cases k with
          | zero => simp at h
          | succ k => exact A.tp k xs (by simpa using h)
        · cases k with
          | zero => simp at h; subst h; exact ⟨a, rfl, sc_keep S2.ff hs1⟩
          | succ k => exact A.sc k ns (by simpa using h)
        · cases k with
          | zero => simp at e1
          | succ k =>
            cases l with
            | zero => simp at e2
            | succ l => rw [A.ap k l xs ys p (by simpa using e1) (by simpa using e2) (by simpa using e3) (by simpa using e4)]
end
end Gx

/-! G5: what a def does to data; its call. -/
namespace Gx
open PySem PySem.Spec L2
open PyProof.Rows hiding St

/-- a def, over data: what its parameters stand for, then its answer and what the lent ones stand for -/
abbrev Den := List En → Rs (Rv × List En)
def NoOl (as : List En) : Prop := ∀ (i : Nat) (xs : List PyData), as[i]? ≠ some (.ol xs)
def spD (K : PySem.W.Frag) (mg : Str → Option Value) (n : Nat) (den : Den) : Sp := fun vs H Q E => vs.length = n ∧ ∃ as F, Rel K as (vs.map some) F H ∧ NoOl as ∧
  Out mg E as (vs.map some) H (den as) fun r as' => ∀ v F' H', Stp K as (vs.map some) F H as' (vs.map some) F' H' → ROk as (vs.map some) H as' (vs.map some) F' H' r v → Q v H'
/-- what is left of the lent ones -/
def back : List En → Ev → List En
  | .bl _ :: as, .bl ys :: ρ => .bl ys :: back as ρ
  | a :: as, _ :: ρ => a :: back as ρ
  | as, _ => as
theorem back_len : ∀ (as : List En) (ρ : Ev), (back as ρ).length = as.length
  | [], _ => by simp [back]
  | a :: as, [] => by cases a <;> simp [back]
  | a :: as, r :: ρ => by
    have ih := back_len as ρ
    cases a <;> cases r <;> simp [back, ih]
theorem back_get : ∀ (as : List En) (ρ : Ev) (i : Nat), (back as ρ)[i]? = match as[i]?, ρ[i]? with
    | some (.bl _), some (.bl ys) => some (.bl ys)
    | x, _ => x
  | [], _, i => by simp [back]
  | a :: as, [], i => by
    have e : back (a :: as) [] = a :: as := by cases a <;> rfl
    rw [e]
    simp only [List.getElem?_nil]
    cases (a :: as)[i]? with
    | none => rfl
    | some x => cases x <;> rfl
  | a :: as, r :: ρ, 0 => by cases a <;> cases r <;> rfl
  | a :: as, r :: ρ, i + 1 => by
    have ih := back_get as ρ i
    cases a <;> cases r <;> simpa [back] using ih
def runF (n N : Nat) (f : Dn Fl) : Den := fun as => match f (as ++ List.replicate (N - n) .no) with
  | .st => .st
  | .ex e => .ex e
  | .ok (.nx, ρ') => .ok (.fz .none, back as ρ')
  | .ok (.rt r, ρ') => .ok (r, back as ρ')
  | .ok (_, _) => .st
section
variable {K : PySem.W.Frag} {as : List En} {vs : List V} {F H F' H' : Hp} {m : Nat} {ρ' : Ev} {σ' : St}
theorem rep_no {i : Nat} {e : En} (ne : e ≠ .no) (h : (as ++ List.replicate m .no)[i]? = some e) : as[i]? = some e := by
  by_cases hi : i < as.length
  · rw [List.getElem?_append_left hi] at h
    exact h
  · rw [List.getElem?_append_right (by omega), List.getElem?_replicate] at h
    split at h
    · cases h
      exact absurd rfl ne
    · cases h
theorem app_get {i : Nat} {e : En} (h : as[i]? = some e) : (as ++ List.replicate m .no)[i]? = some e := by
  have hi : i < as.length := (List.getElem?_eq_some_iff.mp h).1
  rw [List.getElem?_append_left hi]
  exact h
theorem app_own {i : Nat} (h : IsOwn (as ++ List.replicate m .no) i) : IsOwn as i := by
  rcases h with ⟨xs, h⟩ | ⟨xs, h⟩
  · exact .inl ⟨xs, rep_no (by intro z; cases z) h⟩
  · exact .inr ⟨xs, rep_no (by intro z; cases z) h⟩
theorem σ_get {l : List (Option V)} {i : Nat} {x : Option V} (h : (vs.map some)[i]? = some x) : (vs.map some ++ l)[i]? = some x := by
  have hi : i < (vs.map some).length := (List.getElem?_eq_some_iff.mp h).1
  rw [List.getElem?_append_left hi]
  exact h
theorem σ_back {l : List (Option V)} {i : Nat} (hi : i < vs.length) : (vs.map some ++ l)[i]? = (vs.map some)[i]? := by
  rw [List.getElem?_append_left (by simpa using hi)]
theorem start_rel (R : Rel K as (vs.map some) F H) : Rel K (as ++ List.replicate m .no) (vs.map some ++ List.replicate m none) F H where
  sub := R.sub
  fz := fun i d h => by
    obtain ⟨v, e, q⟩ := R.fz i d (rep_no (by intro z; cases z) h)
    exact ⟨v, σ_get e, q⟩
  ls := fun i xs h => by
    have h' : as[i]? = some (.ol xs) ∨ as[i]? = some (.bl xs) := by
      rcases h with h | h
      · exact .inl (rep_no (by intro z; cases z) h)
      · exact .inr (rep_no (by intro z; cases z) h)
    obtain ⟨p, ws, e, q⟩ := R.ls i xs h'
    exact ⟨p, ws, σ_get e, q⟩
  sc := fun i ns h => by
    obtain ⟨a, e, q⟩ := R.sc i ns (rep_no (by intro z; cases z) h)
    exact ⟨a, σ_get e, q⟩
  sep := fun i j p hi hj e1 e2 => by
    have l1 : i < as.length := by
      rcases app_own hi with ⟨xs, h⟩ | ⟨xs, h⟩ <;> exact (List.getElem?_eq_some_iff.mp h).1
    have l2 : j < as.length := by
      rcases app_own hj with ⟨xs, h⟩ | ⟨xs, h⟩ <;> exact (List.getElem?_eq_some_iff.mp h).1
    have e : as.length = vs.length := by simpa using R.ln
    rw [σ_back (by omega)] at e1
    rw [σ_back (by omega)] at e2
    exact R.sep i j p (app_own hi) (app_own hj) e1 e2
  ln := by
    have e : as.length = vs.length := by simpa using R.ln
    simp [e]
theorem start_own (R : Rel K as (vs.map some) F H) {p : Addr} (h : Own (as ++ List.replicate m .no) (vs.map some ++ List.replicate m none) p) : Own as (vs.map some) p := by
  obtain ⟨i, h1, h2⟩ := own_ex h
  have h3 := app_own h1
  have l1 : i < as.length := by
    rcases h3 with ⟨xs, h⟩ | ⟨xs, h⟩ <;> exact (List.getElem?_eq_some_iff.mp h).1
  have e : as.length = vs.length := by simpa using R.ln
  rw [σ_back (by omega)] at h2
  exact own_at h3 h2
theorem start_nol (no : NoOl as) {p : Addr} : ¬ OwnL (as ++ List.replicate m .no) (vs.map some ++ List.replicate m none) p := fun ⟨i, xs, h, _⟩ => no i xs (rep_no (by intro z; cases z) h)
/-- the body's step, seen from without -/
theorem leave (R : Rel K as (vs.map some) F H) (no : NoOl as) (S : Stp K (as ++ List.replicate m .no) (vs.map some ++ List.replicate m none) F H ρ' σ' F' H') : Stp K as (vs.map some) F H (back as ρ') (vs.map some) F' H' := by
  have eq_len : as.length = vs.length := by simpa using R.ln
  have bl : ∀ (i : Nat) (ys : List PyData), (back as ρ')[i]? = some (.bl ys) → (∃ xs, as[i]? = some (.bl xs)) ∧ ρ'[i]? = some (.bl ys) := fun i ys h => by
    rw [back_get] at h
    cases e : as[i]? with
    | none => rw [e] at h; cases h
    | some a =>
      rw [e] at h
      cases a with
      | bl xs =>
        refine ⟨⟨xs, rfl⟩, ?_⟩
        obtain ⟨⟨zs, q⟩, _⟩ := S.bk i xs (app_get e)
        rw [q] at h ⊢
        exact h
      | _ => cases h
  have ot : ∀ (i : Nat) (e : En), (∀ xs, e ≠ .bl xs) → (back as ρ')[i]? = some e → as[i]? = some e := fun i e ne h => by
    rw [back_get] at h
    cases q : as[i]? with
    | none => rw [q] at h; cases h
    | some a =>
      rw [q] at h
      cases a with
      | bl xs =>
        cases z : ρ'[i]? with
        | none => rw [z] at h; cases h; exact absurd rfl (ne xs)
        | some b =>
          rw [z] at h
          cases b <;> first
            | (cases h; exact absurd rfl (ne _))
      | _ => exact h
  have σe : ∀ (i : Nat) (xs : List PyData), as[i]? = some (.bl xs) → σ'[i]? = (vs.map some)[i]? := fun i xs h => by
    have l1 : i < as.length := (List.getElem?_eq_some_iff.mp h).1
    rw [(S.bk i xs (app_get h)).2, σ_back (by omega)]
  have nol : ∀ (i : Nat) (xs : List PyData), (back as ρ')[i]? ≠ some (.ol xs) := fun i xs h => no i xs (ot i _ (fun ys z => by cases z) h)
  have isb : ∀ (i : Nat), IsOwn (back as ρ') i → (∃ xs, as[i]? = some (.bl xs)) ∧ ∃ ys, ρ'[i]? = some (.bl ys) := fun i h => by
    rcases h with ⟨xs, h⟩ | ⟨xs, h⟩
    · exact absurd h (nol i xs)
    · obtain ⟨h1, h2⟩ := bl i xs h
      exact ⟨h1, xs, h2⟩
  refine ⟨⟨S.rel.sub, fun i d h => ?_, fun i xs h => ?_, fun i ns h => ?_, fun i j p hi hj e1 e2 => ?_, by rw [back_len]; exact R.ln⟩, S.ff, fun a o h n => ?_, fun p h => ?_, fun i xs h => ?_, fun i ys h => ?_, fun a h => ?_, back_len as ρ', S.dm⟩
  · obtain ⟨v, e, q⟩ := R.fz i d (ot i _ (fun ys z => by cases z) h)
    exact ⟨v, e, dp_mono S.ff d v q⟩
  · rcases h with h | h
    · exact absurd h (nol i xs)
    · obtain ⟨⟨zs, h1⟩, h2⟩ := bl i xs h
      obtain ⟨p, ws, e, q⟩ := S.rel.ls i xs (.inr h2)
      exact ⟨p, ws, by rw [← σe i zs h1]; exact e, q⟩
  · obtain ⟨a, e, q⟩ := R.sc i ns (ot i _ (fun ys z => by cases z) h)
    exact ⟨a, e, sc_keep S.ff q⟩
  · obtain ⟨⟨xs, a1⟩, ys, b1⟩ := isb i hi
    obtain ⟨⟨xs2, a2⟩, ys2, b2⟩ := isb j hj
    exact S.rel.sep i j p (.inr ⟨ys, b1⟩) (.inr ⟨ys2, b2⟩) (by rw [σe i xs a1]; exact e1) (by rw [σe j xs2 a2]; exact e2)
  · exact S.fr a o h fun z => n (start_own R z)
  · obtain ⟨i, xs, h1, _⟩ := h
    exact absurd h1 (nol i xs)
  · refine ⟨?_, rfl⟩
    obtain ⟨⟨ys, q⟩, _⟩ := S.bk i xs (app_get h)
    exact ⟨ys, by rw [back_get, h, q]⟩
  · exact (bl i ys h).1
  · rcases S.nw a h with z | z | z
    · exact .inl z
    · exact absurd z (start_nol no)
    · exact .inr (.inr z)
theorem leave_rv (R : Rel K as (vs.map some) F H) (no : NoOl as) (S : Stp K (as ++ List.replicate m .no) (vs.map some ++ List.replicate m none) F H ρ' σ' F' H') {r : Rv} {v : V}
    (h : ROk (as ++ List.replicate m .no) (vs.map some ++ List.replicate m none) H ρ' σ' F' H' r v) : ROk as (vs.map some) H (back as ρ') (vs.map some) F' H' r v := by
  cases r with
  | fz d => exact h
  | ol xs =>
    obtain ⟨p, ws, h1, h2, h3, h4, h5, h6⟩ := h
    have hp : H p = none := by
      rcases h2 with z | z
      · exact absurd z (start_nol no)
      · exact z
    refine ⟨p, ws, h1, .inr hp, h3, h4, h5, fun z => ?_⟩
    have L := leave R no S
    rcases z with z | z
    · rcases L.oo p z with ⟨i, xs, q, _⟩ | _
      · exact no i xs q
      · obtain ⟨i, xs, q, _⟩ := z
        rw [back_get] at q
        cases e : as[i]? with
        | none => rw [e] at q; cases q
        | some a =>
          rw [e] at q
          cases a with
          | bl ys =>
            cases e2 : ρ'[i]? with
            | none => rw [e2] at q; cases q
            | some b => rw [e2] at q; cases b <;> cases q
          | ol ys => exact no i ys e
          | _ => cases q
    · obtain ⟨⟨us, q⟩, _⟩ := R.own (.inr (L.ob z))
      rw [hp] at q
      cases q
end

/-! ### the rule for a def -/
section
variable {P : Program} {w : World} {K : PySem.W.Frag} {mg : Str → Option Value} {base : Heap}
theorem ok_def {x qual : Str} {st : Stmt} {f : Addr} {fd : FuncData} {N ps : List Str} {k : Nat} {body : Dn Fl} (Fn : Fun K x qual st f fd) (S : FnScope N ps (defScope st))
    (hb : ∀ (cdv : Value) (A : Around) (outer : List Env) (s : Shared) (H : Hp) (E : XK), Room k (A.deeper (envOfC qual (defScope st) s.heap.objs.size f cdv)) →
      PSs (cxOf (L2.CX P w) P w K mg base N qual (defScope st) f cdv A outer s H E) (defBody st) (tS K mg E body)) :
    FnOk P w K mg base (L2.CX P w) (k + 1) f fd ps (spD K mg ps.length (runF ps.length N.length body)) := by
  refine Fn.okX S (fun vs H Q E h => h.1) fun cdv A outer s H vs Q E hr h => ?_
  obtain ⟨hl, as, F, R, no, o⟩ := h
  have hm : as.length = vs.length := by simpa using R.ln
  refine ⟨_, hb cdv A outer s H E hr, ?_⟩
  show tS K mg E body _ (L2.start N vs) H
  have es : L2.start N vs = vs.map some ++ List.replicate (N.length - ps.length) none := by
    unfold L2.start
    rw [hl]
  rw [es]
  refine ⟨as ++ List.replicate (N.length - ps.length) .no, F, start_rel R, ?_⟩
  unfold runF at o
  cases e : body (as ++ List.replicate (N.length - ps.length) .no) with
  | st => rw [e] at o; exact o
  | ex x =>
    rw [e] at o
    exact fun cls d H' xp => o cls d H' ⟨xp.cl, fun a u h n => xp.fr a u h fun z => n (start_own R z), xp.dm, xp.ar⟩
  | ok r =>
    obtain ⟨fl, ρ'⟩ := r
    rw [e] at o
    cases fl with
    | nx => exact fun σ' F' H' S' => o .non F' H' (leave R no S') .non
    | rt r => exact fun σ' v F' H' S' ro => o v F' H' (leave R no S') (leave_rv R no S' ro)
    | bk => exact (show False from o).elim
    | ct => exact (show False from o).elim
/-- nothing is promised -/
theorem ok_none {f : Addr} {fd : FuncData} {ps : List Str} {k n : Nat} : FnOk P w K mg base (L2.CX P w) k f fd ps (spD K mg n fun _ => .st) :=
  ⟨fun vs H Q E ⟨_, as, F, R, no, o⟩ => o.elim, fun A outer s H args us vs Q E _ _ _ _ ⟨_, as, F, R, no, o⟩ => o.elim⟩
end
/-- a def as its callers know it -/
structure Cal (P : Program) (w : World) (K : PySem.W.Frag) (mg : Str → Option Value) (base : Heap) (k : Nat) (x : Str) (n : Nat) (den : Den) : Prop where
  ex : ∃ f fd ps, FnOk P w K mg base (L2.CX P w) k f fd ps (spD K mg n den) ∧ mg x = some (.ref f) ∧ PySem.W.keepIn K (.ref f) = true ∧ Binds K fd ps []
theorem Cal.mono {P : Program} {w : World} {K : PySem.W.Frag} {mg : Str → Option Value} {base : Heap} {j k : Nat} {x : Str} {n : Nat} {den : Den} (c : Cal P w K mg base j x n den) (h : j ≤ k) : Cal P w K mg base k x n den := by
  obtain ⟨f, fd, ps, F, r⟩ := c.ex
  exact ⟨f, fd, ps, F.mono h, r⟩

/-! ### a call -/
def enSl : Option En → En
  | some (.ol xs) => .bl xs
  | some (.bl xs) => .bl xs
  | _ => .no
theorem enSl_bl {o : Option En} {xs : List PyData} (h : enSl o = .bl xs) : o = some (.ol xs) ∨ o = some (.bl xs) := by
  cases o with
  | none => cases h
  | some e =>
    cases e with
    | ol ys => cases h; exact .inl rfl
    | bl ys => cases h; exact .inr rfl
    | _ => cases h
theorem enSl_bln (o : Option En) : (∃ xs, enSl o = .bl xs) ∨ enSl o = .no := by
  cases o with
  | none => exact .inr rfl
  | some e =>
    cases e with
    | ol ys => exact .inl ⟨_, rfl⟩
    | bl ys => exact .inl ⟨_, rfl⟩
    | _ => exact .inr rfl
def Ar.en (ρ : Ev) : Ar → En
  | .fz d => .fz d
  | .tp xs => .bl xs
  | .sc ns => .sc ns
  | .sl i => enSl ρ[i]?
def Ar.isTp : Ar → Bool
  | .tp _ => true
  | _ => false
/-- the one place that is lent: none, one, or too many -/
def lent : List Ar → Option (Option (Nat × Nat))
  | [] => some none
  | .sl i :: as => match lent as with
    | some none => some (some (0, i))
    | _ => none
  | _ :: as => match lent as with
    | some none => some none
    | some (some (k, i)) => some (some (k + 1, i))
    | none => none
theorem lent_none : ∀ {as : List Ar}, lent as = some none → ∀ (k i : Nat), as[k]? ≠ some (.sl i)
  | [], _, k, i => by simp
  | a :: as, h, k, i => by
    have hl : lent as = some none ∧ (∀ j, a ≠ .sl j) := by
      cases a <;> simp only [lent] at h <;> (split at h <;> simp_all)
    cases k with
    | zero =>
      intro z
      simp at z
      exact hl.2 i z
    | succ k =>
      intro z
      exact lent_none hl.1 k i (by simpa using z)
theorem lent_some : ∀ {as : List Ar} {k i : Nat}, lent as = some (some (k, i)) → as[k]? = some (.sl i) ∧ ∀ (l j : Nat), as[l]? = some (.sl j) → l = k ∧ j = i
  | [], _, _, h => by simp [lent] at h
  | a :: as, k, i, h => by
    by_cases hs : ∃ j, a = .sl j
    · obtain ⟨j, rfl⟩ := hs
      simp only [lent] at h
      split at h
      · rename_i q
        cases h
        refine ⟨rfl, fun l j z => ?_⟩
        cases l with
        | zero =>
          simp at z
          exact ⟨rfl, z.symm⟩
        | succ l => exact absurd (by simpa using z) (lent_none q l j)
      · cases h
    · have h2 : ∃ k', k = k' + 1 ∧ lent as = some (some (k', i)) := by
        cases a with
        | sl j => exact absurd ⟨j, rfl⟩ hs
        | _ =>
          simp only [lent] at h
          split at h
          · cases h
          · rename_i q
            cases h
            exact ⟨_, rfl, q⟩
          · cases h
      obtain ⟨k', rfl, q⟩ := h2
      obtain ⟨q1, q2⟩ := lent_some q
      refine ⟨by simpa using q1, fun l j z => ?_⟩
      cases l with
      | zero =>
        simp at z
        exact absurd ⟨j, z⟩ hs
      | succ l =>
        obtain ⟨e1, e2⟩ := q2 l j (by simpa using z)
        exact ⟨by rw [e1], e2⟩
def reKind : Option En → List PyData → En
  | some (.bl _), ys => .bl ys
  | _, ys => .ol ys
def putAt (ρ : Ev) (i : Nat) : Option En → Ev
  | some (.bl ys) => ρ.set i (reKind ρ[i]? ys)
  | _ => ρ
def putBack (ρ : Ev) (es : List En) : Option (Nat × Nat) → Ev
  | none => ρ
  | some (k, i) => putAt ρ i es[k]?
theorem putAt_not {ρ : Ev} {i : Nat} {o : Option En} (h : ¬ ∃ ys, o = some (.bl ys)) : putAt ρ i o = ρ := by
  cases o with
  | none => rfl
  | some e =>
    cases e with
    | bl ys => exact absurd ⟨ys, rfl⟩ h
    | _ => rfl
theorem putAt_len (ρ : Ev) (i : Nat) (o : Option En) : (putAt ρ i o).length = ρ.length := by
  cases o with
  | none => rfl
  | some e => cases e <;> first | rfl | exact List.length_set ..
def apply (den : Den) (as : List Ar) : Dn Rv := fun ρ => match lent as with
  | none => .st
  | some o => match den (as.map (Ar.en ρ)) with
    | .st => .st
    | .ex e => if as.any Ar.isTp then .st else .ex e
    | .ok (r, es) => .ok (r, putBack ρ es o)
section
variable {K : PySem.W.Frag} {ρ ρ1 : Ev} {σ : St} {F H F1 H1 F2 H2 : Hp} {as : List Ar} {vs : List V}
theorem en_bl {k : Nat} {xs : List PyData} (h : (as.map (Ar.en ρ1))[k]? = some (.bl xs)) : as[k]? = some (.tp xs) ∨ ∃ i, as[k]? = some (.sl i) ∧ (ρ1[i]? = some (.ol xs) ∨ ρ1[i]? = some (.bl xs)) := by
  rw [List.getElem?_map] at h
  cases e : as[k]? with
  | none => rw [e] at h; cases h
  | some a =>
    rw [e] at h
    have h' : Ar.en ρ1 a = .bl xs := Option.some.inj h
    cases a with
    | fz d => cases h'
    | tp ys => cases h'; exact .inl rfl
    | sc ns => cases h'
    | sl i =>
      exact .inr ⟨i, rfl, enSl_bl h'⟩
theorem en_nol : NoOl (as.map (Ar.en ρ1)) := fun k xs h => by
  rw [List.getElem?_map] at h
  cases e : as[k]? with
  | none => rw [e] at h; cases h
  | some a =>
    rw [e] at h
    have h' : Ar.en ρ1 a = .ol xs := Option.some.inj h
    cases a with
    | sl i =>
      have h2 : enSl ρ1[i]? = _ := h'
      rcases enSl_bln ρ1[i]? with ⟨zs, z⟩ | z <;> (rw [z] at h2; cases h2)
    | _ => cases h'
theorem en_fz {k : Nat} {d : PyData} (h : (as.map (Ar.en ρ1))[k]? = some (.fz d)) : as[k]? = some (.fz d) := by
  rw [List.getElem?_map] at h
  cases e : as[k]? with
  | none => rw [e] at h; cases h
  | some a =>
    rw [e] at h
    have h' : Ar.en ρ1 a = .fz d := Option.some.inj h
    cases a with
    | sl i =>
      have h2 : enSl ρ1[i]? = _ := h'
      rcases enSl_bln ρ1[i]? with ⟨zs, z⟩ | z <;> (rw [z] at h2; cases h2)
    | fz e => cases h'; rfl
    | _ => cases h'
theorem en_sc {k : Nat} {d : Sc} (h : (as.map (Ar.en ρ1))[k]? = some (.sc d)) : as[k]? = some (.sc d) := by
  rw [List.getElem?_map] at h
  cases e : as[k]? with
  | none => rw [e] at h; cases h
  | some a =>
    rw [e] at h
    have h' : Ar.en ρ1 a = .sc d := Option.some.inj h
    cases a with
    | sl i =>
      have h2 : enSl ρ1[i]? = _ := h'
      rcases enSl_bln ρ1[i]? with ⟨zs, z⟩ | z <;> (rw [z] at h2; cases h2)
    | sc e => cases h'; rfl
    | _ => cases h'
theorem vs_some {k : Nat} {v : V} : (vs.map some)[k]? = some (some v) ↔ vs[k]? = some v := by
  rw [List.getElem?_map]
  cases vs[k]? <;> simp
/-- who is a parameter's own list -/
theorem arg_own (R1 : Rel K ρ1 σ F1 H1) (A : AOk K ρ σ H ρ1 F1 H1 as vs) {p : Addr} {k : Nat} (hk : IsOwn (as.map (Ar.en ρ1)) k) (e : vs[k]? = some (.ref p)) :
    (∃ i, as[k]? = some (.sl i) ∧ IsOwn ρ1 i ∧ σ[i]? = some (some (.ref p))) ∨ ((∃ xs, as[k]? = some (.tp xs)) ∧ (OwnL ρ σ p ∨ H p = none) ∧ ¬ Own ρ1 σ p) := by
  rcases hk with ⟨xs, h⟩ | ⟨xs, h⟩
  · exact absurd h (en_nol k xs)
  · rcases en_bl h with h | ⟨i, h1, h2⟩
    · obtain ⟨q, ws, a1, a2, a3, a4, a5, a6⟩ := A.tp k xs h
      rw [e] at a1
      cases a1
      exact .inr ⟨⟨xs, h⟩, a2, a6⟩
    · obtain ⟨v, b1, b2⟩ := A.sl k i h1
      rw [e] at b1
      cases b1
      refine .inl ⟨i, h1, ?_, b2⟩
      rcases h2 with h2 | h2
      · exact .inl ⟨xs, h2⟩
      · exact .inr ⟨xs, h2⟩
theorem arg_rel (R1 : Rel K ρ1 σ F1 H1) (A : AOk K ρ σ H ρ1 F1 H1 as vs) {o : Option (Nat × Nat)} (hl : lent as = some o) : Rel K (as.map (Ar.en ρ1)) (vs.map some) F1 H1 where
  sub := R1.sub
  fz := fun k d h => by
    obtain ⟨v, e, q⟩ := A.fz k d (en_fz h)
    exact ⟨v, vs_some.mpr e, q⟩
  ls := fun k xs h => by
    rcases h with h | h
    · exact absurd h (en_nol k xs)
    · rcases en_bl h with h | ⟨i, h1, h2⟩
      · obtain ⟨q, ws, a1, a2, a3, a4, a5, a6⟩ := A.tp k xs h
        exact ⟨q, ws, vs_some.mpr a1, a3, a4, a5⟩
      · obtain ⟨v, b1, b2⟩ := A.sl k i h1
        obtain ⟨p, ws, c1, c2⟩ := R1.ls i xs h2
        rw [b2] at c1
        cases c1
        exact ⟨p, ws, vs_some.mpr b1, c2⟩
  sc := fun k ns h => by
    obtain ⟨a, e, q⟩ := A.sc k ns (en_sc h)
    exact ⟨a, vs_some.mpr e, q⟩
  sep := fun k l p hk hl2 e1 e2 => by
    rw [vs_some] at e1 e2
    rcases arg_own R1 A hk e1 with ⟨i, a1, a2, a3⟩ | ⟨⟨xs, a1⟩, _, a3⟩
    · rcases arg_own R1 A hl2 e2 with ⟨j, b1, b2, b3⟩ | ⟨_, _, b3⟩
      · cases o with
        | none => exact absurd a1 (lent_none hl k i)
        | some q =>
          obtain ⟨_, u⟩ := lent_some (k := q.1) (i := q.2) hl
          rw [(u k i a1).1, (u l j b1).1]
      · exact absurd (own_at a2 a3) b3
    · rcases arg_own R1 A hl2 e2 with ⟨j, b1, b2, b3⟩ | ⟨⟨ys, b1⟩, _, b3⟩
      · exact absurd (own_at b2 b3) a3
      · exact A.ap k l xs ys p a1 b1 e1 e2
  ln := by simp [A.ln]
theorem call_stp (S1 : Stp K ρ σ F H ρ1 σ F1 H1) (A : AOk K ρ σ H ρ1 F1 H1 as vs) {o : Option (Nat × Nat)} (hl : lent as = some o) {es : List En}
    (S2 : Stp K (as.map (Ar.en ρ1)) (vs.map some) F1 H1 es (vs.map some) F2 H2) : Stp K ρ σ F H (putBack ρ1 es o) σ F2 H2 ∧ ∀ p, Own (putBack ρ1 es o) σ p → Own ρ1 σ p := by
  have R1 := S1.rel
  have frame : ∀ a u, H a = some u → ¬ Own ρ σ a → ¬ Own (as.map (Ar.en ρ1)) (vs.map some) a := fun a u h n z => by
    obtain ⟨k, z1, z2⟩ := own_ex z
    rw [vs_some] at z2
    rcases arg_own R1 A z1 z2 with ⟨i, a1, a2, a3⟩ | ⟨_, a2, _⟩
    · exact S1.nob h n (own_at a2 a3)
    · rcases a2 with a2 | a2
      · exact n (.inl a2)
      · rw [h] at a2
        cases a2
  -- the lists that were not lent
  have other : ∀ (j : Nat) (q : Addr) (ws : List V), IsOwn ρ1 j → σ[j]? = some (some (.ref q)) → (∀ k i, o = some (k, i) → j ≠ i) → H1 q = some (.lst ws) → F1 q = none → H2 q = some (.lst ws) ∧ F2 q = none := fun j q ws hj ej hn h2 h3 => by
    have nq : ¬ Own (as.map (Ar.en ρ1)) (vs.map some) q := fun z => by
      obtain ⟨k, z1, z2⟩ := own_ex z
      rw [vs_some] at z2
      rcases arg_own R1 A z1 z2 with ⟨i, a1, a2, a3⟩ | ⟨_, _, a3⟩
      · have e := R1.sep j i q hj a2 ej a3
        cases o with
        | none => exact lent_none hl k i a1
        | some u =>
          obtain ⟨u1, u2⟩ := u
          obtain ⟨_, w⟩ := lent_some hl
          exact hn u1 u2 rfl (by rw [e, (w k i a1).2])
      · exact a3 (own_at hj ej)
    refine ⟨S2.fr q _ h2 nq, ?_⟩
    cases e : F2 q with
    | none => rfl
    | some y =>
      rcases S2.nw q (by rw [e]; intro z; cases z) with z | ⟨i, xs, z, _⟩ | z
      · exact absurd h3 z
      · exact absurd z (en_nol i xs)
      · rw [h2] at z
        cases z
  -- kinds stay
  have kinds : ∀ (j : Nat), (∀ d, (putBack ρ1 es o)[j]? = some (.fz d) → ρ1[j]? = some (.fz d)) ∧ (∀ ns, (putBack ρ1 es o)[j]? = some (.sc ns) → ρ1[j]? = some (.sc ns)) ∧ (∀ xs, (putBack ρ1 es o)[j]? = some (.ol xs) → ∃ ys, ρ1[j]? = some (.ol ys)) ∧
      (∀ xs, (putBack ρ1 es o)[j]? = some (.bl xs) → ∃ ys, ρ1[j]? = some (.bl ys)) ∧ (∀ xs, ρ1[j]? = some (.bl xs) → ∃ ys, (putBack ρ1 es o)[j]? = some (.bl ys)) ∧
      (∀ xs, ((putBack ρ1 es o)[j]? = some (.ol xs) ∨ (putBack ρ1 es o)[j]? = some (.bl xs)) → (∃ k i, o = some (k, i) ∧ j = i ∧ es[k]? = some (.bl xs)) ∨ (∀ k i, o = some (k, i) → j ≠ i) ∧ (ρ1[j]? = some (.ol xs) ∨ ρ1[j]? = some (.bl xs))) := fun j => by
    cases o with
    | none => exact ⟨fun d h => h, fun d h => h, fun xs h => ⟨xs, h⟩, fun xs h => ⟨xs, h⟩, fun xs h => ⟨xs, h⟩, fun xs h => .inr ⟨fun k i z => (by cases z), h⟩⟩
    | some u =>
      obtain ⟨k, i⟩ := u
      obtain ⟨l1, l2⟩ := lent_some hl
      -- what stands at i
      obtain ⟨v, av, bv⟩ := A.sl k i l1
      by_cases hb : ∃ ys, es[k]? = some (.bl ys)
      · obtain ⟨ys, hy⟩ := hb
        have e : putBack ρ1 es (some (k, i)) = ρ1.set i (reKind ρ1[i]? ys) := by
          show putAt ρ1 i es[k]? = _
          rw [hy]
          rfl
        obtain ⟨xs0, hx0⟩ := S2.kb k ys hy
        have hi : ρ1[i]? = some (.ol xs0) ∨ ρ1[i]? = some (.bl xs0) := by
          rcases en_bl hx0 with z | ⟨i', z1, z2⟩
          · rw [l1] at z
            cases z
          · rw [l1] at z1
            cases z1
            exact z2
        have hlt : i < ρ1.length := by
          rcases hi with hi | hi <;> exact (List.getElem?_eq_some_iff.mp hi).1
        rw [e]
        by_cases hj : j = i
        · subst hj
          rw [List.getElem?_set_self hlt]
          rcases hi with hi | hi
          · rw [hi]
            exact ⟨fun d h => (by cases h), fun d h => (by cases h), fun xs h => ⟨xs0, rfl⟩, fun xs h => (by cases h), fun xs h => (by cases h), fun xs h => .inl ⟨k, j, rfl, rfl, by
              rcases h with h | h
              · cases h; exact hy
              · cases h⟩⟩
          · rw [hi]
            exact ⟨fun d h => (by cases h), fun d h => (by cases h), fun xs h => (by cases h), fun xs h => ⟨xs0, rfl⟩, fun xs h => ⟨ys, rfl⟩, fun xs h => .inl ⟨k, j, rfl, rfl, by
              rcases h with h | h
              · cases h
              · cases h; exact hy⟩⟩
        · rw [List.getElem?_set_ne (Ne.symm hj)]
          exact ⟨fun d h => h, fun d h => h, fun xs h => ⟨xs, h⟩, fun xs h => ⟨xs, h⟩, fun xs h => ⟨xs, h⟩, fun xs h => .inr ⟨fun k' i' z => (by cases z; exact hj), h⟩⟩
      · have e : putBack ρ1 es (some (k, i)) = ρ1 := putAt_not hb
        rw [e]
        refine ⟨fun d h => h, fun d h => h, fun xs h => ⟨xs, h⟩, fun xs h => ⟨xs, h⟩, fun xs h => ⟨xs, h⟩, fun xs h => ?_⟩
        refine .inr ⟨fun k' i' z hj => ?_, h⟩
        cases z
        subst hj
        -- it was lent, so it stands behind
        have hx0 : (as.map (Ar.en ρ1))[k]? = some (.bl xs) := by
          rw [List.getElem?_map, l1]
          show some (enSl ρ1[j]?) = _
          rcases h with h | h <;> (rw [h]; rfl)
        obtain ⟨⟨ys, hy⟩, _⟩ := S2.bk k xs hx0
        exact hb ⟨ys, hy⟩
  have own2 : ∀ (j : Nat), IsOwn (putBack ρ1 es o) j → IsOwn ρ1 j := fun j h => by
    rcases h with ⟨xs, h⟩ | ⟨xs, h⟩
    · exact .inl ((kinds j).2.2.1 xs h)
    · exact .inr ((kinds j).2.2.2.1 xs h)
  refine ⟨⟨⟨S2.rel.sub, fun j d h => ?_, fun j xs h => ?_, fun j ns h => ?_, fun i j p hi hj => R1.sep i j p (own2 i hi) (own2 j hj), ?_⟩, S1.ff.trans S2.ff, fun a u h n => S2.fr a u (S1.fr a u h n) (frame a u h n), fun p h => ?_, fun j xs h => ?_, fun j ys h => ?_, fun a h => ?_, ?_, fun a h => S1.dm a (S2.dm a h)⟩, fun p h => ?_⟩
  · obtain ⟨v, e, q⟩ := R1.fz j d ((kinds j).1 d h)
    exact ⟨v, e, dp_mono S2.ff d v q⟩
  · rcases (kinds j).2.2.2.2.2 xs h with ⟨k, i, ho, rfl, hy⟩ | ⟨hn, h⟩
    · subst ho
      obtain ⟨l1, l2⟩ := lent_some hl
      obtain ⟨v, av, bv⟩ := A.sl k j l1
      obtain ⟨p, ws, c1, c2⟩ := S2.rel.ls k xs (.inr hy)
      rw [vs_some, av] at c1
      cases c1
      exact ⟨p, ws, bv, c2⟩
    · obtain ⟨p, ws, c1, c2, c3, c4⟩ := R1.ls j xs h
      have hj : IsOwn ρ1 j := by
        rcases h with h | h
        · exact .inl ⟨xs, h⟩
        · exact .inr ⟨xs, h⟩
      obtain ⟨d1, d2⟩ := other j p ws hj c1 hn c2 c3
      exact ⟨p, ws, c1, d1, d2, dps_mono S2.ff xs ws c4⟩
  · obtain ⟨a, e, q⟩ := R1.sc j ns ((kinds j).2.1 ns h)
    exact ⟨a, e, sc_keep S2.ff q⟩
  · rw [← R1.ln]
    cases o with
    | none => rfl
    | some u =>
      obtain ⟨k, i⟩ := u
      exact putAt_len ρ1 i _
  · obtain ⟨j, xs, h1, h2⟩ := h
    obtain ⟨ys, h3⟩ := (kinds j).2.2.1 xs h1
    exact S1.oo p ⟨j, ys, h3, h2⟩
  · obtain ⟨⟨ys, h1⟩, h2⟩ := S1.bk j xs h
    exact ⟨(kinds j).2.2.2.2.1 ys h1, h2⟩
  · obtain ⟨zs, h1⟩ := (kinds j).2.2.2.1 ys h
    exact S1.kb j zs h1
  · rcases S2.nw a h with z | ⟨i, xs, z, _⟩ | z
    · exact S1.nw a z
    · exact absurd z (en_nol i xs)
    · exact .inr (.inr (S1.dm a z))
  · rw [← S1.ln]
    cases o with
    | none => rfl
    | some u =>
      obtain ⟨k, i⟩ := u
      exact putAt_len ρ1 i _
  · obtain ⟨j, h1, h2⟩ := own_ex h
    exact own_at (own2 j h1) h2
end
def dFn (den : Den) (f : Dn (List Ar)) : Dn Rv := bnd f fun as => apply den as
theorem spD_call {K : PySem.W.Frag} {mg : Str → Option Value} {E : XK} {n : Nat} {den : Den} {f : Dn (List Ar)} {sp : Sp} (hsp : ∀ vs H Q E, spD K mg n den vs H Q E → sp vs H Q E) (hn : ∀ ρ as ρ', f ρ = .ok (as, ρ') → as.length = n) (σ : St) (H : Hp) (Q : VK)
    (h : tE K mg E (dFn den f) σ H Q) : tAr K mg E f σ H fun vs H1 => sp vs H1 Q E := by
  obtain ⟨ρ, F, R, q⟩ := h
  have hlen : ∀ as ρ', f ρ = .ok (as, ρ') → as.length = n := fun as ρ' => hn ρ as ρ'
  have q' := out_bnd (K := K) (F := F) q
  refine ⟨ρ, F, R, ?_⟩
  cases ef : f ρ with
  | st => rw [ef] at q'; exact q'
  | ex e => rw [ef] at q'; exact q'
  | ok r =>
    obtain ⟨as, ρ1⟩ := r
    rw [ef] at q'
    have k : ∀ σ1 F1 H1, Stp K ρ σ F H ρ1 σ1 F1 H1 → Out mg E ρ1 σ1 H1 (apply den as ρ1) _ := q'
    intro vs F1 H1 S1 A
    have k2 := k σ F1 H1 S1
    unfold apply at k2
    cases hl : lent as with
    | none => rw [hl] at k2; exact (show False from k2).elim
    | some o =>
      rw [hl] at k2
      have Ra := arg_rel S1.rel A hl
      refine hsp _ _ _ _ ⟨by rw [A.ln]; exact hlen as ρ1 ef, as.map (Ar.en ρ1), F1, Ra, en_nol, ?_⟩
      cases hd : den (as.map (Ar.en ρ1)) with
      | st => rw [hd] at k2; exact k2
      | ex e =>
        rw [hd] at k2
        intro cls d H' xp
        cases ht : as.any Ar.isTp with
        | true =>
          simp only [ht] at k2
          exact (show False from k2).elim
        | false =>
        simp only [ht] at k2
        refine k2 cls d H' ⟨xp.cl, fun a u h nn => xp.fr a u h fun z => ?_, xp.dm, xp.ar⟩
        obtain ⟨kk, z1, z2⟩ := own_ex z
        rw [vs_some] at z2
        rcases arg_own S1.rel A z1 z2 with ⟨i, a1, a2, a3⟩ | ⟨a1, a2, a3⟩
        · exact nn (own_at a2 a3)
        · obtain ⟨xs, b⟩ := a1
          rw [List.any_eq_false] at ht
          exact ht _ (List.mem_of_getElem? b) rfl
      | ok r =>
        obtain ⟨rv, es⟩ := r
        rw [hd] at k2
        intro v F2 H2 S2 ro
        obtain ⟨S3, own3⟩ := call_stp S1 A hl S2
        refine k2 v F2 H2 S3 ?_
        cases rv with
        | fz d => exact ro
        | ol xs =>
          obtain ⟨p, ws, h1, h2, h3, h4, h5, h6⟩ := ro
          have hp1 : H1 p = none := by
            rcases h2 with ⟨i, ys, z, _⟩ | z
            · exact absurd z (en_nol i ys)
            · exact z
          refine ⟨p, ws, h1, .inr (S1.dm p hp1), h3, h4, h5, fun z => ?_⟩
          obtain ⟨⟨us, e⟩, _⟩ := S1.rel.own (own3 p z)
          rw [hp1] at e
          cases e
end Gx

/-! G6: loops and comprehensions. -/
namespace Gx
open PySem PySem.Spec L2
open PyProof.Rows hiding St

theorem Out.later {α : Type} {K : PySem.W.Frag} {mg : Str → Option Value} {E : XK} {ρ ρ1 : Ev} {σ σ1 : St} {F F1 H H1 : Hp} {m : Rs (α × Ev)} {P : α → Ev → Prop} (S : Stp K ρ σ F H ρ1 σ1 F1 H1) (h : Out mg E ρ σ H m P) : Out mg E ρ1 σ1 H1 m P := by
  cases m with
  | st => exact h
  | ex e => exact fun cls d H' xp => h cls d H' (xp.after S)
  | ok a => exact h
/-- what is walked: the items ds, safe over Fs -/
structure IOk (Fs : Hp) (J : It) (ds : List PyData) : Prop where
  go : ∀ (i : Nat) (H : Hp), i < ds.length → Same Fs H → J.go i H
  stop : ∀ (H : Hp), Same Fs H → J.stop ds.length H
  yld : ∀ (i : Nat) (H : Hp) (x : V) (H' F : Hp), i < ds.length → Same Fs F → Same F H → J.yld i H x H' → ∃ d F', ds[i]? = some d ∧ Grow F H F' H' ∧ Dq F' x d
def tI (K : PySem.W.Frag) (mg : Str → Option Value) (E : XK) (f : Dn (List PyData)) : TI := fun σ H R => ∃ ρ F, Rel K ρ σ F H ∧ Out mg E ρ σ H (f ρ) fun ds ρ' => ∀ J F' H', Stp K ρ σ F H ρ' σ F' H' → IOk F' J ds → R J H'
theorem drop_cons {α : Type} {l : List α} {i : Nat} {d : α} (h : l[i]? = some d) : l.drop i = d :: l.drop (i + 1) := by
  obtain ⟨hi, e⟩ := List.getElem?_eq_some_iff.mp h
  rw [List.drop_eq_getElem_cons hi, e]

/-! ### for -/
def loopF (h : PyData → Ev → Option Ev) (fb : Dn Fl) : List PyData → Dn Fl
  | [], ρ => .ok (.nx, ρ)
  | d :: ds, ρ => match h d ρ with
    | none => .st
    | some ρ1 => match fb ρ1 with
      | .st => .st
      | .ex e => .ex e
      | .ok (.nx, ρ2) => loopF h fb ds ρ2
      | .ok (.ct, ρ2) => loopF h fb ds ρ2
      | .ok (.bk, ρ2) => .ok (.nx, ρ2)
      | .ok (.rt r, ρ2) => .ok (.rt r, ρ2)
def sFor (fi : Dn (List PyData)) (h : PyData → Ev → Option Ev) (fb : Dn Fl) : Dn Fl := bnd fi fun ds => loopF h fb ds
section
variable {X : Cx} {E : XK} {pos : Pos}
theorem gs_for {tg iter : Expr} {body : List Stmt} {fi : Dn (List PyData)} {ts : List Nat} {h : PyData → Ev → Option Ev} {fb : Dn Fl} (hp : PassesOwn (model X.prog X.w) X.A X.env X.xe) (hc : X.calm = true) (hi : PI X tg iter (tI X.K X.mg E fi)) (hg : PG X tg (tGd X.K ts h)) (hb : PSs X body (tS X.K X.mg E fb))
    (hs : ∀ x, foldedSetIterable iter X.env x = pure x := by intro _; rfl) : PS X (.For tg iter body [] pos) (tS X.K X.mg E (sFor fi h fb)) :=
  ps_wk (ps_for hp hc hi hg hb hs) fun D σ H ⟨ρ, F, R, q⟩ => ⟨ρ, F, R, (out_bnd (K := X.K) (F := F) q).mono fun ds ρ1 k J F1 H1 S1 I => by
    refine ⟨fun i m σi Hi => m = ds.length - i ∧ i ≤ ds.length ∧ ∃ ρi Fi, Stp X.K ρ σ F H ρi σi Fi Hi ∧ Same F1 Fi ∧ Out X.mg E ρi σi Hi (loopF h fb (ds.drop i) ρi) (fun fl ρ' => match fl with
        | .nx => ∀ σ' F' H', Stp X.K ρ σ F H ρ' σ' F' H' → D.nx σ' H'
        | .bk => ∀ σ' F' H', Stp X.K ρ σ F H ρ' σ' F' H' → D.bk σ' H'
        | .ct => ∀ σ' F' H', Stp X.K ρ σ F H ρ' σ' F' H' → D.ct σ' H'
        | .rt r => ∀ σ' v F' H', Stp X.K ρ σ F H ρ' σ' F' H' → ROk ρ σ H ρ' σ' F' H' r v → D.rt v H'),
      ⟨ds.length, by simp, Nat.zero_le _, ρ1, F1, S1, Same.refl F1, k σ F1 H1 S1⟩, ?_⟩
    rintro i m σi Hi ⟨rfl, hi, ρi, Fi, Si, sm, o⟩
    by_cases hlt : i < ds.length
    · refine .inr ⟨I.go i Hi hlt (sm.trans Si.rel.sub), fun σ' H' => i + 1 ≤ ds.length ∧ ∃ ρ' F', Stp X.K ρ σ F H ρ' σ' F' H' ∧ Same F1 F' ∧ Out X.mg E ρ' σ' H' (loopF h fb (ds.drop (i + 1)) ρ') _, fun σ' H' ⟨hn, ρ', F', n1, n2, n3⟩ => ⟨ds.length - (i + 1), by omega, rfl, hn, ρ', F', n1, n2, n3⟩, fun x H' y => ?_⟩
      obtain ⟨d, F2, hd, gr, dq⟩ := I.yld i Hi x H' Fi hlt sm Si.rel.sub y
      have Sg := gr.stp Si.rel
      rw [drop_cons hd] at o
      unfold loopF at o
      cases e : h d ρi with
      | none => rw [e] at o; exact (show False from o).elim
      | some ρ2 =>
        rw [e] at o
        refine ⟨d, ρi, F2, ρ2, Sg.rel, dq, e, fun σ2 S2 _ => ⟨ρ2, F2, S2.rel, ?_⟩⟩
        have Sc := Sg.trans S2
        cases e2 : fb ρ2 with
        | st => simp only [e2] at o; exact (show False from o).elim
        | ex ex => simp only [e2] at o; exact fun cls dd H'' xp => o cls dd H'' (xp.after Sc)
        | ok r =>
          obtain ⟨fl, ρ3⟩ := r
          simp only [e2] at o
          cases fl with
          | nx => exact fun σ' F' H'' S' => ⟨hlt, ρ3, F', (Si.trans Sc).trans S', ((sm.trans gr.ff).trans S2.ff).trans S'.ff, o.later (Sc.trans S')⟩
          | ct => exact fun σ' F' H'' S' => ⟨hlt, ρ3, F', (Si.trans Sc).trans S', ((sm.trans gr.ff).trans S2.ff).trans S'.ff, o.later (Sc.trans S')⟩
          | bk =>
            have o' : ∀ σ' F' H', Stp X.K ρ σ F H ρ3 σ' F' H' → D.nx σ' H' := o
            exact fun σ' F' H'' S' => o' σ' F' H'' ((Si.trans Sc).trans S')
          | rt r =>
            have o' : ∀ σ' v F' H', Stp X.K ρ σ F H ρ3 σ' F' H' → ROk ρ σ H ρ3 σ' F' H' r v → D.rt v H' := o
            exact fun σ' v F' H'' S' ro => o' σ' v F' H'' ((Si.trans Sc).trans S') (ro.before (Si.trans Sc))
    · have e : i = ds.length := by omega
      subst e
      rw [List.drop_length] at o
      have o' : ∀ σ' F' H', Stp X.K ρ σ F H ρi σ' F' H' → D.nx σ' H' := o
      exact .inl ⟨I.stop Hi (sm.trans Si.rel.sub), o' σi Fi Hi Si⟩⟩
end

/-! ### a block's own names -/
def wipeE (ρ : Ev) : List Nat → Ev
  | [] => ρ
  | v :: vs => (wipeE ρ vs).set v .no
def restE (ρ0 ρ : Ev) (vs : List Nat) : Ev := ρ.mapIdx fun i e => if i ∈ vs then ρ0.getD i .no else e
theorem wipeE_len (ρ : Ev) : ∀ vs : List Nat, (wipeE ρ vs).length = ρ.length
  | [] => rfl
  | v :: vs => by unfold wipeE; rw [List.length_set, wipeE_len ρ vs]
theorem wipeE_get {ρ : Ev} {i : Nat} {e : En} (ne : e ≠ .no) : ∀ {vs : List Nat}, (wipeE ρ vs)[i]? = some e ↔ i ∉ vs ∧ ρ[i]? = some e
  | [] => by simp [wipeE]
  | v :: vs => by
    unfold wipeE
    constructor
    · intro h
      rcases set_get h with ⟨_, z⟩ | ⟨n, h⟩
      · exact absurd z ne
      · obtain ⟨h1, h2⟩ := (wipeE_get ne).mp h
        exact ⟨by simp only [List.mem_cons, not_or]; exact ⟨n, h1⟩, h2⟩
    · rintro ⟨h1, h2⟩
      simp only [List.mem_cons, not_or] at h1
      rw [List.getElem?_set_ne (Ne.symm h1.1)]
      exact (wipeE_get ne).mpr ⟨h1.2, h2⟩
theorem wipeE_twice {vs : List Nat} (ρ3 : Ev) : wipeE (wipeE ρ3 vs) vs = wipeE ρ3 vs := by
  apply List.ext_getElem?
  intro j
  have key : ∀ (τ : Ev) (e : En), e ≠ .no → ((wipeE (wipeE τ vs) vs)[j]? = some e ↔ (wipeE τ vs)[j]? = some e) := fun τ e ne => by
    rw [wipeE_get ne, wipeE_get ne]
    exact ⟨fun z => z.2, fun z => ⟨z.1, z⟩⟩
  cases e5 : (wipeE ρ3 vs)[j]? with
  | none =>
    have : (wipeE ρ3 vs).length ≤ j := List.getElem?_eq_none_iff.mp e5
    exact List.getElem?_eq_none (by rw [wipeE_len]; exact this)
  | some z =>
    by_cases hz : z = .no
    · cases e6 : (wipeE (wipeE ρ3 vs) vs)[j]? with
      | none =>
        have : (wipeE ρ3 vs).length ≤ j := by rw [← wipeE_len (wipeE ρ3 vs) vs]; exact List.getElem?_eq_none_iff.mp e6
        rw [List.getElem?_eq_none this] at e5
        cases e5
      | some y =>
        by_cases hy : y = .no
        · rw [hy, hz]
        · rw [(key ρ3 y hy).mp e6] at e5
          exact e5
    · exact (key ρ3 z hz).mpr e5
theorem wipeE_own {ρ : Ev} {vs : List Nat} {i : Nat} : IsOwn (wipeE ρ vs) i ↔ i ∉ vs ∧ IsOwn ρ i := by
  constructor
  · rintro (⟨xs, h⟩ | ⟨xs, h⟩)
    · obtain ⟨h1, h2⟩ := (wipeE_get (by intro z; cases z)).mp h
      exact ⟨h1, .inl ⟨xs, h2⟩⟩
    · obtain ⟨h1, h2⟩ := (wipeE_get (by intro z; cases z)).mp h
      exact ⟨h1, .inr ⟨xs, h2⟩⟩
  · rintro ⟨h1, ⟨xs, h⟩ | ⟨xs, h⟩⟩
    · exact .inl ⟨xs, (wipeE_get (by intro z; cases z)).mpr ⟨h1, h⟩⟩
    · exact .inr ⟨xs, (wipeE_get (by intro z; cases z)).mpr ⟨h1, h⟩⟩
theorem restE_get {ρ0 ρ : Ev} (hl : ρ.length = ρ0.length) {vs : List Nat} (i : Nat) : (restE ρ0 ρ vs)[i]? = if i ∈ vs then ρ0[i]? else ρ[i]? := by
  unfold restE
  rw [List.getElem?_mapIdx]
  by_cases h : i ∈ vs
  · rw [if_pos h]
    by_cases hi : i < ρ.length
    · rw [List.getElem?_eq_getElem hi]
      simp only [Option.map_some, if_pos h]
      rw [List.getD_eq_getElem?_getD, List.getElem?_eq_getElem (by omega)]
      rfl
    · rw [List.getElem?_eq_none (by omega), List.getElem?_eq_none (by omega)]
      rfl
  · rw [if_neg h]
    cases ρ[i]? with
    | none => rfl
    | some e => simp only [Option.map_some, if_neg h]
theorem σ_out {σ : St} {i : Nat} : ∀ {vs : List Nat}, i ∉ vs → (wipe σ vs)[i]? = σ[i]? := fun h => wipe_out h
theorem wipe_in {σ : St} {i : Nat} : ∀ {vs : List Nat}, i ∈ vs → (wipe σ vs)[i]? = (σ[i]?).map fun _ => none
  | [], h => by simp at h
  | v :: vs, h => by
    unfold wipe
    by_cases e : i = v
    · subst e
      by_cases hi : i < (wipe σ vs).length
      · rw [List.getElem?_set_self hi]
        rw [wipe_length] at hi
        rw [List.getElem?_eq_getElem hi]
        rfl
      · rw [List.getElem?_eq_none (by simpa using hi)]
        rw [wipe_length] at hi
        rw [List.getElem?_eq_none (by omega)]
        rfl
    · rw [List.getElem?_set_ne (Ne.symm e)]
      exact wipe_in (by simpa [e] using h)
/-- slots that differ in vs alone are wiped alike -/
theorem wipe_eq {σ τ : St} {vs : List Nat} (hl : σ.length = τ.length) (h : ∀ i, i ∉ vs → σ[i]? = τ[i]?) : wipe σ vs = wipe τ vs := by
  apply List.ext_getElem?
  intro i
  by_cases hi : i ∈ vs
  · rw [wipe_in hi, wipe_in hi]
    by_cases l : i < σ.length
    · rw [List.getElem?_eq_getElem l, List.getElem?_eq_getElem (by omega)]
      rfl
    · rw [List.getElem?_eq_none (by omega), List.getElem?_eq_none (by omega)]
  · rw [σ_out hi, σ_out hi]
    exact h i hi
section
variable {K : PySem.W.Frag} {ρ ρ1 ρ2 : Ev} {σ σ1 : St} {F F1 F2 H H1 H2 : Hp} {vs : List Nat}
theorem wipe_rel (R : Rel K ρ σ F H) : Rel K (wipeE ρ vs) (wipe σ vs) F H where
  sub := R.sub
  fz := fun i d h => by
    obtain ⟨n, h⟩ := (wipeE_get (by intro z; cases z)).mp h
    rw [σ_out n]
    exact R.fz i d h
  ls := fun i xs h => by
    have h' : i ∉ vs ∧ (ρ[i]? = some (.ol xs) ∨ ρ[i]? = some (.bl xs)) := by
      rcases h with h | h
      · obtain ⟨n, h⟩ := (wipeE_get (by intro z; cases z)).mp h
        exact ⟨n, .inl h⟩
      · obtain ⟨n, h⟩ := (wipeE_get (by intro z; cases z)).mp h
        exact ⟨n, .inr h⟩
    rw [σ_out h'.1]
    exact R.ls i xs h'.2
  sc := fun i ns h => by
    obtain ⟨n, h⟩ := (wipeE_get (by intro z; cases z)).mp h
    rw [σ_out n]
    exact R.sc i ns h
  sep := fun i j p hi hj e1 e2 => by
    obtain ⟨n1, o1⟩ := wipeE_own.mp hi
    obtain ⟨n2, o2⟩ := wipeE_own.mp hj
    rw [σ_out n1] at e1
    rw [σ_out n2] at e2
    exact R.sep i j p o1 o2 e1 e2
  ln := by rw [wipeE_len, wipe_length]; exact R.ln
theorem wipe_ownL {p : Addr} (h : OwnL (wipeE ρ vs) (wipe σ vs) p) : OwnL ρ σ p := by
  obtain ⟨i, xs, h1, h2⟩ := h
  obtain ⟨n, h1⟩ := (wipeE_get (by intro z; cases z)).mp h1
  rw [σ_out n] at h2
  exact ⟨i, xs, h1, h2⟩
theorem wipe_own {p : Addr} (h : Own (wipeE ρ vs) (wipe σ vs) p) : Own ρ σ p := by
  obtain ⟨i, h1, h2⟩ := own_ex h
  obtain ⟨n, h1⟩ := wipeE_own.mp h1
  rw [σ_out n] at h2
  exact own_at h1 h2
/-- behind a turn the block's own names are forgotten -/
theorem wipe_turn (S : Stp K (wipeE ρ vs) (wipe σ vs) F H ρ1 σ1 F1 H1) (e : wipe σ1 vs = wipe σ vs) : Stp K (wipeE ρ vs) (wipe σ vs) F H (wipeE ρ1 vs) (wipe σ vs) F1 H1 := by
  have nv : ∀ (i : Nat) (xs : List PyData), (wipeE ρ vs)[i]? = some (.bl xs) → i ∉ vs := fun i xs h => ((wipeE_get (by intro z; cases z)).mp h).1
  refine ⟨by rw [← e]; exact wipe_rel S.rel, S.ff, S.fr, fun p h => ?_, fun i xs h => ?_, fun i ys h => ?_, S.nw, by rw [wipeE_len]; exact S.ln, S.dm⟩
  · rw [← e] at h
    exact S.oo p (wipe_ownL h)
  · obtain ⟨⟨ys, h1⟩, _⟩ := S.bk i xs h
    exact ⟨⟨ys, (wipeE_get (by intro z; cases z)).mpr ⟨nv i xs h, h1⟩⟩, rfl⟩
  · exact S.kb i ys ((wipeE_get (by intro z; cases z)).mp h).2
/-- behind the block the names outside stand again -/
theorem unwipe (R : Rel K ρ σ F H) (nb : ∀ v ∈ vs, ∀ xs, ρ[v]? ≠ some (.bl xs)) (S : Stp K (wipeE ρ vs) (wipe σ vs) F H ρ1 (wipe σ vs) F1 H1) : Stp K ρ σ F H (restE ρ ρ1 vs) σ F1 H1 := by
  have hl : ρ1.length = ρ.length := by rw [S.ln, wipeE_len]
  have gi : ∀ {i : Nat}, i ∈ vs → (restE ρ ρ1 vs)[i]? = ρ[i]? := fun {i} h => by rw [restE_get hl, if_pos h]
  have go : ∀ {i : Nat}, i ∉ vs → (restE ρ ρ1 vs)[i]? = ρ1[i]? := fun {i} h => by rw [restE_get hl, if_neg h]
  have oi : ∀ {i : Nat}, i ∈ vs → IsOwn (restE ρ ρ1 vs) i → IsOwn ρ i := fun {i} h o => by
    unfold IsOwn at o ⊢
    rw [gi h] at o
    exact o
  have oo : ∀ {i : Nat}, i ∉ vs → IsOwn (restE ρ ρ1 vs) i → IsOwn ρ1 i := fun {i} h o => by
    unfold IsOwn at o ⊢
    rw [go h] at o
    exact o
  -- a list that was hidden
  have hid : ∀ {i : Nat} {p : Addr}, i ∈ vs → IsOwn ρ i → σ[i]? = some (some (.ref p)) → ¬ Own (wipeE ρ vs) (wipe σ vs) p := fun {i p} h o e z => by
    obtain ⟨j, z1, z2⟩ := own_ex z
    obtain ⟨n, z1⟩ := wipeE_own.mp z1
    rw [σ_out n] at z2
    exact n (by rw [← R.sep i j p o z1 e z2]; exact h)
  have apart : ∀ {i j : Nat} {p : Addr}, i ∈ vs → IsOwn ρ i → σ[i]? = some (some (.ref p)) → j ∉ vs → IsOwn ρ1 j → σ[j]? = some (some (.ref p)) → False := fun {i j p} h o e nj oj ej => by
    have z : Own ρ1 (wipe σ vs) p := own_at oj (by rw [σ_out nj]; exact ej)
    obtain ⟨⟨ws, hp⟩, _⟩ := R.own (own_at o e)
    exact S.nob hp (hid h o e) z
  refine ⟨⟨S.rel.sub, fun i d h => ?_, fun i xs h => ?_, fun i ns h => ?_, fun i j p hi hj e1 e2 => ?_, by unfold restE; rw [List.length_mapIdx, hl]; exact R.ln⟩, S.ff, fun a o h n => S.fr a o h fun z => n (wipe_own z), fun p h => ?_, fun i xs h => ?_, fun i ys h => ?_, fun a h => ?_, by unfold restE; rw [List.length_mapIdx, hl], S.dm⟩
  · by_cases hv : i ∈ vs
    · rw [gi hv] at h
      obtain ⟨v, e, q⟩ := R.fz i d h
      exact ⟨v, e, dp_mono S.ff d v q⟩
    · rw [go hv] at h
      obtain ⟨v, e, q⟩ := S.rel.fz i d h
      rw [σ_out hv] at e
      exact ⟨v, e, q⟩
  · by_cases hv : i ∈ vs
    · rw [gi hv] at h
      obtain ⟨p, ws, e, h2, h3, h4⟩ := R.ls i xs h
      have o : IsOwn ρ i := by
        rcases h with h | h
        · exact .inl ⟨xs, h⟩
        · exact .inr ⟨xs, h⟩
      have nh := hid hv o e
      refine ⟨p, ws, e, S.fr p _ h2 nh, ?_, dps_mono S.ff xs ws h4⟩
      cases q : F1 p with
      | none => rfl
      | some y =>
        rcases S.nw p (by rw [q]; intro z; cases z) with z | z | z
        · exact absurd h3 z
        · exact absurd (.inl z) nh
        · rw [h2] at z
          cases z
    · rw [go hv] at h
      obtain ⟨p, ws, e, r⟩ := S.rel.ls i xs h
      rw [σ_out hv] at e
      exact ⟨p, ws, e, r⟩
  · by_cases hv : i ∈ vs
    · rw [gi hv] at h
      obtain ⟨a, e, q⟩ := R.sc i ns h
      exact ⟨a, e, sc_keep S.ff q⟩
    · rw [go hv] at h
      obtain ⟨a, e, q⟩ := S.rel.sc i ns h
      rw [σ_out hv] at e
      exact ⟨a, e, q⟩
  · by_cases hv : i ∈ vs
    · by_cases hw : j ∈ vs
      · exact R.sep i j p (oi hv hi) (oi hw hj) e1 e2
      · exact (apart hv (oi hv hi) e1 hw (oo hw hj) e2).elim
    · by_cases hw : j ∈ vs
      · exact (apart hw (oi hw hj) e2 hv (oo hv hi) e1).elim
      · exact S.rel.sep i j p (oo hv hi) (oo hw hj) (by rw [σ_out hv]; exact e1) (by rw [σ_out hw]; exact e2)
  · obtain ⟨i, xs, h1, h2⟩ := h
    by_cases hv : i ∈ vs
    · rw [gi hv] at h1
      exact .inl ⟨i, xs, h1, h2⟩
    · rw [go hv] at h1
      rcases S.oo p ⟨i, xs, h1, by rw [σ_out hv]; exact h2⟩ with z | z
      · exact .inl (wipe_ownL z)
      · exact .inr z
  · have hv : i ∉ vs := fun z => nb i z xs h
    obtain ⟨⟨ys, h1⟩, _⟩ := S.bk i xs ((wipeE_get (by intro z; cases z)).mpr ⟨hv, h⟩)
    exact ⟨⟨ys, by rw [go hv]; exact h1⟩, rfl⟩
  · by_cases hv : i ∈ vs
    · rw [gi hv] at h
      exact ⟨ys, h⟩
    · rw [go hv] at h
      obtain ⟨xs, h1⟩ := S.kb i ys h
      exact ⟨xs, ((wipeE_get (by intro z; cases z)).mp h1).2⟩
  · rcases S.nw a h with z | z | z
    · exact .inl z
    · exact .inr (.inl (wipe_ownL z))
    · exact .inr (.inr z)
/-- a list of nobody is changed -/
theorem upd_stp {D : Addr} {o : HO} (S : Stp K ρ σ F H ρ1 σ1 F1 H1) (h1 : H D = none) (h2 : F1 D = none) (h3 : ¬ Own ρ1 σ1 D) : Stp K ρ σ F H ρ1 σ1 F1 (upd H1 D o) where
  rel := ⟨fun b x e => by
      rw [upd_ne (fun z => by rw [z, h2] at e; cases e)]
      exact S.rel.sub b x e, S.rel.fz, fun i xs h => by
      obtain ⟨p, ws, e, q, r⟩ := S.rel.ls i xs h
      have oi : IsOwn ρ1 i := by
        rcases h with h | h
        · exact .inl ⟨xs, h⟩
        · exact .inr ⟨xs, h⟩
      have ne : p ≠ D := fun z => h3 (by rw [← z]; exact own_at oi e)
      exact ⟨p, ws, e, by rw [upd_ne ne]; exact q, r⟩, S.rel.sc, S.rel.sep, S.rel.ln⟩
  ff := S.ff
  fr := fun a o' h n => by
    rw [upd_ne (ne_of_none h h1)]
    exact S.fr a o' h n
  oo := S.oo
  bk := S.bk
  kb := S.kb
  nw := S.nw
  ln := S.ln
  dm := fun a h => by
    by_cases z : a = D
    · rw [z]; exact h1
    · rw [upd_ne z] at h
      exact S.dm a h
/-- nobody's list, a step later -/
theorem keep_nob {p : Addr} {ws : List V} (S : Stp K ρ σ F H ρ1 σ1 F1 H1) (h2 : H p = some (.lst ws)) (h3 : F p = none) (h5 : ¬ Own ρ σ p) : H1 p = some (.lst ws) ∧ F1 p = none ∧ ¬ Own ρ1 σ1 p := by
  refine ⟨S.fr p _ h2 h5, ?_, S.nob h2 h5⟩
  cases e : F1 p with
  | none => rfl
  | some o =>
    rcases S.nw p (by rw [e]; intro z; cases z) with z | z | z
    · exact absurd h3 z
    · exact absurd (.inl z) h5
    · rw [h2] at z
      cases z
end

/-! ### [elt for target in iter if test] -/
def compL (h : PyData → Ev → Option Ev) (ft : Dn Bool) (fe : Dn PyData) (vs : List Nat) : List PyData → List PyData → Dn (List PyData)
  | [], acc, ρ => .ok (acc, ρ)
  | d :: ds, acc, ρ => match h d ρ with
    | none => .st
    | some ρ1 => match ft ρ1 with
      | .ok (true, ρ2) => match fe ρ2 with
        | .ok (y, ρ3) => if okLen (acc.length + 1) then compL h ft fe vs ds (acc ++ [y]) (wipeE ρ3 vs) else .st
        | _ => .st
      | .ok (false, ρ2) => compL h ft fe vs ds acc (wipeE ρ2 vs)
      | _ => .st
def dComp (fi : Dn (List PyData)) (h : PyData → Ev → Option Ev) (ft : Dn Bool) (fe : Dn PyData) (vs : List Nat) : Dn Rv := bnd fi fun ds => fun ρ => if vs.all (fun v => !isBl ρ[v]?) then match compL h ft fe vs ds [] (wipeE ρ vs) with
  | .ok (ys, ρ2) => .ok (.ol ys, restE ρ ρ2 vs)
  | _ => .st
  else .st
theorem E0_out {α : Type} {K : PySem.W.Frag} {mg : Str → Option Value} {ρ : Ev} {σ : St} {H : Hp} {a : α} {ρ' : Ev} {m : Rs (α × Ev)} {P : α → Ev → Prop} (e : m = .ok (a, ρ')) (h : P a ρ') : Out mg E0 ρ σ H m P := by rw [e]; exact h
theorem lc_wk {K : PySem.W.Frag} {mg : Str → Option Value} {E : XK} {fi : Dn (List PyData)} {ts : List Nat} {h : PyData → Ev → Option Ev} {ft : Dn Bool} {fe : Dn PyData} {vs : List Nat} (hts : ∀ i ∈ ts, i ∈ vs) (σ : St) (H : Hp) (Q : VK) (q : tE K mg E (dComp fi h ft fe vs) σ H Q) :
    tLc (tI K mg E fi) (tGd K ts h) (tT K mg E0 ft) (tD K mg E0 fe) vs σ H Q := by
  obtain ⟨ρ, F, R, q⟩ := q
  refine ⟨ρ, F, R, (out_bnd (K := K) (F := F) q).mono fun ds ρ1 k J F1 H1 S1 I D hD => ?_⟩
  have k2 := k σ F1 H1 S1
  by_cases hall : vs.all (fun v => !isBl ρ1[v]?) = true
  · rw [if_pos hall] at k2
    have nb : ∀ v ∈ vs, ∀ xs, ρ1[v]? ≠ some (.bl xs) := fun v hv xs z => by
      have := List.all_eq_true.mp hall v hv
      rw [z] at this
      cases this
    -- what the loop comes to
    cases ec : compL h ft fe vs ds [] (wipeE ρ1 vs) with
    | st => rw [ec] at k2; exact (show False from k2).elim
    | ex x => rw [ec] at k2; exact (show False from k2).elim
    | ok r =>
      obtain ⟨ys, ρf⟩ := r
      rw [ec] at k2
      have k3 : ∀ v F' H', Stp K ρ σ F H (restE ρ1 ρf vs) σ F' H' → ROk ρ σ H (restE ρ1 ρf vs) σ F' H' (.ol ys) v → Q v H' := k2
      refine ⟨fun i m Hi => m = ds.length - i ∧ i ≤ ds.length ∧ ∃ ρi Fi vacc acc, Stp K (wipeE ρ1 vs) (wipe σ vs) F1 H1 ρi (wipe σ vs) Fi Hi ∧ Hi D = some (.lst vacc) ∧ Fi D = none ∧ ¬ Own ρi (wipe σ vs) D ∧ DqAll Fi vacc acc ∧ wipeE ρi vs = ρi ∧ compL h ft fe vs (ds.drop i) acc ρi = .ok (ys, ρf),
        ⟨ds.length, by simp, Nat.zero_le _, wipeE ρ1 vs, F1, [], [], ?_, upd_same, S1.rel.sub.free hD, ?_, .nil, ?_, by simpa using ec⟩, ?_⟩
      · exact (Grow.own S1.rel.sub hD).stp (wipe_rel S1.rel)
      · intro z
        obtain ⟨⟨ws, e⟩, _⟩ := S1.rel.own (wipe_own z)
        rw [hD] at e
        cases e
      · exact wipeE_twice ρ1
      · rintro i m Hi ⟨rfl, hi, ρi, Fi, vacc, acc, Si, d1, d2, d3, d4, hwi, o⟩
        by_cases hlt : i < ds.length
        · refine .inr ⟨I.go i Hi hlt (Si.ff.trans Si.rel.sub), fun H' => i + 1 ≤ ds.length ∧ ∃ ρ' F' vacc acc, Stp K (wipeE ρ1 vs) (wipe σ vs) F1 H1 ρ' (wipe σ vs) F' H' ∧ H' D = some (.lst vacc) ∧ F' D = none ∧ ¬ Own ρ' (wipe σ vs) D ∧ DqAll F' vacc acc ∧ wipeE ρ' vs = ρ' ∧ compL h ft fe vs (ds.drop (i + 1)) acc ρ' = .ok (ys, ρf),
            fun H' ⟨hn, z⟩ => ⟨ds.length - (i + 1), by omega, rfl, hn, z⟩, fun x H' y => ?_⟩
          obtain ⟨d, F2, hd, gr, dq⟩ := I.yld i Hi x H' Fi hlt Si.ff Si.rel.sub y
          have Sg := gr.stp Si.rel
          rw [drop_cons hd] at o
          unfold compL at o
          cases e1 : h d ρi with
          | none => rw [e1] at o; cases o
          | some ρ2 =>
            simp only [e1] at o
            refine ⟨d, ρi, F2, ρ2, Sg.rel, dq, e1, fun σ2 S2 k2' => ?_⟩
            have hl2 : σ2.length = (wipe σ vs).length := by
              rw [← S2.rel.ln, S2.ln, Sg.rel.ln]
            have hw : wipe σ2 vs = wipe σ vs := by
              rw [wipe_eq (τ := wipe σ vs) hl2 fun j hj => k2' j fun z => hj (hts j z)]
              exact wipe_eq (wipe_length σ vs) fun j hj => σ_out hj
            refine ⟨hw, ρ2, F2, S2.rel, ?_⟩
            have Sc := (Si.trans Sg).trans S2
            obtain ⟨a1, a2, a3⟩ := keep_nob (Sg.trans S2) d1 d2 d3
            have wide : ∀ {ρ3 : Ev} {F3 H3 : Hp}, Stp K (wipeE ρ1 vs) (wipe σ vs) F1 H1 ρ3 σ2 F3 H3 → Stp K (wipeE ρ1 vs) (wipe σ vs) F1 H1 (wipeE ρ3 vs) (wipe σ vs) F3 H3 := fun S => wipe_turn S hw
            have nown : ∀ {ρ3 : Ev}, ¬ Own ρ3 σ2 D → ¬ Own (wipeE ρ3 vs) (wipe σ vs) D := fun n z => n (by rw [← hw] at z; exact wipe_own z)
            cases e2 : ft ρ2 with
            | st => simp only [e2] at o; cases o
            | ex x => simp only [e2] at o; cases o
            | ok r =>
              obtain ⟨b, ρ3⟩ := r
              show ∀ F' H'', Stp K ρ2 σ2 F2 H' ρ3 σ2 F' H'' → _
              intro F3 H3 S3
              obtain ⟨b1, b2, b3⟩ := keep_nob S3 a1 a2 a3
              cases b with
              | false =>
                simp only [e2] at o
                refine iteF ⟨hlt, wipeE ρ3 vs, F3, vacc, acc, wide (Sc.trans S3), b1, b2, nown b3, dps_mono ((gr.ff.trans S2.ff).trans S3.ff) _ _ d4, wipeE_twice ρ3, o⟩
              | true =>
                simp only [e2] at o
                refine iteT ⟨ρ3, F3, S3.rel, ?_⟩
                cases e3 : fe ρ3 with
                | st => simp only [e3] at o; cases o
                | ex x => simp only [e3] at o; cases o
                | ok r =>
                  obtain ⟨yd, ρ4⟩ := r
                  simp only [e3] at o
                  show ∀ v F' H'', Stp K ρ3 σ2 F3 H3 ρ4 σ2 F' H'' → _
                  intro v F4 H4 S4 dv
                  obtain ⟨c1, c2, c3⟩ := keep_nob S4 b1 b2 b3
                  by_cases hlen : okLen (acc.length + 1) = true
                  · rw [if_pos hlen] at o
                    have dacc := dps_mono (((gr.ff.trans S2.ff).trans S3.ff).trans S4.ff) _ _ d4
                    have el := dps_len dacc
                    refine ⟨vacc, c1, ?_, hlt, wipeE ρ4 vs, F4, vacc ++ [v], acc ++ [yd], upd_stp (wide ((Sc.trans S3).trans S4)) hD c2 (nown c3), upd_same, c2, nown c3, dps_app dacc (dps_one dv), wipeE_twice ρ4, o⟩
                    rw [el]
                    exact okLen_le hlen
                  · rw [if_neg hlen] at o
                    cases o
        · have e : i = ds.length := by omega
          subst e
          rw [List.drop_length] at o
          unfold compL at o
          cases o
          refine .inl ⟨I.stop Hi (Si.ff.trans Si.rel.sub), ?_⟩
          have Su := unwipe S1.rel nb Si
          refine k3 _ Fi Hi (S1.trans Su) ⟨D, vacc, rfl, .inr (S1.dm D hD), d1, d2, d4, fun z => ?_⟩
          rcases z with z | z
          · obtain ⟨j, xs, z1, z2⟩ := z
            rw [restE_get (by rw [Si.ln, wipeE_len])] at z1
            by_cases hv : j ∈ vs
            · rw [if_pos hv] at z1
              obtain ⟨⟨ws, e⟩, _⟩ := S1.rel.own (.inl ⟨j, xs, z1, z2⟩)
              rw [hD] at e
              cases e
            · rw [if_neg hv] at z1
              exact d3 (.inl ⟨j, xs, z1, by rw [σ_out hv]; exact z2⟩)
          · obtain ⟨⟨ws, e⟩, _⟩ := S1.rel.own (.inr (Su.ob z))
            rw [hD] at e
            cases e
  · rw [if_neg hall] at k2
    exact (show False from k2).elim
end Gx

/-! G7: what is walked; comprehensions; calls; lists changed in place. -/
namespace Gx
open PySem PySem.Spec L2
open PyProof.Rows hiding St

section
variable {X : Cx} {E : XK} {pos : Pos}
theorem pi_wk {X : Cx} {tg iter : Expr} {t t' : TI} (h : PI X tg iter t) (w : ∀ σ H R, t' σ H R → t σ H R) : PI X tg iter t' := ⟨fun pins s σ H R I q => h.run pins s σ H R I (w σ H R q)⟩
def seqOf : PyData → Option (List PyData)
  | .list xs => some xs
  | .tuple xs => some xs
  | _ => none
theorem iok_list {K : PySem.W.Frag} {F : Hp} {a : Addr} {vs : List V} {ds : List PyData} (ha : F a = some (.lst vs)) (h : DqAll F vs ds) : IOk F (Itl K a) ds where
  go := fun i H hi s => ⟨vs, vs[i]'(by rw [dps_len h]; exact hi), .of (s _ _ ha), List.getElem?_eq_getElem _⟩
  stop := fun H s => ⟨vs, .of (s _ _ ha), Nat.le_of_eq (dps_len h)⟩
  yld := fun i H x H' G hi s1 s2 y => by
    obtain ⟨e, y⟩ := y
    subst e
    obtain ⟨v, e1, e2⟩ := dps_get h (List.getElem?_eq_getElem hi)
    have e3 := y vs (.of (s2 _ _ (s1 _ _ ha)))
    rw [e1] at e3
    cases e3
    exact ⟨_, G, List.getElem?_eq_getElem hi, Grow.refl s2, dp_mono s1 _ _ e2⟩
theorem iok_tup {K : PySem.W.Frag} {F : Hp} {a : Addr} {vs : List V} {ds : List PyData} (ha : F a = some (.tup vs)) (h : DqAll F vs ds) : IOk F (Itt K a) ds where
  go := fun i H hi s => ⟨vs, vs[i]'(by rw [dps_len h]; exact hi), .of (s _ _ ha), List.getElem?_eq_getElem _⟩
  stop := fun H s => ⟨vs, .of (s _ _ ha), Nat.le_of_eq (dps_len h)⟩
  yld := fun i H x H' G hi s1 s2 y => by
    obtain ⟨e, y⟩ := y
    subst e
    obtain ⟨v, e1, e2⟩ := dps_get h (List.getElem?_eq_getElem hi)
    have e3 := y vs (.of (s2 _ _ (s1 _ _ ha)))
    rw [e1] at e3
    cases e3
    exact ⟨_, G, List.getElem?_eq_getElem hi, Grow.refl s2, dp_mono s1 _ _ e2⟩
def iSeq (f : Dn PyData) : Dn (List PyData) := bnd f fun d => lft (seqOf d)
/-- a list or a tuple is walked -/
theorem gi_seq {tg e : Expr} {f : Dn PyData} (he : PE X e (tD X.K X.mg E f)) : PI X tg e (tI X.K X.mg E (iSeq f)) := by
  refine ⟨fun pins s σ H R I ⟨ρ, F, Rl, q⟩ => ?_⟩
  have reading : tD X.K X.mg E f σ H (fun v H1 => ∃ a, v = .ref a ∧ (((∃ xs, SqL X.K H1 a xs) ∧ R (Itl X.K a) H1) ∨ ((∃ xs, SqT X.K H1 a xs) ∧ R (Itt X.K a) H1))) := by
    refine ⟨ρ, F, Rl, (out_bnd (K := X.K) (F := F) q).mono fun d ρ1 k v F1 H1 S1 dq => ?_⟩
    obtain ⟨ds, hd, q2⟩ := out_lft (k _ _ _ S1)
    cases dq with
    | @lst a vs xs ha hx =>
      cases hd
      exact ⟨a, rfl, .inl ⟨⟨vs, .of (S1.rel.sub _ _ ha)⟩, q2 _ F1 H1 S1 (iok_list ha hx)⟩⟩
    | @tup a vs xs ha hx =>
      cases hd
      exact ⟨a, rfl, .inr ⟨⟨vs, .of (S1.rel.sub _ _ ha)⟩, q2 _ F1 H1 S1 (iok_tup ha hx)⟩⟩
    | _ => cases hd
  refine thn (he.run pins s σ H _ I reading) ?_
  rintro v s1 ⟨x, H1, I1, r1, a, rfl, both⟩
  cases r1
  have fresh := I1.hok.fresh (Nat.le_refl _)
  rcases both with ⟨⟨xs, hq⟩, qq⟩ | ⟨⟨xs, hq⟩, qq⟩
  · obtain ⟨its, _, pl, _⟩ := I1.list hq
    refine wpAny_pyIter_list pl.isList ⟨_, [_], _, Itl X.K a, H1, rfl, I1.kept (t' := s1.toks) fun b o e => Heap.get?_push_of_some _ e, turn_list a s1.heap.objs.size, ⟨_, Heap.get?_push_size _ rfl, rfl, rfl⟩, fun b hb => ?_, qq⟩
    rw [List.mem_singleton.mp hb]
    exact I1.fpOk (Nat.le_refl _) fresh
  · obtain ⟨its, _, pl, _⟩ := I1.tuple hq
    refine wpAny_pyIter_tuple (show s1.heap.IsTuple a its.toArray from pl) ⟨_, [_], _, Itt X.K a, H1, rfl, I1.kept (t' := s1.toks) fun b o e => Heap.get?_push_of_some _ e, turn_tuple a s1.heap.objs.size, ⟨_, Heap.get?_push_size _ rfl, rfl, rfl⟩, fun b hb => ?_, qq⟩
    rw [List.mem_singleton.mp hb]
    exact I1.fpOk (Nat.le_refl _) fresh
def rgD (lo : Int) (n : Nat) : List PyData := (List.range n).map fun i => .int (lo + (i : Nat))
theorem iok_range {F : Hp} {lo : Int} {n : Nat} : IOk F (Itr lo n) (rgD lo n) where
  go := fun i H hi _ => by
    show i < n
    simpa [rgD] using hi
  stop := fun H _ => by show n ≤ (rgD lo n).length; simp [rgD]
  yld := fun i H x H' G hi s1 s2 y => by
    obtain ⟨e, y⟩ := y
    subst e y
    have hn : i < n := by simpa [rgD] using hi
    exact ⟨_, G, by simp [rgD, hn], Grow.refl s2, .int _⟩
def small62 (i : Int) : Bool := decide (-4611686018427387904 ≤ i) && decide (i < 4611686018427387904)
theorem small62_ok {i : Int} (h : small62 i = true) : -(2 ^ 62) ≤ i ∧ i < 2 ^ 62 := by
  unfold small62 at h
  rw [Bool.and_eq_true, decide_eq_true_eq, decide_eq_true_eq] at h
  omega
def rg1 : List PyData → Option (List PyData)
  | [.int j] => if small62 j then some (rgD 0 j.toNat) else none
  | _ => none
def rg2 : List PyData → Option (List PyData)
  | [.int i, .int j] => if small62 i && small62 j then some (rgD i (j - i).toNat) else none
  | _ => none
def iRg1 (f : Dn (List PyData)) : Dn (List PyData) := bnd f fun ds => lft (rg1 ds)
def iRg2 (f : Dn (List PyData)) : Dn (List PyData) := bnd f fun ds => lft (rg2 ds)
theorem gi_range1 {tg a : Expr} {p : Pos} {f : Dn (List PyData)} (hg : Gl X "range") (hm : X.mg "range" = none) (ha : PA X [a] (tDs X.K X.mg E f)) (hs : starEach [a] X.env = [(false, eval a X.env)] := by rfl) : PI X tg (.Call (.Name "range" p) [a] [] pos) (tI X.K X.mg E (iRg1 f)) :=
  pi_wk (pi_range1 hg hm ha hs) fun σ H R ⟨ρ, F, Rl, q⟩ => ⟨ρ, F, Rl, (out_bnd (K := X.K) (F := F) q).mono fun ds ρ1 k vs F1 H1 S1 d1 => by
    obtain ⟨es, he, q2⟩ := out_lft (k _ _ _ S1)
    cases d1 with
    | nil => cases he
    | @cons v vs d ds h1 h2 =>
      cases h2 with
      | cons _ _ => cases d <;> cases he
      | nil =>
        cases h1 with
        | int j =>
          have he' : (if small62 j = true then some (rgD 0 j.toNat) else none) = some es := he
          by_cases hj : small62 j = true
          · rw [if_pos hj] at he'
            cases he'
            obtain ⟨b1, b2⟩ := small62_ok hj
            exact ⟨j, rfl, b1, b2, q2 _ F1 H1 S1 iok_range⟩
          · rw [if_neg hj] at he'
            cases he'
        | _ => cases he⟩
theorem gi_range2 {tg a b : Expr} {p : Pos} {f : Dn (List PyData)} (hg : Gl X "range") (hm : X.mg "range" = none) (ha : PA X [a, b] (tDs X.K X.mg E f)) (hs : starEach [a, b] X.env = [(false, eval a X.env), (false, eval b X.env)] := by rfl)
    (hs2 : starEach [b] X.env = [(false, eval b X.env)] := by rfl) : PI X tg (.Call (.Name "range" p) [a, b] [] pos) (tI X.K X.mg E (iRg2 f)) :=
  pi_wk (pi_range2 hg hm ha hs hs2) fun σ H R ⟨ρ, F, Rl, q⟩ => ⟨ρ, F, Rl, (out_bnd (K := X.K) (F := F) q).mono fun ds ρ1 k vs F1 H1 S1 d1 => by
    obtain ⟨es, he, q2⟩ := out_lft (k _ _ _ S1)
    cases d1 with
    | nil => cases he
    | @cons v vs d ds h1 h2 =>
      cases h2 with
      | nil => cases d <;> cases he
      | @cons v2 vs2 d2 ds2 h3 h4 =>
        cases h4 with
        | cons _ _ => cases d <;> cases d2 <;> cases he
        | nil =>
          cases h1 with
          | int i =>
            cases h3 with
            | int j =>
              have he' : (if (small62 i && small62 j) = true then some (rgD i (j - i).toNat) else none) = some es := he
              by_cases hj : (small62 i && small62 j) = true
              · rw [if_pos hj] at he'
                cases he'
                rw [Bool.and_eq_true] at hj
                obtain ⟨b1, b2⟩ := small62_ok hj.1
                obtain ⟨b3, b4⟩ := small62_ok hj.2
                exact ⟨i, j, rfl, ⟨b1, b2, b3, b4⟩, q2 _ F1 H1 S1 iok_range⟩
              · rw [if_neg hj] at he'
                cases he'
            | _ => cases he
          | _ => cases he⟩
/-- enumerate of a list -/
def enumD (n : Nat) : List PyData → List PyData
  | [] => []
  | x :: xs => .tuple [.int (n : Nat), x] :: enumD (n + 1) xs
theorem enumD_len : ∀ (xs : List PyData) (n : Nat), (enumD n xs).length = xs.length
  | [], _ => rfl
  | x :: xs, n => by simp [enumD, enumD_len xs]
theorem enumD_get : ∀ (xs : List PyData) (n i : Nat) (x : PyData), xs[i]? = some x → (enumD n xs)[i]? = some (.tuple [.int ((n + i : Nat) : Int), x])
  | [], _, _, _, h => by simp at h
  | y :: xs, n, 0, x, h => by simp at h; subst h; simp [enumD]
  | y :: xs, n, i + 1, x, h => by
    have ih := enumD_get xs (n + 1) i x (by simpa using h)
    have e : n + 1 + i = n + (i + 1) := by omega
    rw [e] at ih
    simpa [enumD] using ih
theorem iok_enum {K : PySem.W.Frag} {F : Hp} {a : Addr} {vs : List V} {ds : List PyData} (ha : F a = some (.lst vs)) (h : DqAll F vs ds) : IOk F (Ite K a) (enumD 0 ds) where
  go := fun i H hi s => by
    rw [enumD_len] at hi
    exact ⟨vs, vs[i]'(by rw [dps_len h]; exact hi), .of (s _ _ ha), List.getElem?_eq_getElem _⟩
  stop := fun H s => ⟨vs, .of (s _ _ ha), by rw [enumD_len, dps_len h]; exact Nat.le_refl _⟩
  yld := fun i H x H' G hi s1 s2 y => by
    rw [enumD_len] at hi
    obtain ⟨T, u, e, nT, e', y⟩ := y
    subst e e'
    obtain ⟨v, e1, e2⟩ := dps_get h (List.getElem?_eq_getElem hi)
    have e3 := y vs (.of (s2 _ _ (s1 _ _ ha)))
    rw [e1] at e3
    have e4 : v = u := Option.some.inj e3
    subst e4
    have g := Grow.new (o := .tup [.int (i : Nat), v]) s2 nT
    refine ⟨_, _, enumD_get ds 0 i _ (List.getElem?_eq_getElem hi), g, .tup upd_same (.cons ?_ (.cons (dp_mono g.ff _ _ (dp_mono s1 _ _ e2)) .nil))⟩
    rw [Nat.zero_add]
    exact .int _
def enumOf : List PyData → Option (List PyData)
  | [.list xs] => some (enumD 0 xs)
  | _ => none
def iEn (f : Dn (List PyData)) : Dn (List PyData) := bnd f fun ds => lft (enumOf ds)
theorem gi_enum {e : Expr} {p tpos : Pos} {elts : List Expr} {kk : Nat} {f : Dn (List PyData)} (hg : Gl X "enumerate") (hm : X.mg "enumerate" = none) (ha : PA X [e] (tDs X.K X.mg E f)) (hs : starEach [e] X.env = [(false, eval e X.env)] := by rfl) :
    PI X (.Tuple elts kk tpos) (.Call (.Name "enumerate" p) [e] [] pos) (tI X.K X.mg E (iEn f)) :=
  pi_wk (pi_enum hg hm ha hs) fun σ H R ⟨ρ, F, Rl, q⟩ => ⟨ρ, F, Rl, (out_bnd (K := X.K) (F := F) q).mono fun ds ρ1 k vs F1 H1 S1 d1 => by
    obtain ⟨es, he, q2⟩ := out_lft (k _ _ _ S1)
    cases d1 with
    | nil => cases he
    | @cons v vs d ds h1 h2 =>
      cases h2 with
      | cons _ _ => cases d <;> cases he
      | nil =>
        cases h1 with
        | @lst a us xs ha hx =>
          cases he
          exact ⟨a, us, rfl, .of (S1.rel.sub _ _ ha), q2 _ F1 H1 S1 (iok_enum ha hx)⟩
        | _ => cases he⟩
/-- zip of two lists, of two tuples -/
def zipD : List PyData → List PyData → List PyData
  | x :: xs, y :: ys => .tuple [x, y] :: zipD xs ys
  | _, _ => []
theorem zipD_get : ∀ (xs ys : List PyData) (i : Nat) (x y : PyData), xs[i]? = some x → ys[i]? = some y → (zipD xs ys)[i]? = some (.tuple [x, y])
  | [], _, _, _, _, h, _ => by simp at h
  | _ :: _, [], _, _, _, _, h => by simp at h
  | a :: xs, b :: ys, 0, x, y, h1, h2 => by simp at h1 h2; subst h1 h2; rfl
  | a :: xs, b :: ys, i + 1, x, y, h1, h2 => by
    have ih := zipD_get xs ys i x y (by simpa using h1) (by simpa using h2)
    simpa [zipD] using ih
theorem zipD_len : ∀ (xs ys : List PyData), (zipD xs ys).length = min xs.length ys.length
  | [], _ => by simp [zipD]
  | _ :: _, [] => by simp [zipD]
  | a :: xs, b :: ys => by simp [zipD, zipD_len xs ys]
theorem iok_zipL {K : PySem.W.Frag} {F : Hp} {a b : Addr} {vs us : List V} {ds es : List PyData} (ha : F a = some (.lst vs)) (h : DqAll F vs ds) (hb : F b = some (.lst us)) (k : DqAll F us es) : IOk F (Itz K a b) (zipD ds es) where
  go := fun i H hi s => by
    rw [zipD_len] at hi
    have l1 : i < vs.length := by rw [dps_len h]; omega
    have l2 : i < us.length := by rw [dps_len k]; omega
    exact ⟨vs, us, vs[i], us[i], .of (s _ _ ha), .of (s _ _ hb), List.getElem?_eq_getElem l1, List.getElem?_eq_getElem l2⟩
  stop := fun H s => ⟨vs, us, .of (s _ _ ha), .of (s _ _ hb), by rw [zipD_len, dps_len h, dps_len k]; omega⟩
  yld := fun i H x H' G hi s1 s2 y => by
    rw [zipD_len] at hi
    obtain ⟨T, x1, x2, e, nT, e', y1, y2⟩ := y
    subst e e'
    have l1 : i < ds.length := by omega
    have l2 : i < es.length := by omega
    obtain ⟨v, e1, e2⟩ := dps_get h (List.getElem?_eq_getElem l1)
    obtain ⟨w, e3, e4⟩ := dps_get k (List.getElem?_eq_getElem l2)
    have e5 := y1 vs (.of (s2 _ _ (s1 _ _ ha)))
    have e6 := y2 us (.of (s2 _ _ (s1 _ _ hb)))
    rw [e1] at e5
    rw [e3] at e6
    have e7 : v = x1 := Option.some.inj e5
    have e8 : w = x2 := Option.some.inj e6
    subst e7 e8
    have g := Grow.new (o := .tup [v, w]) s2 nT
    exact ⟨_, _, zipD_get ds es i _ _ (List.getElem?_eq_getElem l1) (List.getElem?_eq_getElem l2), g, .tup upd_same (.cons (dp_mono g.ff _ _ (dp_mono s1 _ _ e2)) (.cons (dp_mono g.ff _ _ (dp_mono s1 _ _ e4)) .nil))⟩
theorem iok_zipT {K : PySem.W.Frag} {F : Hp} {a b : Addr} {vs us : List V} {ds es : List PyData} (ha : F a = some (.tup vs)) (h : DqAll F vs ds) (hb : F b = some (.tup us)) (k : DqAll F us es) : IOk F (RZ.ItzT K a b) (zipD ds es) where
  go := fun i H hi s => by
    rw [zipD_len] at hi
    have l1 : i < vs.length := by rw [dps_len h]; omega
    have l2 : i < us.length := by rw [dps_len k]; omega
    exact ⟨vs, us, vs[i], us[i], .of (s _ _ ha), .of (s _ _ hb), List.getElem?_eq_getElem l1, List.getElem?_eq_getElem l2⟩
  stop := fun H s => ⟨vs, us, .of (s _ _ ha), .of (s _ _ hb), by rw [zipD_len, dps_len h, dps_len k]; omega⟩
  yld := fun i H x H' G hi s1 s2 y => by
    rw [zipD_len] at hi
    obtain ⟨T, x1, x2, e, nT, e', y1, y2⟩ := y
    subst e e'
    have l1 : i < ds.length := by omega
    have l2 : i < es.length := by omega
    obtain ⟨v, e1, e2⟩ := dps_get h (List.getElem?_eq_getElem l1)
    obtain ⟨w, e3, e4⟩ := dps_get k (List.getElem?_eq_getElem l2)
    have e5 := y1 vs (.of (s2 _ _ (s1 _ _ ha)))
    have e6 := y2 us (.of (s2 _ _ (s1 _ _ hb)))
    rw [e1] at e5
    rw [e3] at e6
    have e7 : v = x1 := Option.some.inj e5
    have e8 : w = x2 := Option.some.inj e6
    subst e7 e8
    have g := Grow.new (o := .tup [v, w]) s2 nT
    exact ⟨_, _, zipD_get ds es i _ _ (List.getElem?_eq_getElem l1) (List.getElem?_eq_getElem l2), g, .tup upd_same (.cons (dp_mono g.ff _ _ (dp_mono s1 _ _ e2)) (.cons (dp_mono g.ff _ _ (dp_mono s1 _ _ e4)) .nil))⟩
def zipOf : List PyData → Option (List PyData)
  | [.list xs, .list ys] => some (zipD xs ys)
  | [.tuple xs, .tuple ys] => some (zipD xs ys)
  | _ => none
def iZp (f : Dn (List PyData)) : Dn (List PyData) := bnd f fun ds => lft (zipOf ds)
theorem gi_zip {e e2 : Expr} {p tpos : Pos} {elts : List Expr} {kk : Nat} {f : Dn (List PyData)} (hg : Gl X "zip") (hm : X.mg "zip" = none) (ha : PA X [e, e2] (tDs X.K X.mg E f)) (hs : starEach [e, e2] X.env = (false, eval e X.env) :: starEach [e2] X.env := by rfl)
    (hpl : (backTo pos (starEach [e2] X.env)).any (·.1) = false := by rfl) : PI X (.Tuple elts kk tpos) (.Call (.Name "zip" p) [e, e2] [] pos) (tI X.K X.mg E (iZp f)) :=
  pi_wk (RZ.pi_zipA hg hm ha hs hpl) fun σ H R ⟨ρ, F, Rl, q⟩ => ⟨ρ, F, Rl, (out_bnd (K := X.K) (F := F) q).mono fun ds ρ1 k vs F1 H1 S1 d1 => by
    obtain ⟨es, he, q2⟩ := out_lft (k _ _ _ S1)
    cases d1 with
    | nil => cases he
    | @cons v vs d ds h1 h2 =>
      cases h2 with
      | nil => cases d <;> cases he
      | @cons v2 vs2 d2 ds2 h3 h4 =>
        cases h4 with
        | cons _ _ => cases d <;> cases d2 <;> cases he
        | nil =>
          cases h1 with
          | @lst a us xs ha hx =>
            cases h3 with
            | @lst b ws ys hb hy =>
              cases he
              exact ⟨a, b, us, ws, rfl, .inl ⟨.of (S1.rel.sub _ _ ha), .of (S1.rel.sub _ _ hb), q2 _ F1 H1 S1 (iok_zipL ha hx hb hy)⟩⟩
            | _ => cases he
          | @tup a us xs ha hx =>
            cases h3 with
            | @tup b ws ys hb hy =>
              cases he
              exact ⟨a, b, us, ws, rfl, .inr ⟨.of (S1.rel.sub _ _ ha), .of (S1.rel.sub _ _ hb), q2 _ F1 H1 S1 (iok_zipT ha hx hb hy)⟩⟩
            | _ => cases he
          | _ => cases he⟩

/-! ### comprehensions -/
def yesT : Dn Bool := ret true
theorem pts_wk {X : Cx} {ifs : List Expr} {t t' : TT} (h : PTs X ifs t) (w : ∀ σ H Q, t' σ H Q → t σ H Q) : PTs X ifs t' := ⟨fun pins s σ H Q I q => h.run pins s σ H Q I (w σ H Q q)⟩
theorem gt_yes : PTs X [] (tT X.K X.mg E yesT) := pts_wk pts_nil fun σ H Q ⟨ρ, F, R, q⟩ => out_ret q F H (Stp.refl R)
theorem gt_one {c : Expr} {f : Dn Bool} (h : PT X c (tT X.K X.mg E f)) : PTs X [c] (tT X.K X.mg E f) := pts_one h
theorem g_comp {elt tg iter : Expr} {ifs : List Expr} {scope : Scope} {own : List (Str × Nat)} {ts : List Nat} {fi : Dn (List PyData)} {h : PyData → Ev → Option Ev} {ft : Dn Bool} {fe : Dn PyData} (hc : X.calm = true) (hN : X.N.Nodup) (hi : PI X tg iter (tI X.K X.mg E fi)) (ok : BlkOk X.N X.env.scope scope own)
    (hts : ∀ i ∈ ts, i ∈ own.map (·.2)) (hg : ∀ (s : Shared) (H : Hp) (C : Addr) (cl : List (Str × Addr)) (fp : List Addr), PG (X.blk s H scope (compEnvC scope cl C X.env) fp) tg (tGd X.K ts h))
    (ht : ∀ (s : Shared) (H : Hp) (C : Addr) (cl : List (Str × Addr)) (fp : List Addr), PTs (X.blk s H scope (compEnvC scope cl C X.env) fp) ifs (tT X.K X.mg E0 ft)) (he : ∀ (s : Shared) (H : Hp) (C : Addr) (cl : List (Str × Addr)) (fp : List Addr), PE (X.blk s H scope (compEnvC scope cl C X.env) fp) elt (tD X.K X.mg E0 fe))
    (hs : ∀ x, foldedSetIterable iter X.env x = pure x := by intro _; rfl) : PE X (.ListComp elt [⟨tg, iter, ifs, 0⟩] scope pos) (tE X.K X.mg E (dComp fi h ft fe (own.map (·.2)))) :=
  pe_wk (pe_lc hc hN hi ok hg ht he hs) (lc_wk hts)
theorem gs_setComp {i : Nat} {y : Str} {py spos : Pos} {elt tg iter : Expr} {ifs : List Expr} {scope : Scope} {own : List (Str × Nat)} {ts : List Nat} {fi : Dn (List PyData)} {h : PyData → Ev → Option Ev} {ft : Dn Bool} {fe : Dn PyData} (hc : X.calm = true) (hN : X.N.Nodup) (hy : X.N[i]? = some y) (hyl : X.env.scope.names.lookup y = some .local)
    (hsw : swapsWith (.ListComp elt [⟨tg, iter, ifs, 0⟩] scope pos) (some (.Name y py)) spos.line X.env = pure true) (hi : PI X tg iter (tI X.K X.mg E fi)) (ok : BlkOk X.N X.env.scope scope own)
    (hts : ∀ i ∈ ts, i ∈ own.map (·.2)) (hg : ∀ (s : Shared) (H : Hp) (C : Addr) (cl : List (Str × Addr)) (fp : List Addr), PG (X.blk s H scope (compEnvC scope cl C X.env) fp) tg (tGd X.K ts h))
    (ht : ∀ (s : Shared) (H : Hp) (C : Addr) (cl : List (Str × Addr)) (fp : List Addr), PTs (X.blk s H scope (compEnvC scope cl C X.env) fp) ifs (tT X.K X.mg E0 ft)) (he : ∀ (s : Shared) (H : Hp) (C : Addr) (cl : List (Str × Addr)) (fp : List Addr), PE (X.blk s H scope (compEnvC scope cl C X.env) fp) elt (tD X.K X.mg E0 fe))
    (hs : ∀ x, foldedSetIterable iter X.env x = pure x := by intro _; rfl) : PS X (.Assign [.Name y py] (.ListComp elt [⟨tg, iter, ifs, 0⟩] scope pos) spos) (tS X.K X.mg E (sSet i (dComp fi h ft fe (own.map (·.2))))) :=
  ps_wk (ps_setLc hc hN hy hyl hsw hi ok hg ht he hs) fun D σ H q => by
    obtain ⟨ρ, F, R, q⟩ := q
    refine lc_wk (E := E) hts σ H _ ⟨ρ, F, R, (out_bnd (K := X.K) (F := F) q).mono fun r ρ1 k v F1 H1 S1 ro => ?_⟩
    obtain ⟨q2, S2⟩ := put_stp S1 ro (k _ _ _ S1)
    exact q2 _ F1 H1 S2

/-! ### calls -/
def ArLen (f : Dn (List Ar)) (n : Nat) : Prop := ∀ ρ as ρ', f ρ = .ok (as, ρ') → as.length = n
theorem arl_nil : ArLen aNil 0 := fun ρ as ρ' h => by cases h; rfl
theorem arl_cons {f : Dn Rv} {g : Dn (List Ar)} {n : Nat} (h : ArLen g n) : ArLen (aCons f g) (n + 1) := fun ρ as ρ' e => by
  unfold aCons bnd at e
  cases ef : f ρ with
  | st => rw [ef] at e; cases e
  | ex x => rw [ef] at e; cases e
  | ok r =>
    rw [ef] at e
    simp only at e
    cases eg : g r.2 with
    | st => rw [eg] at e; cases e
    | ex x => rw [eg] at e; cases e
    | ok t =>
      rw [eg] at e
      cases e
      simp [h r.2 t.1 t.2 eg]
theorem arl_lend {i : Nat} {g : Dn (List Ar)} {n : Nat} (h : ArLen g n) : ArLen (aLend i g) (n + 1) := fun ρ as ρ' e => by
  have key : ∀ a : Ar, bnd g (fun as => ret (a :: as)) ρ = .ok (as, ρ') → as.length = n + 1 := fun a e => by
    unfold bnd at e
    cases eg : g ρ with
    | st => rw [eg] at e; cases e
    | ex x => rw [eg] at e; cases e
    | ok t =>
      rw [eg] at e
      cases e
      simp [h ρ t.1 t.2 eg]
  unfold aLend at e
  cases q : ρ[i]? with
  | none => rw [q] at e; cases e
  | some en =>
    rw [q] at e
    cases en with
    | ol xs => exact key _ e
    | bl xs => exact key _ e
    | sc ns => exact key _ e
    | _ => cases e
theorem g_call {x : Str} {p : Pos} {e : Expr} {es : List Expr} {j k n : Nat} {den : Den} {f : Dn (List Ar)} (c : Cal X.prog X.w X.K X.mg X.base j x n den) (hr : Room k X.A) (hj : j ≤ k) (hg : Gl X x) (hx : Passes (L2.CX X.prog X.w) X E) (ha : PA X (e :: es) (tAr X.K X.mg E f)) (hn : ArLen f n)
    (hdb : (x == ("__debug__" : Str)) = false := by decide) (he : starEach (e :: es) X.env = (false, eval e X.env) :: starEach es X.env := by rfl) (hpl : (backTo pos (starEach es X.env)).any (·.1) = false := by rfl) : PE X (.Call (.Name x p) (e :: es) [] pos) (tE X.K X.mg E (dFn den f)) := by
  obtain ⟨fa, fd, ps, Fn, hm, hk, hb⟩ := c.ex
  refine pe_wk (pe_call Fn (hr.mono hj) hg hm hk hb .nil hx ha hdb he hpl) fun σ H Q q => ?_
  exact spD_call (sp := fun vs H Q E => spD X.K X.mg n den (vs ++ []) H Q E) (fun vs H Q E h => by rw [List.append_nil]; exact h) (fun ρ as ρ' h => hn ρ as ρ' h) σ H Q q
def dFn0 (den : Den) : Dn Rv := dFn den (ret [])
theorem g_call0 {x : Str} {p : Pos} {j k : Nat} {den : Den} (c : Cal X.prog X.w X.K X.mg X.base j x 0 den) (hr : Room k X.A) (hj : j ≤ k) (hg : Gl X x) (hx : Passes (L2.CX X.prog X.w) X E) (hdb : (x == ("__debug__" : Str)) = false := by decide) :
    PE X (.Call (.Name x p) [] [] pos) (tE X.K X.mg E (dFn0 den)) := by
  obtain ⟨fa, fd, ps, Fn, hm, hk, hb⟩ := c.ex
  refine pe_wk (pe_call0 Fn (hr.mono hj) hg hm hk hb .nil hx hdb) fun σ H Q q => ?_
  have q2 := spD_call (sp := fun vs H Q E => spD X.K X.mg 0 den (vs ++ []) H Q E) (fun vs H Q E h => by rw [List.append_nil]; exact h) (fun ρ as ρ' h => by cases h; rfl) σ H Q q
  obtain ⟨ρ, F, R, o⟩ := q2
  have o' : ∀ vs F' H', Stp X.K ρ σ F H ρ σ F' H' → AOk X.K ρ σ H ρ F' H' [] vs → spD X.K X.mg 0 den (vs ++ []) H' Q E := o
  exact o' [] F H (Stp.refl R) ⟨rfl, fun k d h => by simp at h, fun k d h => by simp at h, fun k d h => by simp at h, fun k d h => by simp at h, fun k l xs ys p h => by simp at h⟩
end

/-! ### lists changed in place -/
def ownOf : Option En → Option (List PyData)
  | some (.ol xs) => some xs
  | some (.bl xs) => some xs
  | _ => none
theorem ownOf_some {o : Option En} {xs : List PyData} (h : ownOf o = some xs) : o = some (.ol xs) ∨ o = some (.bl xs) := by
  cases o with
  | none => cases h
  | some e =>
    cases e with
    | ol ys => cases h; exact .inl rfl
    | bl ys => cases h; exact .inr rfl
    | _ => cases h
theorem own_upd {K : PySem.W.Frag} {ρ ρ1 : Ev} {σ σ1 : St} {F F1 H H1 : Hp} {i : Nat} {p : Addr} {ws : List V} {xs ys : List PyData} (S : Stp K ρ σ F H ρ1 σ1 F1 H1) (hx : ownOf ρ1[i]? = some xs) (hp : σ1[i]? = some (some (.ref p))) (d : DqAll F1 ws ys) :
    Stp K ρ σ F H (ρ1.set i (reKind ρ1[i]? ys)) σ1 F1 (upd H1 p (.lst ws)) := by
  have hi := ownOf_some hx
  have ho : IsOwn ρ1 i := by
    rcases hi with h | h
    · exact .inl ⟨xs, h⟩
    · exact .inr ⟨xs, h⟩
  have hlt : i < ρ1.length := by rcases hi with h | h <;> exact (List.getElem?_eq_some_iff.mp h).1
  have hown : Own ρ1 σ1 p := own_at ho hp
  obtain ⟨_, hF⟩ := S.rel.own hown
  have self : (ρ1.set i (reKind ρ1[i]? ys))[i]? = some (reKind ρ1[i]? ys) := List.getElem?_set_self hlt
  have kinds : ∀ (j : Nat), IsOwn (ρ1.set i (reKind ρ1[i]? ys)) j → IsOwn ρ1 j := fun j h => by
    by_cases e : j = i
    · rw [e]; exact ho
    · rcases h with ⟨zs, h⟩ | ⟨zs, h⟩
      · rw [List.getElem?_set_ne (Ne.symm e)] at h
        exact .inl ⟨zs, h⟩
      · rw [List.getElem?_set_ne (Ne.symm e)] at h
        exact .inr ⟨zs, h⟩
  refine ⟨⟨fun b x e => ?_, fun j e h => ?_, fun j zs h => ?_, fun j ns h => ?_, fun j k q hj hk => S.rel.sep j k q (kinds j hj) (kinds k hk), by rw [List.length_set]; exact S.rel.ln⟩, S.ff, fun a o h n => ?_, fun q h => ?_, fun j zs h => ?_, fun j zs h => ?_, S.nw, by rw [List.length_set]; exact S.ln, fun a h => ?_⟩
  · rw [upd_ne (fun z => by rw [z, hF] at e; cases e)]
    exact S.rel.sub b x e
  · by_cases e' : j = i
    · rw [e', self] at h
      rcases hi with z | z <;> (rw [z] at h; cases h)
    · rw [List.getElem?_set_ne (Ne.symm e')] at h
      exact S.rel.fz j e h
  · by_cases e' : j = i
    · subst e'
      have e2 : zs = ys := by
        rw [self] at h
        rcases hi with z | z <;> (rw [z] at h; rcases h with h | h <;> cases h; rfl)
      subst e2
      exact ⟨p, ws, hp, upd_same, hF, d⟩
    · rw [List.getElem?_set_ne (Ne.symm e')] at h
      obtain ⟨q, us, a1, a2, a3⟩ := S.rel.ls j zs h
      have oj : IsOwn ρ1 j := by
        rcases h with h | h
        · exact .inl ⟨zs, h⟩
        · exact .inr ⟨zs, h⟩
      have ne : q ≠ p := fun z => e' (S.rel.sep j i p oj ho (by rw [← z]; exact a1) hp)
      exact ⟨q, us, a1, by rw [upd_ne ne]; exact a2, a3⟩
  · by_cases e' : j = i
    · rw [e', self] at h
      rcases hi with z | z <;> (rw [z] at h; cases h)
    · rw [List.getElem?_set_ne (Ne.symm e')] at h
      exact S.rel.sc j ns h
  · have ne : a ≠ p := fun z => S.nob h n (by rw [z]; exact hown)
    rw [upd_ne ne]
    exact S.fr a o h n
  · obtain ⟨j, zs, h1, h2⟩ := h
    by_cases e' : j = i
    · subst e'
      rw [self] at h1
      rcases hi with z | z
      · exact S.oo q ⟨j, xs, z, h2⟩
      · rw [z] at h1
        cases h1
    · rw [List.getElem?_set_ne (Ne.symm e')] at h1
      exact S.oo q ⟨j, zs, h1, h2⟩
  · obtain ⟨⟨us, h1⟩, h2⟩ := S.bk j zs h
    by_cases e' : j = i
    · subst e'
      rw [self, h1]
      exact ⟨⟨ys, rfl⟩, h2⟩
    · rw [List.getElem?_set_ne (Ne.symm e')]
      exact ⟨⟨us, h1⟩, h2⟩
  · by_cases e' : j = i
    · subst e'
      rw [self] at h
      rcases hi with z | z
      · rw [z] at h
        cases h
      · exact S.kb j xs z
    · rw [List.getElem?_set_ne (Ne.symm e')] at h
      exact S.kb j zs h
  · by_cases z : a = p
    · rw [z, upd_same] at h
      cases h
    · rw [upd_ne z] at h
      exact S.dm a h
def sUpd (i : Nat) (g : List PyData → Option (List PyData)) : Dn Fl := fun ρ => match (ownOf ρ[i]?).bind g with
  | some ys => .ok (.nx, ρ.set i (reKind ρ[i]? ys))
  | none => .st
section
variable {X : Cx} {E : XK} {pos : Pos}
def appD (d : PyData) (xs : List PyData) : Option (List PyData) := if okLen (xs.length + 1) then some (xs ++ [d]) else none
def sApp (i : Nat) (f : Dn PyData) : Dn Fl := fun ρ => if (ownOf ρ[i]?).isSome then bnd f (fun d => sUpd i (appD d)) ρ else .st
theorem app_wk {K : PySem.W.Frag} {mg : Str → Option Value} {i : Nat} {f : Dn PyData} (D : Ends) (σ : St) (H : Hp) (q : tS K mg E (sApp i f) D σ H) : tDrop (tBM K "list" rAppend (tVar i) (tCons (tD K mg E f) tNil)) D σ H := by
    obtain ⟨ρ, F, R, q⟩ := q
    unfold sApp at q
    cases hb : (ownOf ρ[i]?).isSome with
    | false => rw [hb] at q; exact (show False from q).elim
    | true =>
    rw [hb] at q
    obtain ⟨xs0, h0⟩ := Option.isSome_iff_exists.mp hb
    obtain ⟨p, ws0, hp, h2, _⟩ := R.ls i xs0 (ownOf_some h0)
    refine ⟨.ref p, hp, .inl ⟨rfl, ws0, .of h2⟩, ρ, F, R, (out_bnd (K := K) (F := F) q).mono fun d ρ1 k v F1 H1 S1 dq => ?_⟩
    have q2 := k _ _ _ S1
    unfold sUpd at q2
    cases hx : ownOf ρ1[i]? with
    | none => rw [hx] at q2; exact (show False from q2).elim
    | some xs =>
      obtain ⟨p', ws, hp', a2, a3, a4⟩ := S1.rel.ls i xs (ownOf_some hx)
      rw [hp] at hp'
      cases hp'
      rw [hx] at q2
      by_cases hl : okLen (xs.length + 1) = true
      · have e1 : (some xs).bind (appD d) = some (xs ++ [d]) := by
          show appD d xs = _
          unfold appD
          rw [if_pos hl]
        rw [e1] at q2
        refine ⟨p, ws, v, rfl, rfl, a2, ?_, ?_⟩
        · have := okLen_le hl
          rw [dps_len a4]
          exact this
        · exact q2 σ F1 _ (own_upd S1 hx hp (dps_app a4 (dps_one dq)))
      · have e1 : (some xs).bind (appD d) = none := by
          show appD d xs = _
          unfold appD
          rw [if_neg hl]
        rw [e1] at q2
        exact (show False from q2).elim
/-- xs[i] = e -/
def setIxD (d k : PyData) (xs : List PyData) : Option (List PyData) := match k with
  | .int n => (ixN xs.length n).map fun j => xs.set j d
  | _ => none
def sSetIx (i : Nat) (fk f : Dn PyData) : Dn Fl := bnd f fun d => fun ρ => if (ownOf ρ[i]?).isSome then bnd fk (fun k => sUpd i (setIxD d k)) ρ else .st
theorem gs_setIx (i : Nat) {x : Str} {e ei : Expr} {p2 tpos : Pos} {f fk : Dn PyData} (he : PE X e (tD X.K X.mg E f)) (hi : PE X ei (tD X.K X.mg E fk)) (hN : X.N[i]? = some x := by rfl) (hv : Vis X.env.scope x := by first | exact Or.inl rfl | exact Or.inr (Or.inl rfl) | exact Or.inr (Or.inr rfl))
    (hd : (x == ("__debug__" : Str)) = false := by decide) (hcd : (x == ("__classdict__" : Str)) = false := by decide)
    (ha : ∀ v, assign (.Subscript (.Name x p2) ei tpos) X.env v = (do
      let ov ← holding [v] (eval (.Name x p2) X.env)
      let iv ← holding [v, ov] (eval ei X.env)
      standAt tpos
      holding [v, ov, iv] (setItem ov iv v)
      release [v, ov, iv] []) := by intro _; rfl)
    (hs : swapsWithSole [.Subscript (.Name x p2) ei tpos] e pos.line X.env = pure false := by rfl) (hw : swappedStores [.Subscript (.Name x p2) ei tpos] e X.env = pure none := by rfl)
    (h1 : (assignEach [.Subscript (.Name x p2) ei tpos] X.env).map (·.2) = [assign (.Subscript (.Name x p2) ei tpos) X.env] := by rfl) :
    PS X (.Assign [.Subscript (.Name x p2) ei tpos] e pos) (tS X.K X.mg E (sSetIx i fk f)) :=
  ps_wk (ps_asg he (pg_sub (pe_var hN hv hd hcd) hi set_list ha) hs hw h1) fun D σ H ⟨ρ, F, R, q⟩ => ⟨ρ, F, R, (out_bnd (K := X.K) (F := F) q).mono fun d ρ1 k v F1 H1 S1 dq => by
    have q2 := k _ _ _ S1
    cases hb : (ownOf ρ1[i]?).isSome with
    | false => rw [hb] at q2; exact (show False from q2).elim
    | true =>
    rw [hb] at q2
    obtain ⟨xs0, h0⟩ := Option.isSome_iff_exists.mp hb
    obtain ⟨p, ws0, hp, h2, _⟩ := S1.rel.ls i xs0 (ownOf_some h0)
    refine ⟨.ref p, hp, ρ1, F1, S1.rel, (out_bnd (K := X.K) (F := F1) q2).mono fun n ρ2 k2 u F2 H2 S2 dn => ?_⟩
    have q3 := k2 _ _ _ S2
    unfold sUpd at q3
    cases hx : ownOf ρ2[i]? with
    | none => rw [hx] at q3; exact (show False from q3).elim
    | some xs =>
      obtain ⟨p', ws, hp', a2, a3, a4⟩ := S2.rel.ls i xs (ownOf_some hx)
      rw [hp] at hp'
      cases hp'
      rw [hx] at q3
      cases dn with
      | int m =>
        cases hj : ixN xs.length m with
        | none =>
          have e1 : (some xs).bind (setIxD d (.int m)) = none := by
            show (ixN xs.length m).map _ = _
            rw [hj]
            rfl
          rw [e1] at q3
          exact (show False from q3).elim
        | some j =>
          have e1 : (some xs).bind (setIxD d (.int m)) = some (xs.set j d) := by
            show (ixN xs.length m).map _ = _
            rw [hj]
            rfl
          rw [e1] at q3
          refine ⟨p, ws, m, j, rfl, rfl, a2, by rw [dps_len a4]; exact hj, ?_⟩
          exact q3 σ F2 _ (own_upd (S1.trans S2) hx hp (dps_set (dp_mono S2.ff d v dq) j a4))
      | _ => exact (show False from q3).elim⟩
/-- xs.pop(k) -/
def dPopAt (i : Nat) (f : Dn PyData) : Dn PyData := fun ρ => if (ownOf ρ[i]?).isSome then bnd f (fun k => fun ρ => match ownOf ρ[i]?, k with
  | some xs, .int n => if small62 n then match seqIndex? n xs.length with
    | some j => match xs[j]? with
      | some d => .ok (d, ρ.set i (reKind ρ[i]? (xs.eraseIdx j)))
      | none => .st
    | none => .st
    else .st
  | _, _ => .st) ρ else .st
theorem popAt_wk {K : PySem.W.Frag} {mg : Str → Option Value} {i : Nat} {f : Dn PyData} (σ : St) (H : Hp) (Q : VK) (q : tD K mg E (dPopAt i f) σ H Q) : tBM K "list" rPopAt (tVar i) (tCons (tD K mg E f) tNil) σ H Q := by
    obtain ⟨ρ, F, R, q⟩ := q
    unfold dPopAt at q
    cases hb : (ownOf ρ[i]?).isSome with
    | false => rw [hb] at q; exact (show False from q).elim
    | true =>
    rw [hb] at q
    obtain ⟨xs0, h0⟩ := Option.isSome_iff_exists.mp hb
    obtain ⟨p, ws0, hp, h2, _⟩ := R.ls i xs0 (ownOf_some h0)
    refine ⟨.ref p, hp, .inl ⟨rfl, ws0, .of h2⟩, ρ, F, R, (out_bnd (K := K) (F := F) q).mono fun d ρ1 k v F1 H1 S1 dq => ?_⟩
    have q2 := k _ _ _ S1
    cases hx : ownOf ρ1[i]? with
    | none => simp only [hx] at q2; exact (show False from q2).elim
    | some xs =>
      obtain ⟨p', ws, hp', a2, a3, a4⟩ := S1.rel.ls i xs (ownOf_some hx)
      rw [hp] at hp'
      cases hp'
      cases dq with
      | int m =>
        simp only [hx] at q2
        by_cases hm : small62 m = true
        · rw [if_pos hm] at q2
          cases hj : seqIndex? m xs.length with
          | none => simp only [hj] at q2; exact (show False from q2).elim
          | some j =>
            simp only [hj] at q2
            cases hd : xs[j]? with
            | none => simp only [hd] at q2; exact (show False from q2).elim
            | some y =>
              simp only [hd] at q2
              obtain ⟨u, e1, e2⟩ := dps_get a4 hd
              obtain ⟨b1, b2⟩ := small62_ok hm
              refine ⟨p, ws, m, j, u, rfl, rfl, a2, by omega, by omega, by rw [dps_len a4]; exact hj, e1, ?_⟩
              exact q2 u F1 _ (own_upd S1 hx hp (dps_erase j a4)) e2
        · rw [if_neg hm] at q2
          exact (show False from q2).elim
      | _ => simp only [hx] at q2; exact (show False from q2).elim
end
end Gx

/-! X1: exceptions of the program as things: made, their field, what they are. -/
namespace Gx
open PySem PySem.Spec L2
open PyProof.Rows hiding St

/-- x.name = v where x is a fresh exception of a class whose base is any built-in one -/
theorem exc_osaG {prog : Program} {w : World} {A : Around} {R : Result → Shared → Prop} {hp : Heap} {g : Array GenState} {d : Drawn} {t : Nat} {os : OsState} {K : W.Frag} {name : Str} {tk : Tok} {v : Value} {x C : Addr} {fv : Array Value} {cd : ClassData}
    {B : String} {bmB : List Value} (SF : StoreFacts B bmB "object.__setattr__" "object") (X : K.In hp) (hx : hp.get? x = some { cls := Value.ref C, data := Data.fields fv }) (hcd : W.clsIn K C = some cd) (ho : W.excOver K C bmB = true) (hh : cd.hasDict = true) (ht : W.takerIn K C name = some none)
    (hq : ∀ (h' : Heap) (tk' dx : Nat), (∀ (b : Addr) (o : Obj), b ≠ x → hp.get? b = some o → h'.get? b = some o) → hp.objs.size ≤ dx → dx ≠ x → h'.get? x = some { cls := Value.ref C, dict := some dx, data := Data.fields fv } → (h'.Ns1 dx fun y => if y = name then some v else none) →
      R (Except.ok (Flow.ret Value.none)) { heap := h', gens := g, drawn := d, toks := tk', os := os }) :
    codeAny (model prog w) A (Code.call (Value.builtin "object.__setattr__") { pos := [Value.ref x, Value.str name tk, v] }) R { heap := hp, gens := g, drawn := d, toks := t, os := os } := by
  have I : W.InstAt hp x { cls := Value.ref C, data := Data.fields fv } C none := ⟨hx, rfl, rfl, trivial⟩
  have hxs : hp.objs.size ≠ x := Nat.ne_of_gt (Heap.lt_size hx)
  refine W.osa_openX SF X I ho ht fun b => ?_
  have hcls := W.looks_clsIn (M := model prog w) X hcd
  obtain ⟨nm, bs, mro, ns, qn, hd, sn, sb, ab, col, del⟩ := cd
  have e : hd = true := hh
  subst e
  show wpAny _ _ (Builtin.ObjectAttr.storeInOwnDict (Value.ref x) (Value.ref C) (Value.str name tk) name v b) _ _ _
  unfold Builtin.ObjectAttr.storeInOwnDict
  refine wpAny_bind ?_
  show wpAny _ _ (pure ()) _ _ _
  refine wpAny_pure (wpAny_ite_false rfl (wpAny_bind ?_))
  show wpAny _ _ (instanceDict x true) _ _ _
  unfold instanceDict
  refine wpAny_bind (wpAny_loadPart_at hx (wpAny_bind (W.Looks.at hcls (wpAny_ite_false rfl (wpAny_ite_false rfl (wpAny_bind (wpAny_alloc' (wpAny_bind (wpAny_update' (Heap.get?_push_of_some _ hx) ?_)))))))))
  refine wpAny_pure (HandSPX.store_in_new ?_ fun h' tk' hn' hs => ?_)
  · refine ⟨{ cls := Value.type "dict", data := Data.dict #[] }, #[], 0, ?_, rfl, fun e he => absurd he (by simp), fun _ => rfl⟩
    exact (Heap.get?_update_ne _ _ x _ hxs).trans (Heap.get?_push_at rfl rfl)
  · have hx₁ := Heap.get?_push_of_some { cls := Value.type "dict", data := Data.dict #[] } hx
    refine hq h' tk' hp.objs.size (fun b o hb ho => (hs.2 b (Nat.ne_of_lt (Heap.lt_size ho))).trans ((Heap.get?_update_ne _ b x _ hb).trans (Heap.get?_push_of_some _ ho))) (Nat.le_refl _) hxs ?_ hn'
    exact (hs.2 x (Ne.symm hxs)).trans (Heap.get?_update_self _ hx₁ rfl)

/-- what the text says of an exception class of the program whose base is the built-in one B -/
structure OexG (K : PySem.W.Frag) (C : Addr) (B newId : String) (bmB : List Value) : Prop where
  cls : ∃ nm q N bs bm sn sub ab col dd k0 k1 k2 k3 k5, List.lookup C K = some (excClassObj nm q C N bs bm true sn sub ab col dd k0 k1 k2 k3 k5 newId) ∧ ∀ Y : String, bm.contains (Value.type Y) = bmB.contains (Value.type Y)
  ov : PySem.W.excOver K C bmB = true
  sa : PySem.W.findIn K (Value.ref C) (Str.ofString "__setattr__") = some (some (Value.builtin "object.__setattr__"))
  kC : PySem.W.keepIn K (Value.ref C) = true
/-- the built-in base -/
structure BaseG (B newId initId : String) (bmB : List Value) : Prop where
  sf : StoreFacts B bmB "object.__setattr__" "object"
  ef : ExcBaseFacts B newId initId bmB
  ty : typeOf (Value.type B) = pure (Value.type "type")
  st : Manifest.isStub B = false
  hi : PySem.W.handedIn (Value.builtin initId) = true
abbrev bmLE : List Value := [Value.type "LookupError", Value.type "Exception", Value.type "BaseException", Value.type "object"]
abbrev bmVE : List Value := [Value.type "ValueError", Value.type "Exception", Value.type "BaseException", Value.type "object"]
theorem baseLE : BaseG "LookupError" "LookupError.__new__" "LookupError.__init__" bmLE := ⟨F.store_LookupError, F.excBase_LookupError, by rfl, by decide +kernel, by decide +kernel⟩
theorem baseVE : BaseG "ValueError" "ValueError.__new__" "ValueError.__init__" bmVE := ⟨F.store_ValueError, F.excBase_ValueError, by rfl, by decide +kernel, by decide +kernel⟩
section
variable {X : Cx} {pins : List (Addr × Obj)} {σ : St} {H : Hp} {s : Shared} {a C : Addr} {E : Value → Shared → Prop} {A : Around} {us : List Value} {B newId initId : String} {bmB : List Value}
theorem oinit_okG {Q : Value → Shared → Prop} (BG : BaseG B newId initId bmB) (T : OexG X.K C B newId bmB) (I : L2.Inv X pins σ H s) (e : H a = some (exo a C none)) (hl : us.length ≤ sizeLine) (h : ∀ s' : Shared, L2.Inv X pins σ H s' → Q Value.none s') :
    wpAny (model X.prog X.w) A (call (Value.builtin initId) (Value.ref a :: us)) Q E s := by
  obtain ⟨nm, q, N, bs, bm, sn, sub, ab, col, dd, k0, k1, k2, k3, k5, hC, hbm⟩ := T.cls
  obtain ⟨t1, ho⟩ := exo_at I.hok e
  obtain ⟨hp, g, d, t, os⟩ := s
  refine wpAny_call (HandSPX.init_base BG.ef hbm (I.kIn C _ hC) ho hl fun h' t2 k hx => ?_)
  have J := I.write (t' := t) (o := exo a C none) (by rw [e]; trivial) (Or.inl rfl) k ⟨_, hx⟩ (exo_ok hx)
  have eu : upd H a (exo a C none) = H := by
    funext b
    by_cases hb : b = a
    · subst hb
      rw [upd_same, e]
    · rw [upd_ne hb]
  rw [eu] at J
  exact h _ J
theorem ost_newG {f : Str} {y : V} {u : Value} {Q : Unit → Shared → Prop} (BG : BaseG B newId initId bmB) (T : OexG X.K C B newId bmB) (I : L2.Inv X pins σ H s) (e : H a = some (exo a C none)) (hno : PySem.W.findIn X.K (Value.ref C) f = some none) (ry : RelV y u)
    (h : ∀ (dx : Addr) (s' : Shared), H dx = none → dx ≠ a → L2.Inv X pins σ (upd (upd H dx (exd dx [(f, y)])) a (exo a C (some dx))) s' → Q () s') : wpAny (model X.prog X.w) A (setAttr (Value.ref a) f u) Q E s := by
  obtain ⟨nm, q, N, bs, bm, sn, sub, ab, col, dd, k0, k1, k2, k3, k5, hC, hbm⟩ := T.cls
  have hcl : PySem.W.clsIn X.K C = some { name := nm, bases := bs, mro := Value.ref C :: bm, ns := N, qualname := q, hasDict := true, slotNames := sn, subclasses := sub, abstract := ab, collection := col, hasDel := false } := by
    unfold PySem.W.clsIn
    rw [hC] <;> rfl
  have htk : PySem.W.takerIn X.K C f = some none := by
    unfold PySem.W.takerIn
    rw [hno]
    rfl
  obtain ⟨t1, ho⟩ := exo_at I.hok e
  obtain ⟨hp, g, d, t, os⟩ := s
  refine PySem.W.set_plain (od := none) I.kIn ⟨ho, rfl, rfl, trivial⟩ T.sa (exc_osaG BG.sf I.kIn ho hcl T.ov rfl htk fun h' tk' dx k dn dne hx hn => ?_)
  have hnd : H dx = none := I.hok.fresh dn
  have nd : ∀ {b : Addr} {o : Obj}, hp.get? b = some o → b ≠ dx := fun q => Nat.ne_of_lt (Nat.lt_of_lt_of_le (Heap.lt_size q) dn)
  have na : ∀ {b : Addr}, H b = none → b ≠ a := fun n z => by rw [z, e] at n; cases n
  have U : Un X.fs [] H (upd (upd H dx (exd dx [(f, y)])) a (exo a C (some dx))) hp h' :=
    { keep := fun b o q n _ _ => k b o (na n) q
      slot := fun b o q n _ _ => ⟨o.slots, k b o (na n) q⟩
      free := fun b o q n _ => by rw [upd_ne (na n), upd_ne (nd q)]; exact n
      there := fun b o q _ => by
        by_cases hb : b = a
        · subst hb; exact ⟨_, hx⟩
        · exact ⟨o, k b o hb q⟩
      tups := fun b xs q => by rw [upd_ne (at_ne e q exo_tup), upd_ne (ne_of_none q hnd)]; exact q
      frzs := fun b o v q => by rw [upd_ne (at_ne e q exo_frz), upd_ne (ne_of_none q hnd)]; exact q
      tbls := fun b ps q => ⟨#[], by rw [upd_ne (at_ne e q exo_tbl), upd_ne (ne_of_none q hnd), q]; simp⟩ }
  refine h dx ⟨h', g, d, tk', os⟩ hnd dne (I.un (t' := tk') U fun b o q => ?_)
  by_cases hb : b = a
  · subst hb
    rw [upd_same] at q
    cases q
    exact exo_ok hx
  · rw [upd_ne hb] at q
    by_cases hd : b = dx
    · subst hd
      rw [upd_same] at q
      cases q
      exact exd_ok hn (relO_put ry fun g => trivial)
    · rw [upd_ne hd] at q
      exact ObjOk.stay (I.hok b o q) (fun c v hc z => k c v (by
          rcases hc with hc | hc
          · rw [hc]; exact hb
          · exact at_ne e hc exo_own) z)
        (fun c hc => by rw [upd_ne (at_ne e hc exo_own), upd_ne (ne_of_none hc hnd)]; exact hc)
        (fun c xs hc => by rw [upd_ne (at_ne e hc exo_tup), upd_ne (ne_of_none hc hnd)]; exact hc)
/-- B.__init__(self, ..) -/
def tBI (B newId : String) (bmB : List Value) (K : PySem.W.Frag) (ta : TA) : TE := fun σ H Q => ta σ H fun vs H1 => ∃ a C ws, vs = V.ref a :: ws ∧ ws.length ≤ 1000 ∧ OexG K C B newId bmB ∧ H1 a = some (exo a C none) ∧ Q V.non H1
theorem pe_binit {x : Str} {e : Expr} {es : List Expr} {ta : TA} {p1 p2 pos : Pos} {pl : Sem Bool} (BG : BaseG B newId initId bmB) (hg : Gl X x) (hm : X.mg x = none) (hv : bootBuiltins x = some (.type B)) (hi : PySem.W.findCls X.K (Value.type B) (Value.type "type") (Str.ofString "__init__") = some (PySem.W.CFound.val (Value.builtin initId))) (ha : PA X (e :: es) ta)
    (hn : x ≠ "__name__" := by decide) (hdb : (x == ("__debug__" : Str)) = false := by decide)
    (hev : eval (.Call (.Attribute (.Name x p1) (Str.ofString "__init__") p2) (e :: es) [] pos) X.env = (do
      let ov ← eval (.Name x p1) X.env
      standAt p2.atName
      let y ← holding [ov] (getMethod ov (Str.ofString "__init__") pl)
      match y with
      | (f, first) => callWith pos f first (backTo pos (starEach (e :: es) X.env)) (backToKw pos (keywordEach [] X.env))) := by rfl)
    (he : starEach (e :: es) X.env = (false, eval e X.env) :: starEach es X.env := by rfl) (hpl : (backTo pos (starEach es X.env)).any (·.1) = false := by rfl) :
    PE X (.Call (.Attribute (.Name x p1) (Str.ofString "__init__") p2) (e :: es) [] pos) (tBI B newId bmB X.K ta) := by
  refine ⟨fun pins s σ H Q I h => ?_⟩
  refine PySem.W.methodCall_KW (pl := pl) (ld_blt I hg hm hv ?_ hn hdb) hev
  obtain ⟨m, fr⟩ := I.fr
  refine PySem.W.method_type fr I.ok.mod.kin BG.ty BG.st hi BG.hi ?_
  refine PyProof.Rows.callWith_method1 (thn (ha.run pos pins _ σ H _ (I.tok _) h) fun us s1 hh => ?_) he hpl
  obtain ⟨vs, H1, I1, r1, a, C, ws, ev, hz, T, ea, q⟩ := hh
  subst ev
  cases r1 with
  | @cons _ u _ us' ru rus =>
    obtain rfl : u = Value.ref a := ru
    have hl := rus.length
    exact oinit_okG BG T I1 ea (by rw [sizeLine_eq]; have := rus.length; omega) fun s' I2 => ⟨.non, H1, I2, rfl, q⟩
/-- self.f = e -/
def tOsG (B newId : String) (bmB : List Value) (K : PySem.W.Frag) (f : Str) (to te : TE) : TS := fun D σ H => te σ H fun y H1 => to σ H1 fun x H2 => ∃ a C, x = V.ref a ∧ OexG K C B newId bmB ∧ PySem.W.findIn K (Value.ref C) f = some none ∧ H2 a = some (exo a C none) ∧
  ∀ dx : Addr, H2 dx = none → dx ≠ a → D.nx σ (upd (upd H2 dx (exd dx [(f, y)])) a (exo a C (some dx)))
theorem ps_ostG {o e : Expr} {to te : TE} {f : Str} {p' pos : Pos} (BG : BaseG B newId initId bmB) (ho : PE X o to) (he : PE X e te) (hs : swapsWith e (some (.Attribute o f p')) pos.line X.env = pure false := by rfl) :
    PS X (.Assign [.Attribute o f p'] e pos) (tOsG B newId bmB X.K f to te) :=
  ⟨fun pins s σ H D I h => plainObj_wpAny_Assign_Attribute (thn (he.run pins s σ H _ I h) fun v s1 hh => by
    obtain ⟨y, H1, I1, r1, q1⟩ := hh
    refine thn (ho.run pins s1 σ H1 _ I1 q1) fun u s2 h2 => ?_
    obtain ⟨x, H2, I2, r2, a, C, ex, T, hno, ea, q⟩ := h2
    subst ex
    obtain rfl : u = Value.ref a := r2
    exact ost_newG BG T I2 ea hno r1 fun dx s' n ne J => ⟨σ, _, J, q dx n ne⟩) hs⟩
end
end Gx

namespace Gx
open PySem PySem.Spec L2
theorem check_kw {B newId initId : String} {bmB : List Value} (F : ExcBaseFacts B newId initId bmB) (C : Addr) (x : Str) (v : Value) : checkBuiltinCall newId { pos := [Value.ref C], kw := [(x, v)] } = checkBuiltinCall newId { pos := [Value.ref C] } := by
  have key : Bind.checkArgs newId { machinery := Manifest.Machinery.any, full := B, short := B, receiver := Manifest.Receiver.cls, params := [{ name := "args", kind := Manifest.ParamKind.varPos, required := false }, { name := "kwargs", kind := Manifest.ParamKind.varKw, required := false }] } { pos := [Value.ref C], kw := [(x, v)] } = Bind.checkArgs newId { machinery := Manifest.Machinery.any, full := B, short := B, receiver := Manifest.Receiver.cls, params := [{ name := "args", kind := Manifest.ParamKind.varPos, required := false }, { name := "kwargs", kind := Manifest.ParamKind.varKw, required := false }] } { pos := [Value.ref C] } := by
    unfold Bind.checkArgs
    rfl
  unfold checkBuiltinCall
  rw [F.newRow, F.newKind, F.newSplit]
  simp only [key]

/-- C(x=v) where C is a class of the program over a built-in exception, with its own __init__ -/
theorem new_kw {prog : Program} {w : World} {A : Around} {R : Result → Shared → Prop} {h : Heap} {g : Array GenState} {d : Drawn} {t : Nat} {os : OsState} {nm q : Str} {C N : Addr} {bs bm bmB : List Value} {hdct : Bool} {sn : List Str} {sub : List Value} {ab : Bool} {col : Option Bool} {dd : Option Addr} {k0 k1 k2 k3 k5 : Option Value} {B newId initId : String}
    (F : ExcBaseFacts B newId initId bmB) (hT : ∀ Y : String, bm.contains (Value.type Y) = bmB.contains (Value.type Y)) {kw : List (Str × Value)} (hC : h.get? C = some (excClassObj nm q C N bs bm hdct sn sub ab col dd k0 k1 k2 k3 k5 newId))
    (hq : R (Except.ok (Flow.ret (Value.ref (h.objs.size + 1)))) { heap := (h.push (PySem.W.kdv_tup [])).push (HandSPX.excO C h.objs.size), gens := g, drawn := d, toks := t, os := os }) :
    codeAny (model prog w) A (Code.builtin newId { pos := [Value.ref C], kw := kw }) R { heap := h, gens := g, drawn := d, toks := t, os := os } := by
  have hcB : (Value.ref C :: bm).contains (Value.type B) = true := by rw [List.contains_cons, hT B, F.hasB]; exact Bool.or_true _
  have hcA : (Value.ref C :: bm).contains (Value.type "AttributeError") = false := by rw [List.contains_cons, hT "AttributeError", F.noAttr]; rfl
  have hcN : (Value.ref C :: bm).contains (Value.type "NameError") = false := by rw [List.contains_cons, hT "NameError", F.noName]; rfl
  refine codeAny_builtinAt F.entry (PySem.wpAt_bind ?_)
  refine PySem.wpAt_bind (wpAt_stack fun p below => wpAt_of_wpAny ?_)
  refine wpAny_ite_true (by rw [F.ends]; rfl) (wpAny_pure (wpAt_of_wpAny ?_))
  rw [F.owner]
  refine wpAny_bind ?_
  refine wpAny_bind (wpAny_loadPart_at hC (wpAny_pure (wpAny_ite_false rfl (wpAny_bind (wpAny_isSubtype_exc hC ?_)))))
  rw [hcB]
  refine wpAny_ite_false rfl (wpAny_bind (wpAny_madeHere_exc F.canon hC (wpAny_bind ?_)))
  refine wpAny_bind (wpAny_isSubtype_exc hC ?_)
  rw [hcA]
  refine wpAny_ite_false rfl (wpAny_bind (wpAny_isSubtype_exc hC ?_))
  rw [hcN]
  refine wpAny_ite_false rfl (wpAny_pure (wpAny_bind ?_))
  refine wpAny_newTuple ?_ (by rw [sizeLine_eq]; decide)
  refine wpAny_bind ?_
  unfold newObj
  refine wpAny_ite_false ?_ ?_
  · rw [sizeLine_eq]; rfl
  unfold newObjAsIs
  refine wpAny_bind (wpAny_alloc' (wpAny_bind ?_))
  unfold classHasDel
  refine wpAny_bind (wpAny_load' (Heap.get?_push_of_some _ (Heap.get?_push_of_some _ hC)) (wpAny_pure (wpAny_ite_false rfl (wpAny_pure ?_))))
  refine wpAny_pure ?_
  show R (Except.ok (Flow.ret (Value.ref (h.push (PySem.W.kdv_tup [])).objs.size))) _
  rw [Heap.size_push]
  exact hq

theorem type_call_kw {prog : Program} {w : World} {A : Around} {E : Value → Shared → Prop} {h : Heap} {g : Array GenState} {d : Drawn} {t : Nat} {os : OsState} {nm q : Str} {C N : Addr} {bs bm bmB : List Value} {hdct : Bool} {sn : List Str} {sub : List Value} {ab : Bool} {col : Option Bool} {dd : Option Addr} {k0 k1 k2 k3 k5 : Option Value} {B newId initId : String}
    (F : ExcBaseFacts B newId initId bmB) (hT : ∀ Y : String, bm.contains (Value.type Y) = bmB.contains (Value.type Y)) {x : Str} {v : Value} {fI : Addr} {Q : PySem.Fin → Shared → Prop} (hC : h.get? C = some (excClassObj nm q C N bs bm hdct sn sub ab col dd k0 k1 k2 k3 k5 newId))
    (hi : PySem.W.Looks (model prog w) h (typeLookup (Value.ref C) (Str.ofString "__init__")) (some (Value.ref fI))) (hb : ∀ self : Value, PySem.W.Looks (model prog w) h (bindSpecial (Value.ref fI) self) (Value.ref fI, [self]))
    (hq : codeAny (model prog w) A (Code.call (Value.ref fI) { pos := [Value.ref (h.objs.size + 1)], kw := [(x, v)] }) (fun r s' => match r with
        | Except.ok (Flow.ret v) => v = Value.none ∧ Q (Fin.done (Flow.ret (Value.ref (h.objs.size + 1)))) s'
        | Except.ok a => False
        | Except.error e => E e s') { heap := (h.push (PySem.W.kdv_tup [])).push (HandSPX.excO C h.objs.size), gens := g, drawn := d, toks := t, os := os }) :
    wpAny (model prog w) A (Builtin.«type.__call__» { pos := [Value.ref C], kw := [(x, v)] }) Q E { heap := h, gens := g, drawn := d, toks := t, os := os } := by
  have k : ∀ b o, h.get? b = some o → ((h.push (PySem.W.kdv_tup [])).push (HandSPX.excO C h.objs.size)).get? b = some o := fun b o e => Heap.get?_push_of_some _ (Heap.get?_push_of_some _ e)
  have hC₁ := k C _ hC
  have hget : ((h.push (PySem.W.kdv_tup [])).push (HandSPX.excO C h.objs.size)).get? (h.objs.size + 1) = some (HandSPX.excO C h.objs.size) := Heap.get?_push_at (by simp) rfl
  have hcC : (Value.ref C :: bm).contains (Value.ref C) = true := by simp
  have i1 := PySem.W.Looks.keeps hi k
  have b1 := PySem.W.Looks.keeps (hb (Value.ref (h.objs.size + 1))) k
  unfold Builtin.«type.__call__»
  refine wpAny_ite_false rfl (wpAny_bind ?_)
  unfold mroOf
  refine wpAny_bind ?_
  refine wpAny_bind (wpAny_load' hC (wpAny_pure (wpAny_pure (wpAny_ite_false rfl (wpAny_bind (wpAny_madeBy_exc hC (wpAny_bind (wpAny_pure (wpAny_bind (wpAny_holding (wpAny_call (codeAny_call_builtin_code (Code.quiet_builtin _ F.quiet) ?_))))))))))))
  show wpAny _ _ (checkBuiltinCall newId { pos := [Value.ref C], kw := [(x, v)] }) _ _ _
  rw [check_kw F]
  refine HandSPX.check_new_own F hT hC (new_kw F hT hC ?_)
  refine wpAny_bind ?_
  unfold isInstance
  refine wpAny_bind ?_
  unfold typeOf
  refine wpAny_bind (wpAny_loadPart_at hget (wpAny_pure (wpAny_isSubtype_exc hC₁ ?_)))
  rw [hcC]
  refine wpAny_ite_false rfl (wpAny_bind (wpAny_holding ?_))
  unfold callSpecial?
  refine wpAny_bind ?_
  unfold specialOf
  refine wpAny_bind ?_
  unfold typeOf
  refine wpAny_bind (wpAny_loadPart_at hget (wpAny_pure ?_))
  refine PySem.W.Looks.at i1 (wpAny_holding (wpAny_bind (PySem.W.Looks.at b1 (wpAny_bind (wpAny_call (codeAny_mono hq fun r s' z => ?_))))))
  match r, z with
  | .error e, z => exact z
  | .ok (.ret v), z =>
    obtain ⟨rfl, z⟩ := z
    exact wpAny_pure (wpAny_pure z)

theorem sig_tc : Manifest.signature? "type.__call__" = some { machinery := Manifest.Machinery.hand, full := "wrapper __call__", short := "", receiver := Manifest.Receiver.self, params := [] } := by rfl
theorem kind_tc : builtinKind "type.__call__" = some Manifest.AttrKind.slot := by decide +kernel
theorem split_tc : splitId "type.__call__" = some ("type", "__call__") := by decide +kernel
theorem check_tc_kw (C : Addr) (x : Str) (v : Value) : checkBuiltinCall "type.__call__" { pos := [Value.ref C], kw := [(x, v)] } = checkBuiltinCall "type.__call__" { pos := [Value.ref C] } := by
  have key : Bind.checkArgs "type.__call__" { machinery := Manifest.Machinery.hand, full := "wrapper __call__", short := "", receiver := Manifest.Receiver.self, params := [] } { pos := [Value.ref C], kw := [(x, v)] } = Bind.checkArgs "type.__call__" { machinery := Manifest.Machinery.hand, full := "wrapper __call__", short := "", receiver := Manifest.Receiver.self, params := [] } { pos := [Value.ref C] } := by
    unfold Bind.checkArgs
    rfl
  unfold checkBuiltinCall
  rw [sig_tc, kind_tc, split_tc]
  simp only [key]
theorem call_own_kw {prog : Program} {w : World} {A : Around} {R : Result → Shared → Prop} {h : Heap} {g : Array GenState} {d : Drawn} {t : Nat} {os : OsState} {nm q : Str} {C N : Addr} {bs bm bmB : List Value} {hdct : Bool} {sn : List Str} {sub : List Value} {ab : Bool} {col : Option Bool} {dd : Option Addr} {k0 k1 k2 k3 k5 : Option Value} {B newId initId : String}
    (F : ExcBaseFacts B newId initId bmB) (hT : ∀ Y : String, bm.contains (Value.type Y) = bmB.contains (Value.type Y)) {x : Str} {v : Value} {fI : Addr} (hC : h.get? C = some (excClassObj nm q C N bs bm hdct sn sub ab col dd k0 k1 k2 k3 k5 newId))
    (hi : PySem.W.Looks (model prog w) h (typeLookup (Value.ref C) (Str.ofString "__init__")) (some (Value.ref fI))) (hb : ∀ self : Value, PySem.W.Looks (model prog w) h (bindSpecial (Value.ref fI) self) (Value.ref fI, [self]))
    (hq : codeAny (model prog w) (A.under (Code.builtin "type.__call__" { pos := [Value.ref C], kw := [(x, v)] })) (Code.call (Value.ref fI) { pos := [Value.ref (h.objs.size + 1)], kw := [(x, v)] }) (PySem.W.InitBack (h.objs.size + 1) R) { heap := (h.push (PySem.W.kdv_tup [])).push (HandSPX.excO C h.objs.size), gens := g, drawn := d, toks := t, os := os }) :
    codeAny (model prog w) A (Code.call (Value.ref C) { pos := [], kw := [(x, v)] }) R { heap := h, gens := g, drawn := d, toks := t, os := os } := by
  have hTy : Shared.TypeIs { heap := h, gens := g, drawn := d, toks := t, os := os } (Value.ref C) "type" := ⟨_, hC, rfl⟩
  refine codeAny_of_tree ?_
  show wpAny _ _ (_ >>= _) _ _ _
  refine wpAny_bind (wpAny_load' hC ?_)
  show wpAny _ _ (callAny.viaDunder (Value.ref C) { pos := [], kw := [(x, v)] }) _ _ _
  unfold callAny.viaDunder
  refine wpAny_bind (wpAny_specialOf hTy tc_lookup (wpAny_bind (wpAny_of_eq (tc_bind (Value.ref C)) (wpAny_bind ?_))))
  show wpAny _ _ (pure _) _ _ _
  refine wpAny_pure (wpAny_ite_true rfl ?_)
  show wpAny _ _ (pure _) _ _ _
  refine wpAny_pure ⟨rfl, codeAny_call_builtin_at (Code.quiet_builtin _ (by decide +kernel)) entry_typeCall ?_⟩
  show wpAny _ _ (checkBuiltinCall "type.__call__" { pos := [Value.ref C], kw := [(x, v)] }) _ _ _
  rw [check_tc_kw]
  refine wpAny_check_type_call_sub hC (type_call_kw F hT hC hi hb (codeAny_mono hq fun r s' z => ?_))
  match r, z with
  | .error e, z => exact z
  | .ok (.ret v), z => exact z
end Gx

/-! X3: the program's own __init__; exceptions made, as data. -/
namespace Gx
open PySem PySem.Spec L2
open PyProof.Rows hiding St

abbrev iSt (bx tx : Str) (p1 p2 p3 p4 p5 p6 p7 p8 p9 p10 p11 p12 p13 p14 p15 : Pos) : Stmt :=
  .FunctionDef (name := "__init__") (args := { posonlyargs := [], args := [{ arg := "self", annotation := none, pos := p1 }, { arg := "number", annotation := none, pos := p2 }], vararg := none, kwonlyargs := [], kw_defaults := [], kwarg := none, defaults := [] })
    (body := [.Expr (.Call (.Attribute (.Name bx p3) "__init__" p4) [.Name "self" p5, .JoinedStr [.Constant (.str tx) 0 p6, .FormattedValue (.Name "number" p7) (-1) none p8] p9] [] p10) p10,
      .Assign [.Attribute (.Name "self" p11) "number" p12] (.Name "number" p13) p14])
    (decorator_list := []) (returns := none) (type_params := [])
    (scope := { kind := .function, names := [(Str.ofString "self", .local), (Str.ofString "number", .local), (bx, .globalImplicit)], isGenerator := false, isCoroutine := false, more := [] }) (tscope := none) (bind := "__init__") (pos := p15)
/-- a number whose text is short -/
def okN (n : Int) : Bool := decide (n.natAbs < 2 ^ 63)
theorem okN_log {n : Int} (h : okN n = true) : n.natAbs.log2 < 1920 := by
  have h' : n.natAbs < 2 ^ 63 := of_decide_eq_true h
  by_cases z : n.natAbs = 0
  · rw [z]; decide
  · have := (Nat.log2_lt z).mpr h'
    omega
theorem okN_len {n : Int} (h : okN n = true) : (Str.ofString (toString n)).length ≤ 64 := by
  have h' : n.natAbs < 2 ^ 63 := of_decide_eq_true h
  rw [PySem.ofString_length]
  cases n with
  | ofNat m =>
    have : (toString (Int.ofNat m)) = m.repr := rfl
    rw [this]
    have := PySem.nat_repr_length_le (n := m) (k := 63) (by decide) h'
    omega
  | negSucc m =>
    have : (toString (Int.negSucc m)) = "-" ++ (m + 1).repr := rfl
    rw [this, String.length_append]
    have := PySem.nat_repr_length_le (n := m + 1) (k := 63) (by decide) h'
    have e : ("-" : String).length = 1 := by decide
    omega
def spI (C : Addr) : Sp := fun vs H Q _ => ∃ a n, vs = [.ref a, .int n] ∧ okN n = true ∧ H a = some (exo a C none) ∧ ∀ dx : Addr, H dx = none → dx ≠ a → Q .non (upd (upd H dx (exd dx [(("number" : Str), .int n)])) a (exo a C (some dx)))
section
variable {P : Program} {w : World} {K : PySem.W.Frag} {mg : Str → Option Value} {base : Heap} {C f : Addr} {qual : Str} {fd : FuncData} {newId initId : String} {bmB : List Value}
theorem str_app (a b : Str) : (a ++ b).length = a.length + b.length := by
  show (a.cps ++ b.cps).size = _
  rw [Array.size_append]
  rfl
theorem pure_init {B : String} {T : OexG K C B newId bmB} (hno : PySem.W.findIn K (Value.ref C) "number" = some none) {tx : Str} (hx : tx.length ≤ 100) (vs : List V) (H : Hp) (Q : VK) (E : XK) (h : spI C vs H Q E) :
    (tSeq (tDrop (tBI B newId bmB K (tCons (tVar 0) (tCons (fun σ H Q => tJs [tC (.str tx), tFmt (tVar 1)] Str.empty σ H fun out H1 => Q (V.str out) H1) tNil)))) (tOsG B newId bmB K "number" (tVar 0) (tVar 1))) { nx := fun _ H' => Q .non H', rt := Q } (L2.start ["self", "number"] vs) H := by
  obtain ⟨a, n, rfl, ok, ea, q⟩ := h
  have l0 : (Str.empty ++ tx).length ≤ 100 := by
    rw [str_app]
    show 0 + tx.length ≤ 100
    omega
  refine ⟨.ref a, rfl, ?_⟩
  refine ⟨tx, rfl, by rw [sizeLine_eq]; omega, .int n, rfl, .inr ⟨n, rfl, okN_log ok, _, rfl, ?_, ?_⟩⟩
  · rw [str_app, sizeLine_eq]
    have := okN_len ok
    omega
  · refine ⟨a, C, _, rfl, by simp, T, ea, ?_⟩
    exact ⟨.int n, rfl, .ref a, rfl, a, C, rfl, T, hno, ea, fun dx n1 n2 => q dx n1 n2⟩
theorem ev_meth {env : Env} {x nm : Str} {es : List Expr} {p3 p4 p10 : Pos} (hl : (p4.endLine == p10.line) = true) (hf : methodCallForm (es.length + 0) (backTo p10 (starEach es env)) (backToKw p10 (keywordEach [] env)) = true) : eval (((Expr.Name x p3).Attribute nm p4).Call es [] p10) env = (do
    let ov ← eval (Expr.Name x p3) env
    standAt p4.atName
    let y ← holding [ov] (getMethod ov nm (do
      let b ← importBound (Expr.Name x p3) env
      pure (b.getD true)))
    match y with
      | (f_1, first) => callWith p10 f_1 first (backTo p10 (starEach es env)) (backToKw p10 (keywordEach [] env))) := by
  have e1 : ∀ few, methodCallPos few (Expr.Name x p3) env p4 p10 = pure p10 := fun few => by
    unfold methodCallPos
    rw [hl, Bool.or_true]
    rfl
  have e2 : ∀ ov, methodCall (Expr.Name x p3) nm p4 p10 env ov (es.length + 0) (backTo p10 (starEach es env)) (backToKw p10 (keywordEach [] env)) = (do
      let y ← holding [ov] (getMethod ov nm (do
        let b ← importBound (Expr.Name x p3) env
        pure (b.getD true)))
      match y with
        | (f_1, first) => callWith p10 f_1 first (backTo p10 (starEach es env)) (backToKw p10 (keywordEach [] env))) := fun ov => by
    unfold methodCall
    rw [hf]
    simp only [e1]
    rfl
  have e3 : eval (((Expr.Name x p3).Attribute nm p4).Call es [] p10) env = (do
    let ov ← eval (Expr.Name x p3) env
    standAt p4.atName
    methodCall (Expr.Name x p3) nm p4 p10 env ov (es.length + 0) (backTo p10 (starEach es env)) (backToKw p10 (keywordEach [] env))) := by rfl
  rw [e3]
  simp only [e2]
theorem pe_binitL {X : Cx} {B newId initId : String} {bmB : List Value} {x : Str} {e : Expr} {es : List Expr} {ta : TA} {p1 p2 pos : Pos} (hl : (p2.endLine == pos.line) = true) (BG : BaseG B newId initId bmB) (hg : Gl X x) (hm : X.mg x = none) (hv : bootBuiltins x = some (.type B)) (hi : PySem.W.findCls X.K (Value.type B) (Value.type "type") (Str.ofString "__init__") = some (PySem.W.CFound.val (Value.builtin initId))) (ha : PA X (e :: es) ta)
    (hf : methodCallForm ((e :: es).length + 0) (backTo pos (starEach (e :: es) X.env)) (backToKw pos (keywordEach [] X.env)) = true := by rfl)
    (hn : x ≠ "__name__" := by decide) (hdb : (x == ("__debug__" : Str)) = false := by decide) (he : starEach (e :: es) X.env = (false, eval e X.env) :: starEach es X.env := by rfl) (hpl : (backTo pos (starEach es X.env)).any (·.1) = false := by rfl) :
    PE X (.Call (.Attribute (.Name x p1) (Str.ofString "__init__") p2) (e :: es) [] pos) (tBI B newId bmB X.K ta) := pe_binit BG hg hm hv hi ha hn hdb (ev_meth hl hf) he hpl
theorem sc_init {bx tx : Str} (p1 p2 p3 p4 p5 p6 p7 p8 p9 p10 p11 p12 p13 p14 p15 : Pos) : FnScope ["self", "number"] ["self", "number"] (defScope (iSt bx tx p1 p2 p3 p4 p5 p6 p7 p8 p9 p10 p11 p12 p13 p14 p15)) := by
  refine ⟨rfl, rfl, rfl, by decide +kernel, rfl, ?_, ?_⟩
  · intro x hx
    simp at hx
    rcases hx with rfl | rfl
    · exact .inl rfl
    · exact .inl rfl
  · intro y hy
    simp [defScope] at hy
    rcases hy with rfl | rfl | rfl <;> simp
theorem ok_initLE {tx : Str} {p1 p2 p3 p4 p5 p6 p7 p8 p9 p10 p11 p12 p13 p14 p15 : Pos} (F : Fun K "__init__" qual (iSt "LookupError" tx p1 p2 p3 p4 p5 p6 p7 p8 p9 p10 p11 p12 p13 p14 p15) f fd) (T : OexG K C "LookupError" "LookupError.__new__" bmLE) (hx : tx.length ≤ 100)
    (hno : PySem.W.findIn K (Value.ref C) "number" = some none) (hi : PySem.W.findCls K (Value.type "LookupError") (Value.type "type") "__init__" = some (PySem.W.CFound.val (Value.builtin "LookupError.__init__"))) (hm : mg "LookupError" = none) (hl : (p4.endLine == p10.line) = true) :
    FnOk P w K mg base (L2.CX P w) 2 f fd ["self", "number"] (spI C) := by
  refine F.okX (sc_init p1 p2 p3 p4 p5 p6 p7 p8 p9 p10 p11 p12 p13 p14 p15) (fun vs H Q E h => ?_) (fun cdv A outer s H vs Q E hr h => ⟨_, ?_, pure_init (T := T) hno hx vs H Q E h⟩)
  · obtain ⟨a, n, rfl, _⟩ := h
    rfl
  · exact pss_cons (ps_expr (pe_binitL hl baseLE (by rfl) hm PyProof.Rows.Boot.LookupError hi (pa_cons (pv 0) (pa_cons (pe_joined (.cons pe_str (.cons (pe_fmt (pv 1)) .nil))) pa_nil))))
      (pss_one (ps_ostG baseLE (pv 0) (pv 1)))
theorem ok_initVE {tx : Str} {p1 p2 p3 p4 p5 p6 p7 p8 p9 p10 p11 p12 p13 p14 p15 : Pos} (F : Fun K "__init__" qual (iSt "ValueError" tx p1 p2 p3 p4 p5 p6 p7 p8 p9 p10 p11 p12 p13 p14 p15) f fd) (T : OexG K C "ValueError" "ValueError.__new__" bmVE) (hx : tx.length ≤ 100)
    (hno : PySem.W.findIn K (Value.ref C) "number" = some none) (hi : PySem.W.findCls K (Value.type "ValueError") (Value.type "type") "__init__" = some (PySem.W.CFound.val (Value.builtin "ValueError.__init__"))) (hm : mg "ValueError" = none) (hl : (p4.endLine == p10.line) = true) :
    FnOk P w K mg base (L2.CX P w) 2 f fd ["self", "number"] (spI C) := by
  refine F.okX (sc_init p1 p2 p3 p4 p5 p6 p7 p8 p9 p10 p11 p12 p13 p14 p15) (fun vs H Q E h => ?_) (fun cdv A outer s H vs Q E hr h => ⟨_, ?_, pure_init (T := T) hno hx vs H Q E h⟩)
  · obtain ⟨a, n, rfl, _⟩ := h
    rfl
  · exact pss_cons (ps_expr (pe_binitL hl baseVE (by rfl) hm PyProof.Rows.Boot.ValueError hi (pa_cons (pv 0) (pa_cons (pe_joined (.cons pe_str (.cons (pe_fmt (pv 1)) .nil))) pa_nil))))
      (pss_one (ps_ostG baseVE (pv 0) (pv 1)))
end
section
variable {X : Cx} {E : XK} {pos p : Pos} {C fI : Addr} {x : Str} {B newId initId : String} {bmB : List Value} {k : Nat} {fd : FuncData} {ps : List Str} {sp : Sp}
/-- C(..) -/
def tMkV (C : Addr) (sp : Sp) (ta : TA) : TE := fun σ H Q => ta σ H fun vs H1 => vs.length ≤ 1000 ∧ ∀ a : Addr, H1 a = none → sp (V.ref a :: vs) (upd H1 a (exo a C none)) (fun v H2 => v = .non ∧ Q (.ref a) H2) fun _ _ _ => False
theorem run_mkX {pins : List (Addr × Obj)} {σ : St} {H1 : Hp} {s1 : Shared} {Q : VK} {us : List Value} {vs : List V} (BG : BaseG B newId initId bmB) (T : OexG X.K C B newId bmB) (iC : PySem.W.findIn X.K (Value.ref C) "__init__" = some (some (.ref fI))) (tI : PySem.W.typeIn X.K (.ref fI) = some (.type "function"))
    (F1 : FnOk X.prog X.w X.K X.mg X.base (L2.CX X.prog X.w) k fI fd ps sp) (hr : Room (k + 1) X.A) (hb : Binds X.K fd ps []) (hx : Passes (L2.CX X.prog X.w) X fun _ _ _ => False) (I1 : L2.Inv X pins σ H1 s1) (r1 : Vals vs us) (hz : vs.length ≤ 1000)
    (q1 : ∀ a : Addr, H1 a = none → sp (V.ref a :: vs) (upd H1 a (exo a C none)) (fun v H2 => v = .non ∧ Q (.ref a) H2) fun _ _ _ => False) :
    wpAny (model X.prog X.w) X.A (call (Value.ref C) us) (EP X pins σ Q) X.xe s1 := by
  obtain ⟨nm, q, N, bs, bm, sn, sub, ab, col, dd, k0, k1, k2, k3, k5, hC, hbm⟩ := T.cls
  obtain ⟨hp, g, dr, tk, os⟩ := s1
  have hsz : hp.objs.size ≤ hp.objs.size + 1 := Nat.le_succ _
  have hn := I1.hok.fresh hsz
  have hq := q1 (hp.objs.size + 1) hn
  have kk : ∀ b o, hp.get? b = some o → ((hp.push (PySem.W.kdv_tup us)).push (HandSPX.excO C hp.objs.size)).get? b = some o := fun b o e => Heap.get?_push_of_some _ (Heap.get?_push_of_some _ e)
  have hget : ((hp.push (PySem.W.kdv_tup us)).push (HandSPX.excO C hp.objs.size)).get? (hp.objs.size + 1) = some (HandSPX.excO C hp.objs.size) := Heap.get?_push_at (by simp) rfl
  have I2 : L2.Inv X pins σ (upd H1 (hp.objs.size + 1) (exo (hp.objs.size + 1) C none)) ⟨_, g, dr, tk, os⟩ := I1.laid (t' := tk) kk hsz (exo_ok hget)
  have r2 : Vals (V.ref (hp.objs.size + 1) :: vs) (Value.ref (hp.objs.size + 1) :: us) := .cons rfl r1
  have hl : (Value.ref (hp.objs.size + 1) :: us).length = ps.length := by
    have e := r2.length
    have e2 := F1.len _ _ _ _ hq
    omega
  have hus : us.length ≤ sizeLine := by
    have := r1.length
    rw [sizeLine_eq]
    omega
  refine wpAny_call (HandSPX.call_own BG.ef hbm (I1.kIn C _ hC) (PySem.W.looks_findIn I1.kIn iC) (fun self => PySem.W.bind_fn I1.kIn self tI) hus (codeAny_mono (F1.run _ X.stack _ _ _ _ _ _ _ (hr.make C us []) (I2.env0.make C us []) (by
    have z := hb ⟨(hp.push (PySem.W.kdv_tup us)).push (HandSPX.excO C hp.objs.size), g, dr, tk, os⟩ (Value.ref (hp.objs.size + 1) :: us) I2.kIn (by simpa using hl)
    simpa using z) r2 hq) fun r s' hq' => ?_))
  match r, hq' with
  | .error er, hq' => exact hx pins σ _ _ er s' I2 hq'
  | .ok (.ret u), hq' =>
    have hq2 : CE X.stack X.prog X.w _ _ _ u s' := hq'
    obtain ⟨v, H2, I3, rv, ev, q2⟩ := I2.after hq2
    subst ev
    obtain rfl : u = Value.none := rv
    exact ⟨rfl, .ref (hp.objs.size + 1), H2, I3, rfl, q2⟩
theorem pe_mkX {e : Expr} {es : List Expr} {ta : TA} (BG : BaseG B newId initId bmB) (T : OexG X.K C B newId bmB) (iC : PySem.W.findIn X.K (Value.ref C) "__init__" = some (some (.ref fI))) (tI : PySem.W.typeIn X.K (.ref fI) = some (.type "function"))
    (F1 : FnOk X.prog X.w X.K X.mg X.base (L2.CX X.prog X.w) k fI fd ps sp) (hr : Room (k + 1) X.A) (hb : Binds X.K fd ps []) (hx : Passes (L2.CX X.prog X.w) X fun _ _ _ => False) (hg : Gl X x) (hm : X.mg x = some (.ref C)) (ha : PA X (e :: es) ta)
    (hdb : (x == ("__debug__" : Str)) = false := by decide) (he : starEach (e :: es) X.env = (false, eval e X.env) :: starEach es X.env := by rfl) (hpl : (backTo pos (starEach es X.env)).any (·.1) = false := by rfl) :
    PE X (.Call (.Name x p) (e :: es) [] pos) (tMkV C sp ta) := by
  refine ⟨fun pins s σ H Q I h => ?_⟩
  refine wpAny_Call_Name_kw (ld_glob I hg hm ?_ hdb)
  refine PySem.W.callWith_K (h₀ := X.base) I.ok.mod.kin T.kC (thn (ha.run pos pins s σ H _ I h) fun us s1 hh => ?_) he hpl
  obtain ⟨vs, H1, I1, r1, hz, q1⟩ := hh
  exact ⟨I1.kIn, run_mkX BG T iC tI F1 hr hb hx I1 r1 hz q1⟩
theorem run_mkK {pins : List (Addr × Obj)} {σ : St} {H1 : Hp} {s1 : Shared} {Q : VK} {y : V} {u : Value} {nm : Str} (BG : BaseG B newId initId bmB) (T : OexG X.K C B newId bmB) (iC : PySem.W.findIn X.K (Value.ref C) "__init__" = some (some (.ref fI))) (tI : PySem.W.typeIn X.K (.ref fI) = some (.type "function"))
    (F1 : FnOk X.prog X.w X.K X.mg X.base (L2.CX X.prog X.w) k fI fd ps sp) (hr : Room (k + 1) X.A) (hb : ∀ (s : Shared) (u v : Value), BindsTo s fd ⟨[u], [(nm, v)]⟩ (ps.zip [u, v])) (hx : Passes (L2.CX X.prog X.w) X fun _ _ _ => False) (I1 : L2.Inv X pins σ H1 s1) (r1 : RelV y u)
    (q1 : ∀ a : Addr, H1 a = none → sp [V.ref a, y] (upd H1 a (exo a C none)) (fun v H2 => v = .non ∧ Q (.ref a) H2) fun _ _ _ => False) :
    wpAny (model X.prog X.w) X.A (call (Value.ref C) [] [(nm, u)]) (EP X pins σ Q) X.xe s1 := by
  obtain ⟨nm, q, N, bs, bm, sn, sub, ab, col, dd, k0, k1, k2, k3, k5, hC, hbm⟩ := T.cls
  obtain ⟨hp, g, dr, tk, os⟩ := s1
  have hsz : hp.objs.size ≤ hp.objs.size + 1 := Nat.le_succ _
  have hn := I1.hok.fresh hsz
  have hq := q1 (hp.objs.size + 1) hn
  have kk : ∀ b o, hp.get? b = some o → ((hp.push (PySem.W.kdv_tup [])).push (HandSPX.excO C hp.objs.size)).get? b = some o := fun b o e => Heap.get?_push_of_some _ (Heap.get?_push_of_some _ e)
  have hget : ((hp.push (PySem.W.kdv_tup [])).push (HandSPX.excO C hp.objs.size)).get? (hp.objs.size + 1) = some (HandSPX.excO C hp.objs.size) := Heap.get?_push_at (by simp) rfl
  have I2 : L2.Inv X pins σ (upd H1 (hp.objs.size + 1) (exo (hp.objs.size + 1) C none)) ⟨_, g, dr, tk, os⟩ := I1.laid (t' := tk) kk hsz (exo_ok hget)
  have r2 : Vals [V.ref (hp.objs.size + 1), y] [Value.ref (hp.objs.size + 1), u] := .cons rfl (.cons r1 .nil)
  refine wpAny_call (call_own_kw BG.ef hbm (I1.kIn C _ hC) (PySem.W.looks_findIn I1.kIn iC) (fun self => PySem.W.bind_fn I1.kIn self tI) (codeAny_mono (F1.run _ X.stack _ _ _ _ _ _ _ (hr.make C [] _) (I2.env0.make C [] _) (hb _ _ _) r2 hq) fun r s' hq' => ?_))
  match r, hq' with
  | .error er, hq' => exact hx pins σ _ _ er s' I2 hq'
  | .ok (.ret u), hq' =>
    have hq2 : CE X.stack X.prog X.w _ _ _ u s' := hq'
    obtain ⟨v, H2, I3, rv, ev, q2⟩ := I2.after hq2
    subst ev
    obtain rfl : u = Value.none := rv
    exact ⟨rfl, .ref (hp.objs.size + 1), H2, I3, rfl, q2⟩
/-- C(nm=e) -/
def tMkW (C : Addr) (sp : Sp) (te : TE) : TE := fun σ H Q => tCons te tNil σ H fun vs H1 => ∃ y, vs = [y] ∧ ∀ a : Addr, H1 a = none → sp [V.ref a, y] (upd H1 a (exo a C none)) (fun v H2 => v = .non ∧ Q (.ref a) H2) fun _ _ _ => False
theorem pe_mkK {e : Expr} {te : TE} {kpos : Pos} {nm : Str} (BG : BaseG B newId initId bmB) (T : OexG X.K C B newId bmB) (iC : PySem.W.findIn X.K (Value.ref C) "__init__" = some (some (.ref fI))) (tI : PySem.W.typeIn X.K (.ref fI) = some (.type "function"))
    (F1 : FnOk X.prog X.w X.K X.mg X.base (L2.CX X.prog X.w) k fI fd ps sp) (hr : Room (k + 1) X.A) (hb : ∀ (s : Shared) (u v : Value), BindsTo s fd ⟨[u], [(nm, v)]⟩ (ps.zip [u, v])) (hx : Passes (L2.CX X.prog X.w) X fun _ _ _ => False) (hg : Gl X x) (hm : X.mg x = some (.ref C)) (he : PE X e te)
    (hdb : (x == ("__debug__" : Str)) = false := by decide) (h1 : ((backToKw pos (keywordEach [⟨some nm, e, kpos⟩] X.env)).all fun x => x.fst.isSome) = true := by rfl) (h2 : List.filterMap (fun x => x.fst) (backToKw pos (keywordEach [⟨some nm, e, kpos⟩] X.env)) = [nm] := by rfl)
    (h3 : (((backTo pos (starEach [] X.env)).any fun x => x.fst) || (backToKw pos (keywordEach [⟨some nm, e, kpos⟩] X.env)).any fun x => x.fst.isNone) = false := by rfl) :
    PE X (.Call (.Name x p) [] [⟨some nm, e, kpos⟩] pos) (tMkW C sp te) := by
  refine ⟨fun pins s σ H Q I h => ?_⟩
  refine wpAny_Call_Name_kw (ld_glob I hg hm ?_ hdb)
  refine PySem.W.callWith_KW0 (h₀ := X.base) I.ok.mod.kin T.kC h1 (thn ((pk_cons he pk_nil).run pos pins s σ H _ I h) fun us s1 hh => ?_) h3
  obtain ⟨vs, H1, I1, r1, y, ev, q1⟩ := hh
  subst ev
  refine ⟨I1.kIn, ?_⟩
  rw [h2]
  cases r1 with
  | cons ry rn =>
    cases rn
    exact run_mkK BG T iC tI F1 hr hb hx I1 ry q1
end
end Gx

/-! X4: exceptions without an own __init__, the field, isinstance. -/
namespace Gx
open PySem PySem.Spec L2
open PyProof.Rows hiding St

/-- what is asked of a class so that its things' class can be asked for -/
structure XCl (K : PySem.W.Frag) (C : Addr) : Prop where
  cl : (PySem.W.clsIn K C).isSome = true
  ga : PySem.W.findIn K (Value.ref C) "__getattribute__" = some (some (Value.builtin "BaseException.__getattribute__"))
  gg : PySem.W.findIn K (Value.ref C) "__getattr__" = some none
  exC : PySem.W.subIn K (Value.ref C) (Value.type "BaseException") = some true
  hd : PySem.W.hasDictIn K C = true
  gc : PySem.W.findIn K (Value.ref C) "__class__" = some (some (Value.builtin "object.__class__"))
  sp : PySem.W.specialIn K (Value.builtin "object.__class__") "__get__" = some (some (Value.builtin "getset_descriptor.__get__"))
  tk : PySem.W.takesIn K (Value.builtin "object.__class__") = some true
  mr : PySem.W.mroIn K C (Value.type "object") = some true
section
variable {X : Cx} {pos p : Pos} {C : Addr} {x : Str} {B newId initId : String} {bmB : List Value} {k : Nat}
/-- C() of a class without an own __init__ -/
theorem pe_mk0 (EF : ExcBaseFacts B newId initId bmB) (hx : PySem.W.excIn X.K C bmB newId = true) (kC : PySem.W.keepIn X.K (Value.ref C) = true) (hg : Gl X x) (hm : X.mg x = some (.ref C)) (hdb : (x == ("__debug__" : Str)) = false := by decide) :
    PE X (.Call (.Name x p) [] [] pos) fun σ H Q => ∀ a : Addr, H a = none → Q (.ref a) (upd H a (exo a C none)) := by
  refine ⟨fun pins s σ H Q I h => ?_⟩
  refine wpAny_Call_Name_kw (ld_glob I hg hm ?_ hdb)
  refine PySem.W.callWith_K0 I.kIn kC ?_
  obtain ⟨bm, N, nm, qn, bs, hdct, sn, sub, ab, col, dd, k0, k1, k2, k3, k5, mN, hC, hN, hi, ht⟩ := exc_obj I.kIn hx
  obtain ⟨hp, g, dr, tk, os⟩ := s
  refine wpAny_call_exc_subT EF ht hC hN hi (fun h' e M => ?_) (by rw [sizeLine_eq]; decide)
  obtain ⟨t, ho, _⟩ := M.there
  have hn : H e = none := I.hok.gone M.new
  exact ⟨.ref e, _, I.laidN (t' := tk) M.keeps M.new hn (exo_ok ho), rfl, h e hn⟩
theorem inst_at {pins : List (Addr × Obj)} {σ : St} {H : Hp} {s : Shared} {a : Addr} {d : Option Addr} (I : L2.Inv X pins σ H s) (ha : H a = some (exo a C d)) (hd : ∀ dd, d = some dd → ∃ fs, H dd = some (exd dd fs)) : ∃ ox od, PySem.W.InstAt s.heap a ox C od := by
  obtain ⟨t1, ho⟩ := exo_at I.hok ha
  cases d with
  | none => exact ⟨_, none, ho, rfl, rfl, trivial⟩
  | some dd =>
    obtain ⟨fs, hf⟩ := hd dd rfl
    obtain ⟨mA, hns, _⟩ := exd_at I.hok hf
    obtain ⟨od, h1, _⟩ := lookIn_ns hns
    exact ⟨_, some od, ho, rfl, rfl, h1⟩
/-- e.number -/
def tNum (K : PySem.W.Frag) (f : Str) (te : TE) : TE := fun σ H Q => te σ H fun x H1 => ∃ a C d v, x = .ref a ∧ XCl K C ∧ PySem.W.findIn K (Value.ref C) f = some none ∧ H1 a = some (exo a C (some d)) ∧ H1 d = some (exd d [(f, v)]) ∧ Q v H1
theorem pe_num {e : Expr} {te : TE} {f : Str} (he : PE X e te) (hb : attributeBase e f X.env (eval e X.env) = eval e X.env := by rfl) : PE X (.Attribute e f pos) (tNum X.K f te) := by
  refine ⟨fun pins s σ H Q I h => ?_⟩
  refine attr_of hb (thn (he.run pins s σ H _ I h) fun u s1 hh => ?_)
  obtain ⟨x, H1, I1, rx, a, C, d, v, ex, T, hno, ea, ed, q⟩ := hh
  subst ex
  obtain rfl : u = Value.ref a := rx
  obtain ⟨t1, ho⟩ := exo_at I1.hok ea
  obtain ⟨mA, hns, hr⟩ := exd_at I1.hok ed
  obtain ⟨od, h1, hl⟩ := lookIn_ns hns
  have l : List.lookup f [(f, v)] = some v := by simp [List.lookup]
  obtain ⟨u, hu, ru⟩ := RelO.some_of (v := v) (o := mA f) (by rw [← l]; exact hr f)
  have J : PySem.W.InstAt s1.heap a _ C (some od) := ⟨ho, rfl, rfl, h1⟩
  exact HandSPX.exc_get I1.kIn J T.ga T.gg T.exC (PySem.W.findObj_own T.hd hno rfl (by rw [hl, hu])) (handed_of ru) ⟨v, H1, I1.tok _, ru, q⟩
/-- isinstance(e, T), e an exception of the program -/
def rIsX (K : PySem.W.Frag) : List V → Hp → VK → Prop := fun xs H Q => ∃ a c u C d b, xs = [.ref a, c] ∧ ClsV c u ∧ H a = some (exo a C d) ∧ (∀ dd, d = some dd → ∃ fs, H dd = some (exd dd fs)) ∧ XCl K C ∧ PySem.W.kitOne K (.ref C) u = some b ∧ Q (.bl b) H
theorem call_isX : CallR X (.builtin "isinstance") (rIsX X.K) := by
  intro pins s σ H xs us Q I rx h
  obtain ⟨a, c, u, C, d, b, ex, hc, ha, hd, T, hk, q⟩ := h
  subst ex
  obtain ⟨ox, od, J⟩ := inst_at I ha hd
  cases rx with
  | cons r1 r2 =>
    cases r2 with
    | @cons _ u2 _ us2 r2 r3 =>
      cases r3
      obtain rfl := (show _ = Value.ref a from r1)
      have e2 : u2 = u := by
        cases hc with
        | ty n => exact r2
        | own D => exact r2
      rw [e2]
      exact PySem.W.kia_one (PySem.W.kitx_exc T.cl T.ga T.gg T.exC T.gc T.sp T.tk T.mr) I.kIn J hk (by intro z; cases z) fun tk => ⟨.bl b, H, I.tok _, rfl, q⟩
end
end Gx

/-! G3: the operators and built-in functions, over data. -/
namespace Gx
open PySem PySem.Spec L2
open PyProof.Rows hiding St

section
variable {X : Cx} {E : XK} {pos : Pos}
theorem opR_wk {f : Value → Value → Sem Value} {r r' : R2} (h : OpR X f r) (w : ∀ x y H Q, r' x y H Q → r x y H Q) : OpR X f r' := fun pins s σ H x y v u Q I rx ry q => h pins s σ H x y v u Q I rx ry (w _ _ _ _ q)
theorem callR_wk {f : Value} {r r' : List V → Hp → VK → Prop} (h : CallR X f r) (w : ∀ xs H Q, r' xs H Q → r xs H Q) : CallR X f r' := fun pins s σ H xs us Q I rx q => h pins s σ H xs us Q I rx (w _ _ _ q)
theorem ixR_wk {r r' : R2} (h : IxR X r) (w : ∀ x y H Q, r' x y H Q → r x y H Q) : IxR X r' := fun vl sl pins s σ H x y v u Q I rx ry q z => h vl sl pins s σ H x y v u Q I rx ry (w _ _ _ _ q) z
theorem unR_wk {f : Value → Sem Value} {r r' : V → Hp → VK → Prop} (h : UnR X f r) (w : ∀ x H Q, r' x H Q → r x H Q) : UnR X f r' := fun pins s σ H x v Q I rx q => h pins s σ H x v Q I rx (w _ _ _ q)
theorem len_le {vs : List V} {xs : List PyData} {F : Hp} (h : DqAll F vs xs) : vs.length = xs.length := dps_len h
def fI (i : Int) : Option Rv := some (.fz (.int i))
def fB (b : Bool) : Option Rv := some (.fz (.bool b))
/-! ### arithmetic -/
def addD (d e : PyData) : Option Rv := match d, e with
  | .int i, .int j => fI (i + j)
  | .list xs, .list ys => if okLen (xs.length + ys.length) then some (.ol (xs ++ ys)) else none
  | .tuple xs, .tuple ys => if okLen (xs.length + ys.length) then some (.fz (.tuple (xs ++ ys))) else none
  | _, _ => none
theorem op_addD : OpD X (binaryOp .Add) addD := opR_wk ((op_add.or op_cat).or op_catA) fun x y H Q h => by
  obtain ⟨F, d, e, r, s, h1, h2, hr, q⟩ := h
  cases h1 with
  | int i =>
    cases h2 with
    | int j => cases hr; exact .inl (.inl ⟨i, j, rfl, rfl, q _ F H (Grow.refl s) (.int _)⟩)
    | _ => cases hr
  | @lst a vs xs ha hx =>
    cases h2 with
    | @lst b us ys hb hy =>
      have hr' : (if okLen (xs.length + ys.length) then some (Rv.ol (xs ++ ys)) else none) = some r := hr
      by_cases hl : okLen (xs.length + ys.length) = true
      · rw [if_pos hl] at hr'
        cases hr'
        refine .inl (.inr ⟨a, b, vs, us, rfl, rfl, s _ _ ha, s _ _ hb, by rw [len_le hx, len_le hy]; exact okLen_le hl, fun p np => q _ _ _ (Grow.own s np) ⟨p, _, rfl, np, upd_same, s.free np, dps_app hx hy⟩⟩)
      · rw [if_neg hl] at hr'
        cases hr'
    | _ => cases hr
  | @tup a vs xs ha hx =>
    cases h2 with
    | @tup b us ys hb hy =>
      have hr' : (if okLen (xs.length + ys.length) then some (Rv.fz (.tuple (xs ++ ys))) else none) = some r := hr
      by_cases hl : okLen (xs.length + ys.length) = true
      · rw [if_pos hl] at hr'
        cases hr'
        refine .inr ⟨a, b, vs, us, rfl, rfl, .inl (.inl (s _ _ ha)), .inl (.inl (s _ _ hb)), by rw [len_le hx, len_le hy]; exact okLen_le hl, fun e0 => q _ F H (Grow.refl s) ?_, fun _ e0 => q _ F H (Grow.refl s) ?_, fun _ _ p np => q _ _ _ (Grow.new s np) (.tup upd_same (dps_mono (same_new (s.free np)) _ _ (dps_app hx hy)))⟩
        · subst e0
          cases hx
          exact .tup hb hy
        · subst e0
          cases hy
          rw [List.append_nil]
          exact .tup ha hx
      · rw [if_neg hl] at hr'
        cases hr'
    | _ => cases hr
  | _ => cases hr
def subD (d e : PyData) : Option Rv := match d, e with
  | .int i, .int j => fI (i - j)
  | _, _ => none
theorem op_subD : OpD X (binaryOp .Sub) subD := opR_wk op_sub fun x y H Q h => by
  obtain ⟨F, d, e, r, s, h1, h2, hr, q⟩ := h
  cases h1 with
  | int i =>
    cases h2 with
    | int j => cases hr; exact ⟨i, j, rfl, rfl, q _ F H (Grow.refl s) (.int _)⟩
    | _ => cases hr
  | _ => cases h2 <;> cases hr
def w64 (i : Int) : Bool := decide (-2 ^ 64 < i) && decide (i < 2 ^ 64)
theorem w64_ok {i : Int} (h : w64 i = true) : -2 ^ 64 < i ∧ i < 2 ^ 64 := by
  unfold w64 at h
  rw [Bool.and_eq_true] at h
  exact ⟨of_decide_eq_true h.1, of_decide_eq_true h.2⟩
def mulD (d e : PyData) : Option Rv := match d, e with
  | .int i, .int j => if w64 i || w64 j then fI (i * j) else none
  | .list xs, .int k => if small62 k && okLen (xs.length * k.toNat) then some (.ol (List.replicate k.toNat xs).flatten) else none
  | _, _ => none
theorem op_mulD : OpD X (binaryOp .Mult) mulD := opR_wk (op_mul.or op_rep) fun x y H Q h => by
  obtain ⟨F, d, e, r, s, h1, h2, hr, q⟩ := h
  cases h1 with
  | int i =>
    cases h2 with
    | int j =>
      have hr' : (if w64 i || w64 j then fI (i * j) else none) = some r := hr
      by_cases c : (w64 i || w64 j) = true
      · rw [if_pos c] at hr'
        cases hr'
        refine .inl ⟨i, j, rfl, rfl, ?_, q _ F H (Grow.refl s) (.int _)⟩
        rw [Bool.or_eq_true] at c
        rcases c with c | c
        · exact .inl (w64_ok c)
        · exact .inr (w64_ok c)
      · rw [if_neg c] at hr'
        cases hr'
    | _ => cases hr
  | @lst a vs xs ha hx =>
    cases h2 with
    | int k =>
      have hr' : (if small62 k && okLen (xs.length * k.toNat) then some (Rv.ol (List.replicate k.toNat xs).flatten) else none) = some r := hr
      by_cases c : (small62 k && okLen (xs.length * k.toNat)) = true
      · rw [if_pos c] at hr'
        cases hr'
        rw [Bool.and_eq_true] at c
        obtain ⟨b1, b2⟩ := small62_ok c.1
        exact .inr ⟨a, k, vs, rfl, rfl, s _ _ ha, by omega, by omega, by rw [len_le hx]; exact okLen_le c.2, fun p np => q _ _ _ (Grow.own s np) ⟨p, _, rfl, np, upd_same, s.free np, dps_rep hx _⟩⟩
      · rw [if_neg c] at hr'
        cases hr'
    | _ => cases hr
  | _ => cases h2 <;> cases hr
def modD (d e : PyData) : Option Rv := match d, e with
  | .int i, .int j => if 0 < j then fI (i % j) else none
  | _, _ => none
theorem op_modD : OpD X (binaryOp .Mod) modD := opR_wk op_mod fun x y H Q h => by
  obtain ⟨F, d, e, r, s, h1, h2, hr, q⟩ := h
  cases h1 with
  | int i =>
    cases h2 with
    | int j =>
      have hr' : (if 0 < j then fI (i % j) else none) = some r := hr
      by_cases c : 0 < j
      · rw [if_pos c] at hr'
        cases hr'
        exact ⟨i, j, rfl, rfl, c, q _ F H (Grow.refl s) (.int _)⟩
      · rw [if_neg c] at hr'
        cases hr'
    | _ => cases hr
  | _ => cases h2 <;> cases hr
def fdivD (d e : PyData) : Option Rv := match d, e with
  | .int i, .int j => if 0 < j ∧ j < 1073741824 then fI (i / j) else none
  | _, _ => none
theorem op_fdivD : OpD X (binaryOp .FloorDiv) fdivD := opR_wk op_fdiv fun x y H Q h => by
  obtain ⟨F, d, e, r, s, h1, h2, hr, q⟩ := h
  cases h1 with
  | int i =>
    cases h2 with
    | int j =>
      have hr' : (if 0 < j ∧ j < 1073741824 then fI (i / j) else none) = some r := hr
      by_cases c : 0 < j ∧ j < 1073741824
      · rw [if_pos c] at hr'
        cases hr'
        exact ⟨i, j, rfl, rfl, c, q _ F H (Grow.refl s) (.int _)⟩
      · rw [if_neg c] at hr'
        cases hr'
    | _ => cases hr
  | _ => cases h2 <;> cases hr
def powD (d e : PyData) : Option Rv := match d, e with
  | .int i, .int j => if 0 ≤ j ∧ j ≤ 100 ∧ i.natAbs < 1000 then fI (i ^ j.toNat) else none
  | _, _ => none
theorem op_powD : OpD X (binaryOp .Pow) powD := opR_wk op_pow fun x y H Q h => by
  obtain ⟨F, d, e, r, s, h1, h2, hr, q⟩ := h
  cases h1 with
  | int i =>
    cases h2 with
    | int j =>
      have hr' : (if 0 ≤ j ∧ j ≤ 100 ∧ i.natAbs < 1000 then fI (i ^ j.toNat) else none) = some r := hr
      by_cases c : 0 ≤ j ∧ j ≤ 100 ∧ i.natAbs < 1000
      · rw [if_pos c] at hr'
        cases hr'
        exact ⟨i, j, rfl, rfl, ⟨c.1, by omega, by omega⟩, q _ F H (Grow.refl s) (.int _)⟩
      · rw [if_neg c] at hr'
        cases hr'
    | _ => cases hr
  | _ => cases h2 <;> cases hr
/-! ### comparisons -/
def ciD (p : Int → Int → Bool) (d e : PyData) : Option Rv := match d, e with
  | .int i, .int j => fB (p i j)
  | _, _ => none
theorem op_ciD {op : CmpOp} {p : Int → Int → Bool} (h : OpR X (compareOp op) (rI0 fun i j => .bl (p i j))) : OpD X (compareOp op) (ciD p) := opR_wk h fun x y H Q h => by
  obtain ⟨F, d, e, r, s, h1, h2, hr, q⟩ := h
  cases h1 with
  | int i =>
    cases h2 with
    | int j => cases hr; exact ⟨i, j, rfl, rfl, q _ F H (Grow.refl s) (.bl _)⟩
    | _ => cases hr
  | _ => cases h2 <;> cases hr
def ltD := ciD fun i j => decide (i < j)
def gtD := ciD fun i j => decide (j < i)
def leD := ciD fun i j => decide (i ≤ j)
def geD := ciD fun i j => decide (j ≤ i)
theorem op_ltD : OpD X (compareOp .Lt) ltD := op_ciD op_lt
theorem op_gtD : OpD X (compareOp .Gt) gtD := op_ciD op_gt
theorem op_leD : OpD X (compareOp .LtE) leD := op_ciD op_le
theorem op_geD : OpD X (compareOp .GtE) geD := op_ciD op_ge
theorem ci_bool {p : Int → Int → Bool} (d e : PyData) (r : Rv) (h : ciD p d e = some r) : ∃ k, r = .fz (.bool k) := by
  unfold ciD at h
  cases d <;> cases e <;> first | cases h | skip
  exact ⟨_, rfl⟩
def okEq (d e : PyData) : Bool := (cln d && cln e) && (SeqAt.shaped d && SeqAt.shaped e)
def eqD (d e : PyData) : Option Rv := if okEq d e then fB (d.eqv e) else none
def neD (d e : PyData) : Option Rv := if okEq d e then fB (!d.eqv e) else none
theorem op_eqDD (hu : X.A.units + 64 < cLine) : OpD X (compareOp .Eq) eqD := opR_wk (op_eqD hu) fun x y H Q h => by
  obtain ⟨F, d, e, r, s, h1, h2, hr, q⟩ := h
  unfold eqD at hr
  by_cases c : okEq d e = true
  · rw [if_pos c] at hr
    cases hr
    unfold okEq at c
    simp only [Bool.and_eq_true] at c
    exact ⟨d, e, dq_dp d x c.1.1 (dp_mono s d x h1), dq_dp e y c.1.2 (dp_mono s e y h2), c.2.1, c.2.2, q _ F H (Grow.refl s) (.bl _)⟩
  · rw [if_neg c] at hr
    cases hr
theorem op_neDD (hu : X.A.units + 64 < cLine) : OpD X (compareOp .NotEq) neD := opR_wk (op_neD hu) fun x y H Q h => by
  obtain ⟨F, d, e, r, s, h1, h2, hr, q⟩ := h
  unfold neD at hr
  by_cases c : okEq d e = true
  · rw [if_pos c] at hr
    cases hr
    unfold okEq at c
    simp only [Bool.and_eq_true] at c
    exact ⟨d, e, dq_dp d x c.1.1 (dp_mono s d x h1), dq_dp e y c.1.2 (dp_mono s e y h2), c.2.1, c.2.2, q _ F H (Grow.refl s) (.bl _)⟩
  · rw [if_neg c] at hr
    cases hr
def isNone : PyData → Bool
  | .none => true
  | _ => false
def isND (d e : PyData) : Option Rv := match e with
  | .none => fB (isNone d)
  | _ => none
theorem dq_non {F : Hp} {x : V} {d : PyData} (h : Dq F x d) : decide (x = .non) = isNone d := by
  cases h <;> simp [isNone]
theorem op_isND : OpD X (compareOp .Is) isND := opR_wk op_isN fun x y H Q h => by
  obtain ⟨F, d, e, r, s, h1, h2, hr, q⟩ := h
  cases h2 with
  | non =>
    cases hr
    refine ⟨rfl, ?_⟩
    rw [dq_non h1]
    exact q _ F H (Grow.refl s) (.bl _)
  | _ => cases hr
/-! ### items, functions -/
def ixD (d e : PyData) : Option Rv := match d, e with
  | .list xs, .int i => (atI xs i).map .fz
  | .tuple xs, .int i => (atI xs i).map .fz
  | _, _ => none
theorem dqs_at {F : Hp} {vs : List V} {xs : List PyData} {i : Int} {d : PyData} (h : DqAll F vs xs) (e : atI xs i = some d) : ∃ v, atI vs i = some v ∧ Dq F v d := by
  unfold atI at e ⊢
  rw [len_le h]
  obtain ⟨j, h1, h2⟩ := Option.bind_eq_some_iff.mp e
  obtain ⟨v, e1, e2⟩ := dps_get h h2
  exact ⟨v, by rw [h1]; exact e1, e2⟩
theorem ix_D : IxD X ixD := ixR_wk (ix_list.or ix_tup) fun x y H Q h => by
  obtain ⟨F, d, e, r, s, h1, h2, hr, q⟩ := h
  cases h1 with
  | @lst a vs xs ha hx =>
    cases h2 with
    | int i =>
      have hr' : (atI xs i).map Rv.fz = some r := hr
      obtain ⟨d, e1, e2⟩ := Option.map_eq_some_iff.mp hr'
      subst e2
      obtain ⟨v, e3, e4⟩ := dqs_at hx e1
      exact .inl ⟨a, vs, i, v, rfl, rfl, .of (s _ _ ha), e3, q _ F H (Grow.refl s) e4⟩
    | _ => cases hr
  | @tup a vs xs ha hx =>
    cases h2 with
    | int i =>
      have hr' : (atI xs i).map Rv.fz = some r := hr
      obtain ⟨d, e1, e2⟩ := Option.map_eq_some_iff.mp hr'
      subst e2
      obtain ⟨v, e3, e4⟩ := dqs_at hx e1
      exact .inr ⟨a, vs, i, v, rfl, rfl, .of (s _ _ ha), e3, q _ F H (Grow.refl s) e4⟩
    | _ => cases hr
  | _ => cases h2 <;> cases hr
def lenD : List PyData → Option Rv
  | [.list xs] => fI xs.length
  | [.tuple xs] => fI xs.length
  | _ => none
theorem call_lenDD : CallD X (.builtin "len") lenD := callR_wk call_len_seq fun xs H Q h => by
  obtain ⟨F, ds, r, s, h1, hr, q⟩ := h
  cases h1 with
  | nil => cases hr
  | cons h1 h2 =>
    cases h2 with
    | cons _ _ => cases h1 <;> cases hr
    | nil =>
      cases h1 with
      | @lst a vs xs ha hx =>
        cases hr
        refine ⟨a, vs, rfl, .inl (.of (s _ _ ha)), ?_⟩
        rw [len_le hx]
        exact q _ F H (Grow.refl s) (.int _)
      | @tup a vs xs ha hx =>
        cases hr
        refine ⟨a, vs, rfl, .inr (.of (s _ _ ha)), ?_⟩
        rw [len_le hx]
        exact q _ F H (Grow.refl s) (.int _)
      | _ => cases hr
def absD : List PyData → Option Rv
  | [.int i] => fI (if i < 0 then -i else i)
  | _ => none
theorem call_absD : CallD X (.builtin "abs") absD := callR_wk call_abs fun xs H Q h => by
  obtain ⟨F, ds, r, s, h1, hr, q⟩ := h
  cases h1 with
  | nil => cases hr
  | cons h1 h2 =>
    cases h2 with
    | cons _ _ => cases h1 <;> cases hr
    | nil =>
      cases h1 with
      | int i => cases hr; exact ⟨i, rfl, q _ F H (Grow.refl s) (.int _)⟩
      | _ => cases hr
def intD : List PyData → Option Rv
  | [.int i] => fI i
  | [.bool b] => fI (if b = true then 1 else 0)
  | _ => none
theorem call_intD : CallD X (.type "int") intD := callR_wk call_int1 fun xs H Q h => by
  obtain ⟨F, ds, r, s, h1, hr, q⟩ := h
  cases h1 with
  | nil => cases hr
  | cons h1 h2 =>
    cases h2 with
    | cons _ _ => cases h1 <;> cases hr
    | nil =>
      cases h1 with
      | int i => cases hr; exact .inl ⟨i, rfl, q _ F H (Grow.refl s) (.int _)⟩
      | bl b => cases hr; exact .inr ⟨b, rfl, q _ F H (Grow.refl s) (.int _)⟩
      | _ => cases hr
def listD : List PyData → Option Rv
  | [.list xs] => some (.ol xs)
  | [.tuple xs] => some (.ol xs)
  | _ => none
theorem call_listDD : CallD X (.type "list") listD := callR_wk call_list_of fun xs H Q h => by
  obtain ⟨F, ds, r, s, h1, hr, q⟩ := h
  cases h1 with
  | nil => cases hr
  | cons h1 h2 =>
    cases h2 with
    | cons _ _ => cases h1 <;> cases hr
    | nil =>
      cases h1 with
      | @lst a vs xs ha hx =>
        cases hr
        exact ⟨a, vs, rfl, .inl (.of (s _ _ ha)), fun l np => q _ _ _ (Grow.own s np) ⟨l, _, rfl, np, upd_same, s.free np, hx⟩⟩
      | @tup a vs xs ha hx =>
        cases hr
        exact ⟨a, vs, rfl, .inr (.of (s _ _ ha)), fun l np => q _ _ _ (Grow.own s np) ⟨l, _, rfl, np, upd_same, s.free np, hx⟩⟩
      | _ => cases hr
def tupleD : List PyData → Option Rv
  | [.list xs] => some (.fz (.tuple xs))
  | [.tuple xs] => some (.fz (.tuple xs))
  | _ => none
theorem call_tupleD : CallD X (.type "tuple") tupleD := callR_wk call_tuple_of fun xs H Q h => by
  obtain ⟨F, ds, r, s, h1, hr, q⟩ := h
  cases h1 with
  | nil => cases hr
  | cons h1 h2 =>
    cases h2 with
    | cons _ _ => cases h1 <;> cases hr
    | nil =>
      cases h1 with
      | @lst a vs xs ha hx =>
        cases hr
        exact ⟨a, vs, rfl, .inl ⟨.of (s _ _ ha), fun l np => q _ _ _ (Grow.new s np) (.tup upd_same (dps_mono (same_new (s.free np)) _ _ hx))⟩⟩
      | @tup a vs xs ha hx =>
        cases hr
        exact ⟨a, vs, rfl, .inr ⟨.of (s _ _ ha), q _ F H (Grow.refl s) (.tup ha hx)⟩⟩
      | _ => cases hr
/-- the truths of a list -/
def bools : List PyData → Option (List Bool)
  | [] => some []
  | .bool b :: ds => (bools ds).map (b :: ·)
  | _ :: _ => none
theorem dqs_bools {F : Hp} : ∀ {vs : List V} {ds : List PyData} {bs : List Bool}, DqAll F vs ds → bools ds = some bs → vs = bs.map V.bl
  | [], _, bs, h, e => by cases h; cases e; rfl
  | v :: vs, _, bs, h, e => by
    cases h with
    | cons h1 h2 =>
      cases h1 with
      | bl b =>
        obtain ⟨cs, e1, e2⟩ := Option.map_eq_some_iff.mp (show (bools _).map (b :: ·) = some bs from e)
        subst e2
        rw [dqs_bools h2 e1]
        rfl
      | _ => cases e
def allD : List PyData → Option Rv
  | [.list xs] => (bools xs).bind fun bs => fB (bs.all id)
  | _ => none
theorem call_allD (hc : X.calm = true) : CallD X (.builtin "all") allD := callR_wk (cr_all hc) fun xs H Q h => by
  obtain ⟨F, ds, r, s, h1, hr, q⟩ := h
  cases h1 with
  | nil => cases hr
  | cons h1 h2 =>
    cases h2 with
    | cons _ _ => cases h1 <;> cases hr
    | nil =>
      cases h1 with
      | @lst a vs xs ha hx =>
        obtain ⟨bs, e1, e2⟩ := Option.bind_eq_some_iff.mp (show (bools xs).bind (fun bs => fB (bs.all id)) = some r from hr)
        cases e2
        have e := dqs_bools hx e1
        subst e
        exact ⟨a, bs, rfl, .of (s _ _ ha), q _ F H (Grow.refl s) (.bl _)⟩
      | _ => cases hr
def negD : PyData → Option PyData
  | .int i => some (.int (-i))
  | _ => none
theorem un_negD : UnD X (unaryOp .USub) negD := unR_wk un_neg fun x H Q h => by
  obtain ⟨F, d, r, s, h1, hr, q⟩ := h
  cases h1 with
  | int i => cases hr; exact ⟨i, rfl, q _ (.int _)⟩
  | _ => cases hr
end
end Gx

/-! G8: a list looked at where it stands: items, length, slices; the script. -/
namespace Gx
open PySem PySem.Spec L2
open PyProof.Rows hiding St

def seqE : Option En → Option (List PyData)
  | some (.ol xs) => some xs
  | some (.bl xs) => some xs
  | some (.fz (.list xs)) => some xs
  | some (.fz (.tuple xs)) => some xs
  | some (.sc (.l ns)) => some (ns.map .int)
  | some (.sc (.t ns)) => some (ns.map .int)
  | _ => none
def isTupE : Option En → Bool
  | some (.fz (.tuple _)) => true
  | some (.sc (.t _)) => true
  | _ => false
theorem dqs_ints {F : Hp} : ∀ ns : List Int, DqAll F (ns.map V.int) (ns.map .int)
  | [] => .nil
  | n :: ns => .cons (.int n) (dqs_ints ns)
theorem seq_val {K : PySem.W.Frag} {ρ : Ev} {σ : St} {F H : Hp} {i : Nat} {xs : List PyData} (R : Rel K ρ σ F H) (h : seqE ρ[i]? = some xs) :
    ∃ p vs, σ[i]? = some (some (.ref p)) ∧ DqAll F vs xs ∧ (isTupE ρ[i]? = false → SqL K H p vs) ∧ (isTupE ρ[i]? = true → SqT K H p vs) := by
  cases e : ρ[i]? with
  | none => rw [e] at h; cases h
  | some en =>
    rw [e] at h
    cases en with
    | no => cases h
    | ol ys =>
      cases h
      obtain ⟨p, vs, h1, h2, h3, h4⟩ := R.ls i xs (.inl e)
      exact ⟨p, vs, h1, h4, fun _ => .of h2, fun z => by cases z⟩
    | bl ys =>
      cases h
      obtain ⟨p, vs, h1, h2, h3, h4⟩ := R.ls i xs (.inr e)
      exact ⟨p, vs, h1, h4, fun _ => .of h2, fun z => by cases z⟩
    | sc ns =>
      obtain ⟨a, h1, h2⟩ := R.sc i ns e
      cases ns with
      | l ns =>
        cases h
        exact ⟨a, _, h1, dqs_ints ns, fun _ => sc_keep (x := .l ns) R.sub h2, fun z => by cases z⟩
      | t ns =>
        cases h
        exact ⟨a, _, h1, dqs_ints ns, fun z => (by cases z), fun _ => sc_keep (x := .t ns) R.sub h2⟩
    | fz d =>
      obtain ⟨v, h1, h2⟩ := R.fz i d e
      cases h2 with
      | @lst a vs ys ha hx =>
        cases h
        exact ⟨a, vs, h1, hx, fun _ => .of (R.sub _ _ ha), fun z => by cases z⟩
      | @tup a vs ys ha hx =>
        cases h
        exact ⟨a, vs, h1, hx, fun z => (by cases z), fun _ => .of (R.sub _ _ ha)⟩
      | _ => cases h
section
variable {X : Cx} {E : XK} {pos : Pos}
def itemE (o : Option En) (k : PyData) : Option PyData := match seqE o, k with
  | some xs, .int n => atI xs n
  | _, _ => none
/-- x[e] -/
def dPeek (i : Nat) (f : Dn PyData) : Dn PyData := fun ρ => if (seqE ρ[i]?).isSome then bnd f (fun k ρ => match itemE ρ[i]? k with
  | some d => .ok (d, ρ)
  | none => .st) ρ else .st
theorem g_peek (i : Nat) {x : Str} {p2 : Pos} {e : Expr} {f : Dn PyData} (he : PE X e (tD X.K X.mg E f)) (hN : X.N[i]? = some x := by rfl) (hv : Vis X.env.scope x := by first | exact Or.inl rfl | exact Or.inr (Or.inl rfl) | exact Or.inr (Or.inr rfl))
    (hd : (x == ("__debug__" : Str)) = false := by decide) (hcd : (x == ("__classdict__" : Str)) = false := by decide) (hs : PlainIx e := by intro _ _; rfl) : PE X (.Subscript (.Name x p2) e pos) (tD X.K X.mg E (dPeek i f)) :=
  pe_wk (pe_ix (ix_list.or ix_tup) (pe_var hN hv hd hcd) he hs) fun σ H Q ⟨ρ, F, R, q⟩ => by
    unfold dPeek at q
    cases hb : (seqE ρ[i]?).isSome with
    | false => rw [hb] at q; exact (show False from q).elim
    | true =>
    rw [hb] at q
    obtain ⟨xs0, h0⟩ := Option.isSome_iff_exists.mp hb
    obtain ⟨p, vs0, hp, _⟩ := seq_val R h0
    refine ⟨.ref p, hp, ρ, F, R, (out_bnd (K := X.K) (F := F) q).mono fun k ρ1 kk v F1 H1 S1 dk => ?_⟩
    have q2 := kk _ _ _ S1
    unfold itemE at q2
    cases hx : seqE ρ1[i]? with
    | none => simp only [hx] at q2; exact (show False from q2).elim
    | some xs =>
      obtain ⟨p', vs, hp', dx, sl, st⟩ := seq_val S1.rel hx
      rw [hp] at hp'
      cases hp'
      cases dk with
      | int n =>
        simp only [hx] at q2
        cases hn : atI xs n with
        | none => simp only [hn] at q2; exact (show False from q2).elim
        | some d =>
          simp only [hn] at q2
          obtain ⟨u, e1, e2⟩ := dqs_at dx hn
          cases ht : isTupE ρ1[i]? with
          | false => exact .inl ⟨p, vs, n, u, rfl, rfl, sl ht, e1, q2 u F1 H1 S1 e2⟩
          | true => exact .inr ⟨p, vs, n, u, rfl, rfl, st ht, e1, q2 u F1 H1 S1 e2⟩
      | _ => simp only [hx] at q2; exact (show False from q2).elim
/-- len(x) -/
def dLenP (i : Nat) : Dn PyData := fun ρ => match seqE ρ[i]? with
  | some xs => .ok (.int xs.length, ρ)
  | none => .st
theorem g_lenP (i : Nat) {x : Str} {p p2 : Pos} (hg : Gl X "len") (hm : X.mg "len" = none) (hN : X.N[i]? = some x := by rfl) (hv : Vis X.env.scope x := by first | exact Or.inl rfl | exact Or.inr (Or.inl rfl) | exact Or.inr (Or.inr rfl))
    (hd : (x == ("__debug__" : Str)) = false := by decide) (hcd : (x == ("__classdict__" : Str)) = false := by decide) : PE X (.Call (.Name "len" p) [.Name x p2] [] pos) (tD X.K X.mg E (dLenP i)) :=
  pe_wk (pe_callB call_len_seq hg hm PySem.boot_len (pa_cons (pe_var hN hv hd hcd) pa_nil)) fun σ H Q ⟨ρ, F, R, q⟩ => by
    unfold dLenP at q
    cases hx : seqE ρ[i]? with
    | none => simp only [hx] at q; exact (show False from q).elim
    | some xs =>
      simp only [hx] at q
      obtain ⟨p, vs, hp, dx, sl, st⟩ := seq_val R hx
      refine ⟨.ref p, hp, p, vs, rfl, ?_, ?_⟩
      · cases ht : isTupE ρ[i]? with
        | false => exact .inl (sl ht)
        | true => exact .inr (st ht)
      · rw [len_le dx]
        exact q _ F H (Stp.refl R) (.int _)
/-- x[lo:hi] of a list -/
def dSlP (i : Nat) (lo hi : Dn (Option Int)) : Dn Rv := fun ρ => if (seqE ρ[i]?).isSome then bnd lo (fun l => bnd hi fun h => fun ρ => match seqE ρ[i]? with
  | some xs => if isTupE ρ[i]? then .st else .ok (.ol (cutD xs l h), ρ)
  | none => .st) ρ else .st
theorem g_slP (i : Nat) {x : Str} {p2 p3 : Pos} {lo hi : Option Expr} {fl fh : Dn (Option Int)} (hl : PO X lo (tO X.K X.mg E fl)) (hu : PO X hi (tO X.K X.mg E fh)) (hN : X.N[i]? = some x := by rfl) (hv : Vis X.env.scope x := by first | exact Or.inl rfl | exact Or.inr (Or.inl rfl) | exact Or.inr (Or.inr rfl))
    (hd : (x == ("__debug__" : Str)) = false := by decide) (hcd : (x == ("__classdict__" : Str)) = false := by decide) : PE X (.Subscript (.Name x p3) (.Slice lo hi none p2) pos) (tE X.K X.mg E (dSlP i fl fh)) :=
  pe_wk (pe_slice sl_list (pe_var hN hv hd hcd) hl hu) fun σ H Q ⟨ρ, F, R, q⟩ => by
    unfold dSlP at q
    cases hb : (seqE ρ[i]?).isSome with
    | false => rw [hb] at q; exact (show False from q).elim
    | true =>
    rw [hb] at q
    obtain ⟨xs0, h0⟩ := Option.isSome_iff_exists.mp hb
    obtain ⟨p, vs0, hp, _⟩ := seq_val R h0
    refine ⟨.ref p, hp, ρ, F, R, (out_bnd (K := X.K) (F := F) q).mono fun l ρ1 k F1 H1 S1 => ?_⟩
    refine ⟨ρ1, F1, S1.rel, (out_bnd (K := X.K) (F := F1) (k _ _ _ S1)).mono fun h ρ2 k2 F2 H2 S2 => ?_⟩
    have q2 := k2 _ _ _ S2
    cases hx : seqE ρ2[i]? with
    | none => simp only [hx] at q2; exact (show False from q2).elim
    | some xs =>
      obtain ⟨p', vs, hp', dx, sl, st⟩ := seq_val S2.rel hx
      rw [hp] at hp'
      cases hp'
      simp only [hx] at q2
      cases ht : isTupE ρ2[i]? with
      | true => simp only [ht] at q2; exact (show False from q2).elim
      | false =>
        simp only [ht] at q2
        refine ⟨p, vs, rfl, sl ht, fun a np => ?_⟩
        have S12 := S1.trans S2
        have gr := Grow.own (o := .lst (cutV vs l h)) S2.rel.sub np
        have nk : NOk H2 F2 (upd H2 a (.lst (cutV vs l h))) (.ol (cutD xs l h)) (.ref a) := ⟨a, _, rfl, np, upd_same, S2.rel.sub.free np, dqs_cut dx l h⟩
        exact q2 _ F2 _ (S12.trans (gr.stp S2.rel)) ((nk.rok S2.rel).before S12)
end
end Gx

/-! X5: exceptions, over data. -/
namespace Gx
open PySem PySem.Spec L2
open PyProof.Rows hiding St

theorem upd_over {H : Hp} {a b : Addr} {o1 o2 o : HO} (n : b ≠ a) : upd (upd (upd H a o1) b o) a o2 = upd (upd H b o) a o2 := by
  funext c
  by_cases h : c = a
  · subst h; rw [upd_same, upd_same]
  · rw [upd_ne h, upd_ne h]
    by_cases h2 : c = b
    · subst h2; rw [upd_same, upd_same]
    · rw [upd_ne h2, upd_ne h2, upd_ne h]
theorem made_grow {F H : Hp} {a dx C : Addr} {n : Int} (s : Same F H) (na : H a = none) (nd : H dx = none) (ne : dx ≠ a) :
    Grow F H (upd (upd F dx (exd dx [(("number" : Str), .int n)])) a (exo a C (some dx))) (upd (upd H dx (exd dx [(("number" : Str), .int n)])) a (exo a C (some dx))) ∧
    Dq (upd (upd F dx (exd dx [(("number" : Str), .int n)])) a (exo a C (some dx))) (.ref a) (exD1 C n) := by
  have g1 := Grow.new (o := exd dx [(("number" : Str), .int n)]) s nd
  have g2 := Grow.new (p := a) (o := exo a C (some dx)) g1.sub (by rw [upd_ne (Ne.symm ne)]; exact na)
  refine ⟨g1.trans g2, .ex1 upd_same ?_⟩
  rw [upd_ne ne]
  exact upd_same
section
variable {X : Cx} {E : XK} {pos p : Pos} {C fI : Addr} {x : Str} {B newId initId : String} {bmB : List Value} {k : Nat} {fd : FuncData} {ps : List Str}
def mkD (C : Addr) : PyData → Dn PyData
  | .int n => if okN n then ret (exD1 C n) else lft none
  | _ => lft none
def dMk (C : Addr) (f : Dn PyData) : Dn PyData := bnd f (mkD C)
theorem mk_end {K : PySem.W.Frag} {mg : Str → Option Value} {ρ ρ1 : Ev} {σ : St} {F H F1 H1 : Hp} {Q : VK} {d : PyData} {v : V} (S1 : Stp K ρ σ F H ρ1 σ F1 H1) (dv : Dq F1 v d)
    (q : Out mg E ρ1 σ H1 (mkD C d ρ1) fun d ρ' => ∀ v F' H', Stp K ρ σ F H ρ' σ F' H' → Dq F' v d → Q v H') :
    ∃ n, v = .int n ∧ okN n = true ∧ ∀ a dx : Addr, H1 a = none → H1 dx = none → dx ≠ a → Q (.ref a) (upd (upd H1 dx (exd dx [(("number" : Str), .int n)])) a (exo a C (some dx))) := by
  cases dv with
  | int n =>
    by_cases ok : okN n = true
    · refine ⟨n, rfl, ok, fun a dx na nd ne => ?_⟩
      have q' : Out mg E ρ1 σ H1 ((if okN n then ret (exD1 C n) else lft none : Dn PyData) ρ1) _ := q
      rw [if_pos ok] at q'
      obtain ⟨gr, dq⟩ := made_grow (C := C) (n := n) S1.rel.sub na nd ne
      exact out_ret q' _ _ _ (S1.trans (gr.stp S1.rel)) dq
    · have q' : Out mg E ρ1 σ H1 ((if okN n then ret (exD1 C n) else lft none : Dn PyData) ρ1) _ := q
      rw [if_neg ok] at q'
      exact (show False from q').elim
  | _ => exact (show False from q).elim
theorem spI_of {a : Addr} {n : Int} {H1 : Hp} {Q : VK} (ok : okN n = true) (na : H1 a = none) (q : ∀ a dx : Addr, H1 a = none → H1 dx = none → dx ≠ a → Q (.ref a) (upd (upd H1 dx (exd dx [(("number" : Str), .int n)])) a (exo a C (some dx)))) :
    spI C [.ref a, .int n] (upd H1 a (exo a C none)) (fun v H2 => v = .non ∧ Q (.ref a) H2) fun _ _ _ => False := by
  refine ⟨a, n, rfl, ok, upd_same, fun dx nd ne => ⟨rfl, ?_⟩⟩
  rw [upd_ne ne] at nd
  rw [upd_over ne]
  exact q a dx na nd ne
theorem g_mkX {e : Expr} {f : Dn PyData} (BG : BaseG B newId initId bmB) (T : OexG X.K C B newId bmB) (iC : PySem.W.findIn X.K (Value.ref C) "__init__" = some (some (.ref fI))) (tI : PySem.W.typeIn X.K (.ref fI) = some (.type "function"))
    (F1 : FnOk X.prog X.w X.K X.mg X.base (L2.CX X.prog X.w) k fI fd ["self", "number"] (spI C)) (hr : Room (k + 1) X.A) (hb : Binds X.K fd ["self", "number"] []) (hx : Passes (L2.CX X.prog X.w) X fun _ _ _ => False) (hg : Gl X x) (hm : X.mg x = some (.ref C)) (he : PE X e (tD X.K X.mg E f))
    (hdb : (x == ("__debug__" : Str)) = false := by decide) (hs : starEach [e] X.env = (false, eval e X.env) :: starEach [] X.env := by rfl) (hpl : (backTo pos (starEach [] X.env)).any (·.1) = false := by rfl) :
    PE X (.Call (.Name x p) [e] [] pos) (tD X.K X.mg E (dMk C f)) :=
  pe_wk (pe_mkX BG T iC tI F1 hr hb hx hg hm (pa_cons he pa_nil hs) hdb hs hpl) fun σ H Q ⟨ρ, F, R, q⟩ => ⟨ρ, F, R, (out_bnd (K := X.K) (F := F) q).mono fun d ρ1 kk v F1 H1 S1 dv => by
    obtain ⟨n, rfl, ok, q2⟩ := mk_end S1 dv (kk _ _ _ S1)
    exact ⟨by simp, fun a na => spI_of ok na q2⟩⟩
theorem g_mkK {e : Expr} {f : Dn PyData} {kpos : Pos} (BG : BaseG B newId initId bmB) (T : OexG X.K C B newId bmB) (iC : PySem.W.findIn X.K (Value.ref C) "__init__" = some (some (.ref fI))) (tI : PySem.W.typeIn X.K (.ref fI) = some (.type "function"))
    (F1 : FnOk X.prog X.w X.K X.mg X.base (L2.CX X.prog X.w) k fI fd ["self", "number"] (spI C)) (hr : Room (k + 1) X.A) (hb : ∀ (s : Shared) (u v : Value), BindsTo s fd ⟨[u], [("number", v)]⟩ ((["self", "number"] : List Str).zip [u, v])) (hx : Passes (L2.CX X.prog X.w) X fun _ _ _ => False) (hg : Gl X x) (hm : X.mg x = some (.ref C)) (he : PE X e (tD X.K X.mg E f))
    (hdb : (x == ("__debug__" : Str)) = false := by decide) (h1 : ((backToKw pos (keywordEach [⟨some "number", e, kpos⟩] X.env)).all fun x => x.fst.isSome) = true := by rfl) (h2 : List.filterMap (fun x => x.fst) (backToKw pos (keywordEach [⟨some "number", e, kpos⟩] X.env)) = [("number" : Str)] := by rfl)
    (h3 : (((backTo pos (starEach [] X.env)).any fun x => x.fst) || (backToKw pos (keywordEach [⟨some "number", e, kpos⟩] X.env)).any fun x => x.fst.isNone) = false := by rfl) :
    PE X (.Call (.Name x p) [] [⟨some "number", e, kpos⟩] pos) (tD X.K X.mg E (dMk C f)) :=
  pe_wk (pe_mkK BG T iC tI F1 hr hb hx hg hm he hdb h1 h2 h3) fun σ H Q ⟨ρ, F, R, q⟩ => ⟨ρ, F, R, (out_bnd (K := X.K) (F := F) q).mono fun d ρ1 kk v F1 H1 S1 dv => by
    obtain ⟨n, rfl, ok, q2⟩ := mk_end S1 dv (kk _ _ _ S1)
    exact ⟨_, rfl, fun a na => spI_of ok na q2⟩⟩
/-- C() -/
theorem g_mk0 (EF : ExcBaseFacts B newId initId bmB) (hx : PySem.W.excIn X.K C bmB newId = true) (kC : PySem.W.keepIn X.K (Value.ref C) = true) (hg : Gl X x) (hm : X.mg x = some (.ref C)) (hdb : (x == ("__debug__" : Str)) = false := by decide) :
    PE X (.Call (.Name x p) [] [] pos) (tD X.K X.mg E (ret (exD0 C))) :=
  pe_wk (pe_mk0 EF hx kC hg hm hdb) fun σ H Q ⟨ρ, F, R, q⟩ a na => by
    have gr := Grow.new (o := exo a C none) R.sub na
    exact out_ret q _ _ _ (gr.stp R) (.ex0 upd_same)
/-- e.number -/
def numD (tb : List Addr) : PyData → Option PyData
  | .dict [(.int c, .int n)] => if tb.any fun C => (C : Int) == c then some (.int n) else none
  | _ => none
theorem g_num {e : Expr} {f : Dn PyData} (tb : List Addr) (ht : ∀ C ∈ tb, XCl X.K C ∧ PySem.W.findIn X.K (Value.ref C) "number" = some none) (he : PE X e (tD X.K X.mg E f)) (hb : attributeBase e "number" X.env (eval e X.env) = eval e X.env := by rfl) :
    PE X (.Attribute e "number" pos) (tD X.K X.mg E (dUn (numD tb) f)) :=
  pe_wk (pe_num he hb) fun σ H Q ⟨ρ, F, R, q⟩ => ⟨ρ, F, R, (out_bnd (K := X.K) (F := F) q).mono fun d ρ1 kk v F1 H1 S1 dv => by
    obtain ⟨r, hr, q2⟩ := out_lft (kk _ _ _ S1)
    cases dv with
    | @ex1 a C dx n h1 h2 =>
      have hr' : (if tb.any fun D => (D : Int) == (C : Int) then some (PyData.int n) else none) = some r := hr
      by_cases c : (tb.any fun D => (D : Int) == (C : Int)) = true
      · rw [if_pos c] at hr'
        cases hr'
        obtain ⟨D, hD, e⟩ := List.any_eq_true.mp c
        have e' : D = C := by
          have := eq_of_beq e
          exact Int.ofNat_inj.mp this
        subst e'
        obtain ⟨t1, t2⟩ := ht D hD
        exact ⟨a, D, dx, .int n, rfl, t1, t2, S1.rel.sub _ _ h1, S1.rel.sub _ _ h2, q2 _ F1 H1 S1 (.int n)⟩
      · rw [if_neg c] at hr'
        cases hr'
    | _ => cases hr⟩
/-- isinstance(e, T), e an exception -/
def excC : PyData → Option Int
  | .dict [(.int c, .int _)] => some c
  | .dict [(.int c, .none)] => some c
  | _ => none
def isXD (tb : List (Addr × Bool)) (d : PyData) : Option PyData := (excC d).bind fun c => (tb.find? fun q => (q.1 : Int) == c).map fun q => .bool q.2
theorem isX_end {K : PySem.W.Frag} {F H : Hp} {tb : List (Addr × Bool)} {v : V} {d r : PyData} {c : V} {u : Value} (hc : ClsV c u) (ht : ∀ q ∈ tb, XCl K q.1 ∧ PySem.W.kitOne K (.ref q.1) u = some q.2) (s : Same F H) (dv : Dq F v d) (hr : isXD tb d = some r) {Q : VK} (q : ∀ b, r = .bool b → Q (.bl b) H) : rIsX K [v, c] H Q := by
  obtain ⟨i, h1, h2⟩ := Option.bind_eq_some_iff.mp hr
  obtain ⟨⟨D, b⟩, h3, h4⟩ := Option.map_eq_some_iff.mp h2
  have hm := List.mem_of_find?_eq_some h3
  have he := List.find?_some h3
  obtain ⟨t1, t2⟩ := ht _ hm
  have he' : (D : Int) = i := eq_of_beq he
  cases dv with
  | @ex0 a C ha =>
    cases h1
    have e : D = C := Int.ofNat_inj.mp he'
    subst e
    exact ⟨a, c, u, D, none, b, rfl, hc, s _ _ ha, fun _ z => (by cases z), t1, t2, q b h4.symm⟩
  | @ex1 a C dx n ha hd =>
    cases h1
    have e : D = C := Int.ofNat_inj.mp he'
    subst e
    exact ⟨a, c, u, D, some dx, b, rfl, hc, s _ _ ha, fun _ z => by cases z; exact ⟨_, s _ _ hd⟩, t1, t2, q b h4.symm⟩
  | _ => cases h1
theorem isX_wk {K : PySem.W.Frag} {mg : Str → Option Value} {tb : List (Addr × Bool)} {f : Dn PyData} {c : V} {u : Value} (hc : ClsV c u) (ht : ∀ q ∈ tb, XCl K q.1 ∧ PySem.W.kitOne K (.ref q.1) u = some q.2) (σ : St) (H : Hp) (Q : VK) (h : tD K mg E (dUn (isXD tb) f) σ H Q) :
    tCB (rIsX K) (tCons (tD K mg E f) (tCons (tC c) tNil)) σ H Q := by
  obtain ⟨ρ, F, R, q⟩ := h
  refine ⟨ρ, F, R, (out_bnd (K := K) (F := F) q).mono fun d ρ1 kk v F1 H1 S1 dv => ?_⟩
  obtain ⟨r, hr, q2⟩ := out_lft (kk _ _ _ S1)
  exact isX_end hc ht S1.rel.sub dv hr fun b e => by subst e; exact q2 _ F1 H1 S1 (.bl b)
/-- T a built-in class -/
theorem g_isXB {e : Expr} {f : Dn PyData} {T : String} {p2 p3 : Pos} (tb : List (Addr × Bool)) (ht : ∀ q ∈ tb, XCl X.K q.1 ∧ PySem.W.kitOne X.K (.ref q.1) (.type T) = some q.2) (hi : Gl X "isinstance") (hj : X.mg "isinstance" = none) (hg : Gl X x) (hm : X.mg x = none) (hv : bootBuiltins x = some (.type T)) (he : PE X e (tD X.K X.mg E f))
    (hn : x ≠ "__name__" := by decide) (hdb : (x == ("__debug__" : Str)) = false := by decide) (hs : starEach [e, .Name x p3] X.env = (false, eval e X.env) :: starEach [.Name x p3] X.env := by rfl) (hpl : (backTo pos (starEach [.Name x p3] X.env)).any (·.1) = false := by rfl) :
    PE X (.Call (.Name "isinstance" p2) [e, .Name x p3] [] pos) (tD X.K X.mg E (dUn (isXD tb) f)) :=
  pe_wk (pe_callB call_isX hi hj PyProof.Rows.Boot.isinstance (pa_cons he (pa_cons (pe_bltn (v := .ty T) hg hm hv rfl hn hdb) pa_nil) hs) (he := hs) (hpl := hpl)) (isX_wk (.ty T) ht)
/-- T a class of the program -/
theorem g_isXO {e : Expr} {f : Dn PyData} {D : Addr} {p2 p3 : Pos} (tb : List (Addr × Bool)) (ht : ∀ q ∈ tb, XCl X.K q.1 ∧ PySem.W.kitOne X.K (.ref q.1) (.ref D) = some q.2) (hi : Gl X "isinstance") (hj : X.mg "isinstance" = none) (hg : Gl X x) (hm : X.mg x = some (.ref D)) (he : PE X e (tD X.K X.mg E f))
    (hdb : (x == ("__debug__" : Str)) = false := by decide) (hs : starEach [e, .Name x p3] X.env = (false, eval e X.env) :: starEach [.Name x p3] X.env := by rfl) (hpl : (backTo pos (starEach [.Name x p3] X.env)).any (·.1) = false := by rfl) :
    PE X (.Call (.Name "isinstance" p2) [e, .Name x p3] [] pos) (tD X.K X.mg E (dUn (isXD tb) f)) :=
  pe_wk (pe_callB call_isX hi hj PyProof.Rows.Boot.isinstance (pa_cons he (pa_cons (pe_glob (v := .ref D) hg hm rfl hdb) pa_nil) hs) (he := hs) (hpl := hpl)) (isX_wk (.own D) ht)
end
end Gx

/-! X6: isinstance of plain data. -/
namespace Gx
open PySem PySem.Spec L2
open PyProof.Rows hiding St

inductive Ty where
  | non | bl | int | str | lst | tup
deriving DecidableEq
def Ty.nm : Ty → String
  | .non => "NoneType"
  | .bl => "bool"
  | .int => "int"
  | .str => "str"
  | .lst => "list"
  | .tup => "tuple"
def tyOf : PyData → Option Ty
  | .none => some .non
  | .bool _ => some .bl
  | .int _ => some .int
  | .str _ => some .str
  | .list _ => some .lst
  | .tuple _ => some .tup
  | .dict _ => none
/-- a thing of a is one of b -/
def isa (a b : Ty) : Bool := a == b || (a == .bl && b == .int)
theorem tyX_of {K : PySem.W.Frag} {F H : Hp} {v : V} {d : PyData} {t : Ty} (s : Same F H) (h : Dq F v d) (e : tyOf d = some t) : TyX K H v (.type t.nm) := by
  cases h with
  | non => cases e; exact .base .non
  | bl b => cases e; exact .base (.bl b)
  | int i => cases e; exact .base (.int i)
  | str x => cases e; exact .base (.str x)
  | lst ha _ => cases e; exact .base (.lst (s _ _ ha))
  | tup ha _ => cases e; exact .base (.tup (s _ _ ha))
  | _ => cases e
theorem kit_ok (K : PySem.W.Frag) (a b : Ty) : PySem.W.kitOne K (.type a.nm) (.type b.nm) = some (isa a b) := by
  cases a <;> cases b <;> rfl
theorem kit_any (K : PySem.W.Frag) (a b c : Ty) : PySem.W.kitAny K (.type a.nm) [.type b.nm, .type c.nm] = some (isa a b || isa a c) := by
  rw [PySem.W.kitAny.eq_2, kit_ok, PySem.W.kitAny.eq_2, kit_ok, PySem.W.kitAny.eq_1]
  cases isa a b <;> cases isa a c <;> rfl
def isiD (b : Ty) (d : PyData) : Option PyData := (tyOf d).map fun a => .bool (isa a b)
def isi2D (b c : Ty) (d : PyData) : Option PyData := (tyOf d).map fun a => .bool (isa a b || isa a c)
section
variable {X : Cx} {E : XK} {pos p : Pos} {x y : Str}
theorem g_isi {e : Expr} {f : Dn PyData} {p2 p3 : Pos} (b : Ty) (hi : Gl X "isinstance") (hj : X.mg "isinstance" = none) (hg : Gl X x) (hm : X.mg x = none) (hv : bootBuiltins x = some (.type b.nm)) (he : PE X e (tD X.K X.mg E f))
    (hn : x ≠ "__name__" := by decide) (hdb : (x == ("__debug__" : Str)) = false := by decide) (hs : starEach [e, .Name x p3] X.env = (false, eval e X.env) :: starEach [.Name x p3] X.env := by rfl) (hpl : (backTo pos (starEach [.Name x p3] X.env)).any (·.1) = false := by rfl) :
    PE X (.Call (.Name "isinstance" p2) [e, .Name x p3] [] pos) (tD X.K X.mg E (dUn (isiD b) f)) :=
  pe_wk (pe_callB call_isi hi hj PyProof.Rows.Boot.isinstance (pa_cons he (pa_cons (pe_bltn (v := .ty b.nm) hg hm hv rfl hn hdb) pa_nil) hs) (he := hs) (hpl := hpl)) fun σ H Q ⟨ρ, F, R, q⟩ => ⟨ρ, F, R, (out_bnd (K := X.K) (F := F) q).mono fun d ρ1 k v F1 H1 S1 d1 => by
    obtain ⟨r, hr, q2⟩ := out_lft (k _ _ _ S1)
    obtain ⟨a, h1, h2⟩ := Option.map_eq_some_iff.mp hr
    subst h2
    exact ⟨v, _, _, _, _, rfl, .ty _, tyX_of S1.rel.sub d1 h1, kit_ok X.K a b, q2 _ F1 H1 S1 (.bl _)⟩⟩
theorem g_isi2 {e : Expr} {f : Dn PyData} {p2 p3 p4 p5 : Pos} {kk : Nat} (b c : Ty) (hi : Gl X "isinstance") (hj : X.mg "isinstance" = none) (hg : Gl X x) (hm : X.mg x = none) (hv : bootBuiltins x = some (.type b.nm)) (hg2 : Gl X y) (hm2 : X.mg y = none) (hv2 : bootBuiltins y = some (.type c.nm)) (he : PE X e (tD X.K X.mg E f))
    (hn : x ≠ "__name__" := by decide) (hdb : (x == ("__debug__" : Str)) = false := by decide) (hn2 : y ≠ "__name__" := by decide) (hdb2 : (y == ("__debug__" : Str)) = false := by decide)
    (hs : starEach [e, .Tuple [.Name x p3, .Name y p4] kk p5] X.env = (false, eval e X.env) :: starEach [.Tuple [.Name x p3, .Name y p4] kk p5] X.env := by rfl) (hpl : (backTo pos (starEach [.Tuple [.Name x p3, .Name y p4] kk p5] X.env)).any (·.1) = false := by rfl) :
    PE X (.Call (.Name "isinstance" p2) [e, .Tuple [.Name x p3, .Name y p4] kk p5] [] pos) (tD X.K X.mg E (dUn (isi2D b c) f)) :=
  pe_wk (pe_callB call_isiT hi hj PyProof.Rows.Boot.isinstance (pa_cons he (pa_cons (pe_tup (pa_cons (pe_bltn (v := .ty b.nm) hg hm hv rfl hn hdb) (pa_cons (pe_bltn (v := .ty c.nm) hg2 hm2 hv2 rfl hn2 hdb2) pa_nil))) pa_nil) hs) (he := hs) (hpl := hpl)) fun σ H Q ⟨ρ, F, R, q⟩ => ⟨ρ, F, R, (out_bnd (K := X.K) (F := F) q).mono fun d ρ1 k v F1 H1 S1 d1 => by
    obtain ⟨r, hr, q2⟩ := out_lft (k _ _ _ S1)
    obtain ⟨a, h1, h2⟩ := Option.map_eq_some_iff.mp hr
    subst h2
    refine ⟨by rw [sizeLine_eq]; show 2 ≤ _; decide, fun t nt => ?_⟩
    have gr := Grow.own (o := .tup [.ty b.nm, .ty c.nm]) S1.rel.sub nt
    exact ⟨v, t, _, _, _, _, rfl, upd_same, .cons (.ty _) (.cons (.ty _) .nil), tyX_of gr.sub d1 h1, kit_any X.K a b c, q2 _ F1 _ (S1.trans (gr.stp S1.rel)) (.bl _)⟩⟩
end
end Gx

/-! X7: what a text says of its defs and classes. -/
namespace Gx
open PySem PySem.Spec L2
open PyProof.Rows hiding St

structure DefAt (K : PySem.W.Frag) (mg : Str → Option Value) (x : Str) (st : Stmt) (ps : List Str) : Prop where
  ex : ∃ f fd, Fun K x x st f fd ∧ mg x = some (.ref f) ∧ Binds K fd ps []
theorem calOf {P : Program} {w : World} {K : PySem.W.Frag} {mg : Str → Option Value} {base : Heap} {k n : Nat} {x : Str} {st : Stmt} {ps : List Str} {den : Den} (D : DefAt K mg x st ps) (h : ∀ f fd, Fun K x x st f fd → FnOk P w K mg base (L2.CX P w) k f fd ps (spD K mg n den)) : Cal P w K mg base k x n den := by
  obtain ⟨f, fd, Fn, hm, hb⟩ := D.ex
  exact ⟨f, fd, ps, h f fd Fn, hm, Fn.kp, hb⟩
theorem room_u {k : Nat} {A : Around} (h : Room k A) : A.units + 64 < cLine := by
  have := h.un
  omega
/-- an exception class of the program with its own __init__ -/
structure MkAt (K : PySem.W.Frag) (mg : Str → Option Value) (C : Addr) : Prop where
  ex : ∃ B newId initId bmB fI fd, BaseG B newId initId bmB ∧ OexG K C B newId bmB ∧ PySem.W.findIn K (Value.ref C) "__init__" = some (some (.ref fI)) ∧ PySem.W.typeIn K (.ref fI) = some (.type "function") ∧
    (∀ (P : Program) (w : World) (base : Heap), FnOk P w K mg base (L2.CX P w) 2 fI fd ["self", "number"] (spI C)) ∧ Binds K fd ["self", "number"] [] ∧ ∀ (s : Shared) (u v : Value), BindsTo s fd ⟨[u], [("number", v)]⟩ ((["self", "number"] : List Str).zip [u, v])
theorem mkAtLE {K : PySem.W.Frag} {mg : Str → Option Value} {C f : Addr} {fd : FuncData} {qual tx : Str} {p1 p2 p3 p4 p5 p6 p7 p8 p9 p10 p11 p12 p13 p14 p15 : Pos} (F : Fun K "__init__" qual (iSt "LookupError" tx p1 p2 p3 p4 p5 p6 p7 p8 p9 p10 p11 p12 p13 p14 p15) f fd) (T : OexG K C "LookupError" "LookupError.__new__" bmLE) (hx : tx.length ≤ 100)
    (hno : PySem.W.findIn K (Value.ref C) "number" = some none) (hi : PySem.W.findCls K (Value.type "LookupError") (Value.type "type") "__init__" = some (PySem.W.CFound.val (Value.builtin "LookupError.__init__"))) (hm : mg "LookupError" = none) (hl : (p4.endLine == p10.line) = true)
    (iC : PySem.W.findIn K (Value.ref C) "__init__" = some (some (.ref f))) (tI : PySem.W.typeIn K (.ref f) = some (.type "function")) : MkAt K mg C := by
  refine ⟨_, _, _, _, f, fd, baseLE, T, iC, tI, fun P w base => ok_initLE F T hx hno hi hm hl, F.binds (ps := ["self", "number"]) fun _ _ _ _ _ _ us hl => match us, hl with | [_, _], _ => rfl, fun s u v => ?_⟩
  obtain ⟨oc, od, kV, doc, pm, an, cdv, ct, osl, e, _, _⟩ := F.ex
  subst e
  exact .of_eq rfl
theorem mkAtVE {K : PySem.W.Frag} {mg : Str → Option Value} {C f : Addr} {fd : FuncData} {qual tx : Str} {p1 p2 p3 p4 p5 p6 p7 p8 p9 p10 p11 p12 p13 p14 p15 : Pos} (F : Fun K "__init__" qual (iSt "ValueError" tx p1 p2 p3 p4 p5 p6 p7 p8 p9 p10 p11 p12 p13 p14 p15) f fd) (T : OexG K C "ValueError" "ValueError.__new__" bmVE) (hx : tx.length ≤ 100)
    (hno : PySem.W.findIn K (Value.ref C) "number" = some none) (hi : PySem.W.findCls K (Value.type "ValueError") (Value.type "type") "__init__" = some (PySem.W.CFound.val (Value.builtin "ValueError.__init__"))) (hm : mg "ValueError" = none) (hl : (p4.endLine == p10.line) = true)
    (iC : PySem.W.findIn K (Value.ref C) "__init__" = some (some (.ref f))) (tI : PySem.W.typeIn K (.ref f) = some (.type "function")) : MkAt K mg C := by
  refine ⟨_, _, _, _, f, fd, baseVE, T, iC, tI, fun P w base => ok_initVE F T hx hno hi hm hl, F.binds (ps := ["self", "number"]) fun _ _ _ _ _ _ us hl => match us, hl with | [_, _], _ => rfl, fun s u v => ?_⟩
  obtain ⟨oc, od, kV, doc, pm, an, cdv, ct, osl, e, _, _⟩ := F.ex
  subst e
  exact .of_eq rfl
section
variable {X : Cx} {E : XK} {pos p : Pos} {C : Addr} {x : Str} {k : Nat}
theorem mkX_at {e : Expr} {f : Dn PyData} (M : MkAt X.K X.mg C) (hr : Room k X.A) (hk : 3 ≤ k) (hx : Passes (L2.CX X.prog X.w) X E0) (hg : Gl X x) (hm : X.mg x = some (.ref C)) (he : PE X e (tD X.K X.mg E f))
    (hdb : (x == ("__debug__" : Str)) = false := by decide) (hs : starEach [e] X.env = (false, eval e X.env) :: starEach [] X.env := by rfl) (hpl : (backTo pos (starEach [] X.env)).any (·.1) = false := by rfl) :
    PE X (.Call (.Name x p) [e] [] pos) (tD X.K X.mg E (dMk C f)) := by
  obtain ⟨B, newId, initId, bmB, fI, fd, BG, T, iC, tI, F1, hb, _⟩ := M.ex
  exact g_mkX BG T iC tI (F1 _ _ _) (hr.mono hk) hb hx hg hm he hdb hs hpl
theorem mkK_at {e : Expr} {f : Dn PyData} {kpos : Pos} (M : MkAt X.K X.mg C) (hr : Room k X.A) (hk : 3 ≤ k) (hx : Passes (L2.CX X.prog X.w) X E0) (hg : Gl X x) (hm : X.mg x = some (.ref C)) (he : PE X e (tD X.K X.mg E f))
    (hdb : (x == ("__debug__" : Str)) = false := by decide) (h1 : ((backToKw pos (keywordEach [⟨some "number", e, kpos⟩] X.env)).all fun x => x.fst.isSome) = true := by rfl) (h2 : List.filterMap (fun x => x.fst) (backToKw pos (keywordEach [⟨some "number", e, kpos⟩] X.env)) = [("number" : Str)] := by rfl)
    (h3 : (((backTo pos (starEach [] X.env)).any fun x => x.fst) || (backToKw pos (keywordEach [⟨some "number", e, kpos⟩] X.env)).any fun x => x.fst.isNone) = false := by rfl) :
    PE X (.Call (.Name x p) [] [⟨some "number", e, kpos⟩] pos) (tD X.K X.mg E (dMk C f)) := by
  obtain ⟨B, newId, initId, bmB, fI, fd, BG, T, iC, tI, F1, _, hb⟩ := M.ex
  exact g_mkK BG T iC tI (F1 _ _ _) (hr.mono hk) hb hx hg hm he hdb h1 h2 h3
/-- chains as tests -/
abbrev dChT (g g' : PyData → PyData → Option Rv) (fa fb fc : Dn PyData) : Dn Bool := bnd (dChain g g' fa fb fc) fun r => lft (boolOf r.d)
/-- x or y, as data -/
def dOrD (f g : Dn PyData) : Dn PyData := bnd f fun x => bnd (lft (truth x)) fun b => if b then ret x else g
theorem g_orD {a b : Expr} {rest : List Expr} {f g : Dn PyData} (ha : PE X a (tD X.K X.mg E f)) (hb : PE X (.BoolOp .Or (b :: rest) pos) (tD X.K X.mg E g)) : PE X (.BoolOp .Or (a :: b :: rest) pos) (tD X.K X.mg E (dOrD f g)) :=
  pe_wk (pe_orT ha hb) fun σ H Q ⟨ρ, F, R, q⟩ => ⟨ρ, F, R, (out_bnd (K := X.K) (F := F) q).mono fun x ρ1 k v F1 H1 S1 d1 => by
    obtain ⟨c, hc, q2⟩ := out_lft (out_bnd (K := X.K) (F := F1) (k _ _ _ S1))
    have q3 := q2 _ _ _ (Stp.refl S1.rel)
    refine ⟨c, tru_of S1.rel.sub d1 hc, ?_⟩
    cases c with
    | true =>
      rw [if_pos rfl] at q3 ⊢
      exact out_ret q3 v F1 H1 S1 d1
    | false =>
      rw [if_neg Bool.false_ne_true] at q3 ⊢
      exact ⟨ρ1, F1, S1.rel, q3.mono fun c ρ2 k2 w F2 H2 S2 d2 => k2 w F2 H2 (S1.trans S2) d2⟩⟩
/-- x, y = a, b where the stores go the other way round -/
def nmAll : List Nat → List PyData → Ev → Option Ev
  | [], [], ρ => some ρ
  | i :: is, d :: ds, ρ => (hName i d ρ).bind (nmAll is ds)
  | _, _, _ => none
def sPar (is : List Nat) (f : Dn (List PyData)) : Dn Fl := bnd f fun ds => fun ρ => match nmAll is ds ρ with
  | none => .st
  | some ρ' => .ok (.nx, ρ')
theorem nmAll_stp {K : PySem.W.Frag} {F H : Hp} : ∀ {is : List Nat} {ds : List PyData} {vs : List V} {ρ ρ' : Ev} {σ : St}, Rel K ρ σ F H → DqAll F vs ds → nmAll is ds ρ = some ρ' → Stp K ρ σ F H ρ' ((is.zip vs).foldl (fun σ p => σ.set p.1 (some p.2)) σ) F H ∧ is.length = vs.length
  | [], _, _, ρ, ρ', σ, R, dq, e => by
    cases dq with
    | nil => cases e; exact ⟨Stp.refl R, rfl⟩
    | cons _ _ => cases e
  | i :: is, _, _, ρ, ρ', σ, R, dq, e => by
    cases dq with
    | nil => cases e
    | @cons v vs d ds d1 d2 =>
      obtain ⟨ρ1, e1, e2⟩ := Option.bind_eq_some_iff.mp (show (hName i d ρ).bind (nmAll is ds) = some ρ' from e)
      have S1 := hName_stp R d1 e1
      obtain ⟨S2, hl⟩ := nmAll_stp S1.rel d2 e2
      exact ⟨S1.trans S2, by simp [hl]⟩
theorem par_end {K : PySem.W.Frag} {mg : Str → Option Value} {is : List Nat} {ds : List PyData} {vs : List V} {ρ ρ1 : Ev} {σ : St} {F H F1 H1 : Hp} {P : Fl → Ev → Prop} (S1 : Stp K ρ σ F H ρ1 σ F1 H1) (dq : DqAll F1 vs ds) (q : Out mg E ρ1 σ H1 ((fun ρ => match nmAll is ds ρ with
    | none => .st
    | some ρ' => .ok (.nx, ρ') : Dn Fl) ρ1) P) : ∃ ρ2, P .nx ρ2 ∧ Stp K ρ σ F H ρ2 ((is.zip vs).foldl (fun σ p => σ.set p.1 (some p.2)) σ) F1 H1 ∧ is.length = vs.length := by
  cases e : nmAll is ds ρ1 with
  | none => simp only [e] at q; exact (show False from q).elim
  | some ρ2 =>
    simp only [e] at q
    obtain ⟨S2, hl⟩ := nmAll_stp S1.rel dq e
    exact ⟨ρ2, q, S1.trans S2, hl⟩
theorem gs_par (i j : Nat) {x y : Str} {a b : Expr} {f : Dn (List PyData)} {px py pt pt2 : Pos} {kt k2 : Nat} (hc : X.calm = true) (nd : X.N.Nodup) (hi : X.N[i]? = some x) (hj : X.N[j]? = some y) (ij : i ≠ j) (hx : List.lookup x X.env.scope.names = some .local) (hy : List.lookup y X.env.scope.names = some .local)
    (ha : PA X [a, b] (tDs X.K X.mg E f)) (hs : swappedStores [.Tuple [.Name x px, .Name y py] kt pt] (.Tuple [a, b] k2 pt2) X.env = pure (some [x, y])) (hw : swapsWithSole [.Tuple [.Name x px, .Name y py] kt pt] (.Tuple [a, b] k2 pt2) pos.line X.env = pure false := by rfl) :
    PS X (.Assign [.Tuple [.Name x px, .Name y py] kt pt] (.Tuple [a, b] k2 pt2) pos) (tS X.K X.mg E (sPar [i, j] f)) :=
  ps_wk (ps_par hc nd hi hj ij hx hy ha hs hw) fun D σ H ⟨ρ, F, R, q⟩ => ⟨ρ, F, R, (out_bnd (K := X.K) (F := F) q).mono fun ds ρ1 k vs F1 H1 S1 dq => by
    obtain ⟨ρ2, q2, S2, hl⟩ := par_end S1 dq (k _ _ _ S1)
    match vs, hl with
    | [v, w], _ => exact ⟨v, w, rfl, q2 _ F1 H1 S2⟩⟩
theorem gs_par3 (i j l : Nat) {x y z : Str} {a b c : Expr} {f : Dn (List PyData)} {px py pz pt pt2 : Pos} {kt k2 : Nat} (hc : X.calm = true) (nd : X.N.Nodup) (hi : X.N[i]? = some x) (hj : X.N[j]? = some y) (hl : X.N[l]? = some z) (ij : i ≠ j) (il : i ≠ l) (jl : j ≠ l) (hx : List.lookup x X.env.scope.names = some .local) (hy : List.lookup y X.env.scope.names = some .local) (hz : List.lookup z X.env.scope.names = some .local)
    (ha : PA X [a, b, c] (tDs X.K X.mg E f)) (hs : swappedStores [.Tuple [.Name x px, .Name y py, .Name z pz] kt pt] (.Tuple [a, b, c] k2 pt2) X.env = pure (some [x, y, z])) (hw : swapsWithSole [.Tuple [.Name x px, .Name y py, .Name z pz] kt pt] (.Tuple [a, b, c] k2 pt2) pos.line X.env = pure false := by rfl) :
    PS X (.Assign [.Tuple [.Name x px, .Name y py, .Name z pz] kt pt] (.Tuple [a, b, c] k2 pt2) pos) (tS X.K X.mg E (sPar [i, j, l] f)) :=
  ps_wk (ps_par3 hc nd hi hj hl ij il jl hx hy hz ha hs hw) fun D σ H ⟨ρ, F, R, q⟩ => ⟨ρ, F, R, (out_bnd (K := X.K) (F := F) q).mono fun ds ρ1 k vs F1 H1 S1 dq => by
    obtain ⟨ρ2, q2, S2, hl⟩ := par_end S1 dq (k _ _ _ S1)
    match vs, hl with
    | [u, v, w], _ => exact ⟨u, v, w, rfl, q2 _ F1 H1 S2⟩⟩
end
end Gx

/-! G9: bits, least and greatest, sums. -/
namespace Gx
open PySem PySem.Spec L2
open PyProof.Rows hiding St

section
variable {X : Cx} {E : XK} {pos : Pos}
theorem op_i2 {f : Value → Value → Sem Value} {C : Int → Int → Prop} {cb : Int → Int → Bool} {v : Int → Int → Int} (h : OpR X f (rI C fun i j => .int (v i j))) (hc : ∀ i j, cb i j = true → C i j) : OpD X f (fun d e => match d, e with
    | .int i, .int j => if cb i j then fI (v i j) else none
    | _, _ => none) := opR_wk h fun x y H Q h => by
  obtain ⟨F, d, e, r, s, h1, h2, hr, q⟩ := h
  cases h1 with
  | int i =>
    cases h2 with
    | int j =>
      have hr' : (if cb i j then fI (v i j) else none) = some r := hr
      by_cases c : cb i j = true
      · rw [if_pos c] at hr'
        cases hr'
        exact ⟨i, j, rfl, rfl, hc i j c, q _ F H (Grow.refl s) (.int _)⟩
      · rw [if_neg c] at hr'
        cases hr'
    | _ => cases hr
  | _ => cases h2 <;> cases hr
def i2D (cb : Int → Int → Bool) (v : Int → Int → Int) (d e : PyData) : Option Rv := match d, e with
  | .int i, .int j => if cb i j then fI (v i j) else none
  | _, _ => none
def shlD := i2D (fun i j => decide (0 ≤ j) && (decide (j ≤ 1000000) && decide (i.natAbs < 2 ^ 64))) fun i j => i * 2 ^ j.toNat
def shrD := i2D (fun _ j => decide (0 ≤ j)) fun i j => i / 2 ^ j.toNat
def bandD := i2D (fun _ _ => true) Builtin.bitAnd
def borD := i2D (fun _ _ => true) Builtin.bitOr
theorem op_shlD : OpD X (binaryOp .LShift) shlD := op_i2 op_shl fun i j h => by
  simp only [Bool.and_eq_true, decide_eq_true_eq] at h
  exact ⟨h.1, h.2.1, h.2.2⟩
theorem op_shrD : OpD X (binaryOp .RShift) shrD := op_i2 op_shr fun i j h => of_decide_eq_true h
theorem opR_rI0 {f : Value → Value → Sem Value} {g : Int → Int → V} (h : OpR X f (rI0 g)) : OpR X f (rI (fun _ _ => True) g) := opR_wk h fun x y H Q ⟨i, j, e1, e2, _, q⟩ => ⟨i, j, e1, e2, q⟩
theorem op_bandD : OpD X (binaryOp .BitAnd) bandD := op_i2 (opR_rI0 op_and) fun _ _ _ => trivial
theorem op_borD : OpD X (binaryOp .BitOr) borD := op_i2 (opR_rI0 op_or) fun _ _ _ => trivial
/-- the numbers of a list -/
def intsD : List PyData → Option (List Int)
  | [] => some []
  | .int i :: ds => (intsD ds).map (i :: ·)
  | _ :: _ => none
theorem dqs_intsD {F : Hp} : ∀ {vs : List V} {ds : List PyData} {ns : List Int}, DqAll F vs ds → intsD ds = some ns → vs = ns.map V.int
  | [], _, bs, h, e => by cases h; cases e; rfl
  | v :: vs, _, bs, h, e => by
    cases h with
    | cons h1 h2 =>
      cases h1 with
      | int i =>
        obtain ⟨cs, e1, e2⟩ := Option.map_eq_some_iff.mp (show (intsD _).map (i :: ·) = some bs from e)
        subst e2
        rw [dqs_intsD h2 e1]
        rfl
      | _ => cases e
def leastL : List Int → Option Int
  | [] => none
  | [n] => some n
  | n :: ns => (leastL ns).map fun m => if m < n then m else n
theorem leastL_ok : ∀ {ns : List Int} {m : Int}, leastL ns = some m → m ∈ ns ∧ ∀ y ∈ ns, m ≤ y
  | [], _, h => by cases h
  | [n], m, h => by cases h; simp
  | n :: k :: ns, m, h => by
    obtain ⟨l, h1, h2⟩ := Option.map_eq_some_iff.mp (show (leastL (k :: ns)).map (fun m => if m < n then m else n) = some m from h)
    obtain ⟨i1, i2⟩ := leastL_ok h1
    by_cases c : l < n
    · rw [if_pos c] at h2
      subst h2
      refine ⟨List.mem_cons_of_mem _ i1, fun y hy => ?_⟩
      rcases List.mem_cons.mp hy with rfl | hy
      · omega
      · exact i2 y hy
    · rw [if_neg c] at h2
      subst h2
      refine ⟨List.mem_cons_self, fun y hy => ?_⟩
      rcases List.mem_cons.mp hy with rfl | hy
      · omega
      · have := i2 y hy; omega
def minD : List PyData → Option Rv
  | [.int i, .int j] => fI (if j < i then j else i)
  | [.list xs] => ((intsD xs).bind leastL).bind fI
  | _ => none
theorem call_minD (hc : X.calm = true) : CallD X (.builtin "min") minD := callR_wk ((call_min2 hc).or (cr_min hc)) fun xs H Q h => by
  obtain ⟨F, ds, r, s, h1, hr, q⟩ := h
  cases h1 with
  | nil => cases hr
  | cons h1 h2 =>
    cases h2 with
    | nil =>
      cases h1 with
      | @lst a vs xs ha hx =>
        obtain ⟨m, e1, e2⟩ := Option.bind_eq_some_iff.mp (show ((intsD xs).bind leastL).bind fI = some r from hr)
        obtain ⟨ns, e3, e4⟩ := Option.bind_eq_some_iff.mp e1
        cases e2
        have e := dqs_intsD hx e3
        subst e
        obtain ⟨m1, m2⟩ := leastL_ok e4
        refine .inr ⟨a, ns, rfl, .of (s _ _ ha), List.length_pos_of_mem m1, fun k k1 k2 => ?_⟩
        have : k = m := by have := k2 m m1; have := m2 k k1; omega
        subst this
        exact q _ F H (Grow.refl s) (.int _)
      | _ => cases hr
    | cons h3 h4 =>
      cases h4 with
      | cons _ _ => cases h1 <;> cases h3 <;> cases hr
      | nil =>
        cases h1 with
        | int i =>
          cases h3 with
          | int j => cases hr; exact .inl ⟨i, j, rfl, q _ F H (Grow.refl s) (.int _)⟩
          | _ => cases hr
        | _ => cases h3 <;> cases hr
def maxD : List PyData → Option Rv
  | [.int i, .int j] => fI (if j > i then j else i)
  | _ => none
theorem call_maxD (hc : X.calm = true) : CallD X (.builtin "max") maxD := callR_wk (call_max2 hc) fun xs H Q h => by
  obtain ⟨F, ds, r, s, h1, hr, q⟩ := h
  cases h1 with
  | nil => cases hr
  | cons h1 h2 =>
    cases h2 with
    | nil => cases h1 <;> cases hr
    | cons h3 h4 =>
      cases h4 with
      | cons _ _ => cases h1 <;> cases h3 <;> cases hr
      | nil =>
        cases h1 with
        | int i =>
          cases h3 with
          | int j => cases hr; exact ⟨i, j, rfl, q _ F H (Grow.refl s) (.int _)⟩
          | _ => cases hr
        | _ => cases h3 <;> cases hr
def sumD : List PyData → Option Rv
  | [.list xs] => (intsD xs).bind fun ns => fI ns.sum
  | _ => none
theorem call_sumD (hc : X.calm = true) : CallD X (.builtin "sum") sumD := callR_wk (cr_sum hc) fun xs H Q h => by
  obtain ⟨F, ds, r, s, h1, hr, q⟩ := h
  cases h1 with
  | nil => cases hr
  | cons h1 h2 =>
    cases h2 with
    | cons _ _ => cases h1 <;> cases hr
    | nil =>
      cases h1 with
      | @lst a vs xs ha hx =>
        obtain ⟨ns, e3, e4⟩ := Option.bind_eq_some_iff.mp (show (intsD xs).bind (fun ns => fI ns.sum) = some r from hr)
        cases e4
        have e := dqs_intsD hx e3
        subst e
        exact ⟨a, ns, rfl, .of (s _ _ ha), q _ F H (Grow.refl s) (.int _)⟩
      | _ => cases hr
def bitsD : PyData → Option PyData
  | .int i => some (.int (Builtin.Int.intBits i))
  | _ => none
theorem g_bits {e : Expr} {f : Dn PyData} {apos : Pos} (he : PE X e (tD X.K X.mg E f)) (hb : attributeBase e "bit_length" X.env (eval e X.env) = eval e X.env := by rfl) (hl : (apos.endLine == pos.line) = true := by rfl) : PE X (.Call (.Attribute e "bit_length" apos) [] [] pos) (tD X.K X.mg E (dUn bitsD f)) :=
  pe_wk (pe_bits he hb hl) fun σ H Q ⟨ρ, F, R, q⟩ => ⟨ρ, F, R, (out_bnd (K := X.K) (F := F) q).mono fun d ρ1 k v F1 H1 S1 d1 => by
    obtain ⟨r, hr, q2⟩ := out_lft (k _ _ _ S1)
    cases d1 with
    | int i => cases hr; exact ⟨i, rfl, q2 _ F1 H1 S1 (.int _)⟩
    | _ => cases hr⟩
end
end Gx

/-! X8: raise. -/
namespace Gx
open PySem PySem.Spec L2
open PyProof.Rows hiding St

section
variable {X : Cx} {E : XK} {pos p : Pos} {C fI : Addr} {x : Str} {B newId initId : String} {bmB : List Value} {k : Nat} {fd : FuncData} {ps : List Str} {sp : Sp}
def tMkR (C : Addr) (sp : Sp) (ta : TA) : St → Hp → XK → Prop := fun σ H Q => ta σ H fun vs H1 => vs.length ≤ 1000 ∧ ∀ a : Addr, H1 a = none → sp (V.ref a :: vs) (upd H1 a (exo a C none))
  (fun v H2 => v = .non ∧ ∃ d fs, H2 a = some (exo a C (some d)) ∧ H2 d = some (exd d fs) ∧ H1 d = none ∧ Q (.ref C) (some d) (upd (L2.del H2 a) d (.xd fs))) fun _ _ _ => False
theorem pmk_X {e : Expr} {es : List Expr} {ta : TA} (BG : BaseG B newId initId bmB) (T : OexG X.K C B newId bmB) (rs : Raises X (.ref C)) (iC : PySem.W.findIn X.K (Value.ref C) "__init__" = some (some (.ref fI))) (tI : PySem.W.typeIn X.K (.ref fI) = some (.type "function"))
    (F1 : FnOk X.prog X.w X.K X.mg X.base (L2.CX X.prog X.w) k fI fd ps sp) (hr : Room (k + 1) X.A) (hb : Binds X.K fd ps []) (hx : Passes (L2.CX X.prog X.w) X fun _ _ _ => False) (hg : Gl X x) (hm : X.mg x = some (.ref C)) (ha : PA X (e :: es) ta)
    (hdb : (x == ("__debug__" : Str)) = false := by decide) (he : starEach (e :: es) X.env = (false, eval e X.env) :: starEach es X.env := by rfl) (hpl : (backTo pos (starEach es X.env)).any (·.1) = false := by rfl) :
    PMk X (.Call (.Name x p) (e :: es) [] pos) (tMkR C sp ta) := by
  intro pins s σ H Q I h
  refine wpAny_Call_Name_kw (ld_glob I hg hm ?_ hdb)
  refine PySem.W.callWith_K (h₀ := X.base) I.ok.mod.kin T.kC (thn (ha.run pos pins s σ H _ I h) fun us s1 hh => ?_) he hpl
  obtain ⟨vs, H1, I1, r1, hz, q1⟩ := hh
  refine ⟨I1.kIn, ?_⟩
  obtain ⟨nm, q, N, bs, bm, sn, sub, ab, col, dd, k0, k1, k2, k3, k5, hC, hbm⟩ := T.cls
  obtain ⟨hp, g, dr, tk, os⟩ := s1
  have hsz : hp.objs.size ≤ hp.objs.size + 1 := Nat.le_succ _
  have hn := I1.hok.fresh hsz
  have hq := q1 (hp.objs.size + 1) hn
  have kk : ∀ b o, hp.get? b = some o → ((hp.push (PySem.W.kdv_tup us)).push (HandSPX.excO C hp.objs.size)).get? b = some o := fun b o e => Heap.get?_push_of_some _ (Heap.get?_push_of_some _ e)
  have hget : ((hp.push (PySem.W.kdv_tup us)).push (HandSPX.excO C hp.objs.size)).get? (hp.objs.size + 1) = some (HandSPX.excO C hp.objs.size) := Heap.get?_push_at (by simp) rfl
  have I2 : L2.Inv X pins σ (upd H1 (hp.objs.size + 1) (exo (hp.objs.size + 1) C none)) ⟨_, g, dr, tk, os⟩ := I1.laid (t' := tk) kk hsz (exo_ok hget)
  have r2 : Vals (V.ref (hp.objs.size + 1) :: vs) (Value.ref (hp.objs.size + 1) :: us) := .cons rfl r1
  have hl : (Value.ref (hp.objs.size + 1) :: us).length = ps.length := by
    have e := r2.length
    have e2 := F1.len _ _ _ _ hq
    omega
  have hus : us.length ≤ sizeLine := by
    have := r1.length
    rw [sizeLine_eq]
    omega
  show wpAny _ _ (call (Value.ref C) us) _ _ _
  refine wpAny_call (HandSPX.call_own BG.ef hbm (I1.kIn C _ hC) (PySem.W.looks_findIn I1.kIn iC) (fun self => PySem.W.bind_fn I1.kIn self tI) hus (codeAny_mono (F1.run _ X.stack _ _ _ _ _ _ _ (hr.make C us []) (I2.env0.make C us []) (by
    have z := hb ⟨(hp.push (PySem.W.kdv_tup us)).push (HandSPX.excO C hp.objs.size), g, dr, tk, os⟩ (Value.ref (hp.objs.size + 1) :: us) I2.kIn (by simpa using hl)
    simpa using z) r2 hq) fun r s' hq' => ?_))
  match r, hq' with
  | .error er, hq' => exact hx pins σ _ _ er s' I2 hq'
  | .ok (.ret u), hq' =>
    obtain ⟨v, H2, os2, bare2, un2, hok2, rv, ev, d, fs, ea, ed, hd1, q2⟩ := (show CE X.stack X.prog X.w _ _ _ u s' from hq')
    subst ev
    obtain rfl : u = Value.none := rv
    obtain ⟨h2, g2, d2, t2, os'⟩ := s'
    exact ⟨rfl, L2.mk_end rs I1 hsz kk un2 hok2 os2 bare2 ea ed hd1 q2⟩
/-- C() of a class without an own __init__, on its way out -/
theorem pmk_0 (EF : ExcBaseFacts B newId initId bmB) (hx : PySem.W.excIn X.K C bmB newId = true) (rs : Raises X (.ref C)) (kC : PySem.W.keepIn X.K (Value.ref C) = true) (hg : Gl X x) (hm : X.mg x = some (.ref C)) (hdb : (x == ("__debug__" : Str)) = false := by decide) :
    PMk X (.Call (.Name x p) [] [] pos) fun σ H Q => Q (.ref C) none H := by
  intro pins s σ H Q I h
  refine wpAny_Call_Name_kw (ld_glob I hg hm ?_ hdb)
  refine PySem.W.callWith_K0 I.kIn kC ?_
  obtain ⟨bm, N, nm, qn, bs, hdct, sn, sub, ab, col, dd, k0, k1, k2, k3, k5, mN, hC, hN, hi, ht⟩ := exc_obj I.kIn hx
  obtain ⟨hp, g, dr, tk, os⟩ := s
  refine wpAny_call_exc_subT EF ht hC hN hi (fun h' e M => ?_) (by rw [sizeLine_eq]; decide)
  obtain ⟨t, ho, _⟩ := M.there
  have hn : H e = none := I.hok.gone M.new
  exact ⟨e, _, _, ⟨hp, g, dr, tk, os⟩, H, .ref C, none, rfl, I, M.keeps, M.new, ho, ⟨rfl, rfl⟩, rfl, rfl, hn, rfl, I.bare, rs, h⟩
/-- raise C(e), over data -/
def raiD (x : Str) : PyData → Dn Fl
  | .int n => fun _ => if okN n then .ex ⟨x, some n⟩ else .st
  | _ => fun _ => .st
def sRaise (x : Str) (f : Dn PyData) : Dn Fl := bnd f (raiD x)
def sRaise0 (x : Str) : Dn Fl := fun _ => .ex ⟨x, none⟩
theorem raise_end {K : PySem.W.Frag} {mg : Str → Option Value} {ρ ρ1 : Ev} {σ : St} {F H F1 H1 : Hp} {d : PyData} {v : V} {P : Fl → Ev → Prop} (S1 : Stp K ρ σ F H ρ1 σ F1 H1) (dv : Dq F1 v d) (hm : mg x = some (.ref C))
    (q : Out mg E ρ1 σ H1 (raiD x d ρ1) P) : ∃ n, v = .int n ∧ okN n = true ∧ ∀ a dx : Addr, H1 a = none → H1 dx = none → dx ≠ a → E (.ref C) (some dx) (upd H1 dx (.xd [(("number" : Str), .int n)])) := by
  cases dv with
  | int n =>
    by_cases ok : okN n = true
    · refine ⟨n, rfl, ok, fun a dx na nd ne => ?_⟩
      have q' : Out mg E ρ1 σ H1 (if okN n then .ex ⟨x, some n⟩ else .st : Rs (Fl × Ev)) P := q
      rw [if_pos ok] at q'
      refine q' _ _ _ ⟨hm, fun b o e _ => ?_, fun b e => ?_, ⟨dx, rfl, nd, upd_same⟩⟩
      · rw [upd_ne (ne_of_none e nd)]
        exact e
      · by_cases hb : b = dx
        · subst hb; exact nd
        · rw [upd_ne hb] at e; exact e
    · have q' : Out mg E ρ1 σ H1 (if okN n then .ex ⟨x, some n⟩ else .st : Rs (Fl × Ev)) P := q
      rw [if_neg ok] at q'
      exact (show False from q').elim
  | _ => exact (show False from q).elim
theorem del_made {H1 : Hp} {a dx C : Addr} {n : Int} (na : H1 a = none) (ne : dx ≠ a) : upd (L2.del (upd (upd (upd H1 a (exo a C none)) dx (exd dx [(("number" : Str), .int n)])) a (exo a C (some dx))) a) dx (.xd [(("number" : Str), .int n)]) = upd H1 dx (.xd [(("number" : Str), .int n)]) := by
  funext b
  by_cases hb : b = dx
  · subst hb; rw [upd_same, upd_same]
  · rw [upd_ne hb, upd_ne hb]
    by_cases ha : b = a
    · subst ha; rw [L2.del_same, na]
    · rw [L2.del_ne ha, upd_ne ha, upd_ne hb, upd_ne ha]
theorem gs_raise {e : Expr} {f : Dn PyData} {W : WX} {pos2 : Pos} (M : MkAt X.K X.mg C) (rs : Raises X (.ref C)) (hc : X.calm = true) (tk : Takes X W) (hE : ∀ cls d σ H, E cls d H → W cls d σ H) (hr : Room k X.A) (hk : 3 ≤ k) (hx : Passes (L2.CX X.prog X.w) X E0) (hg : Gl X x) (hm : X.mg x = some (.ref C)) (he : PE X e (tD X.K X.mg E f))
    (hdb : (x == ("__debug__" : Str)) = false := by decide) (hs : starEach [e] X.env = (false, eval e X.env) :: starEach [] X.env := by rfl) (hpl : (backTo pos (starEach [] X.env)).any (·.1) = false := by rfl) :
    PS X (.Raise (some (.Call (.Name x p) [e] [] pos)) none pos2) (tS X.K X.mg E (sRaise x f)) := by
  obtain ⟨B, newId, initId, bmB, fI, fd, BG, T, iC, tI, F1, hb, _⟩ := M.ex
  refine ps_wk (ps_raise hc tk (pmk_X BG T rs iC tI (F1 _ _ _) (hr.mono hk) hb hx hg hm (pa_cons he pa_nil hs) hdb hs hpl)) fun D σ H ⟨ρ, F, R, q⟩ => ⟨ρ, F, R, (out_bnd (K := X.K) (F := F) q).mono fun d ρ1 kk v F1 H1 S1 dv => ?_⟩
  obtain ⟨n, rfl, ok, q2⟩ := raise_end (x := x) (C := C) S1 dv hm (kk _ _ _ S1)
  refine ⟨by simp, fun a na => ⟨a, n, rfl, ok, upd_same, fun dx nd ne => ⟨rfl, dx, [(("number" : Str), .int n)], upd_same, ?_, ?_, ?_⟩⟩⟩
  · rw [upd_ne ne]; exact upd_same
  · rw [upd_ne ne] at nd; exact nd
  · rw [upd_ne ne] at nd
    rw [del_made na ne]
    exact hE _ _ _ _ (q2 a dx na nd ne)
theorem gs_raise0 {W : WX} {pos2 : Pos} (EF : ExcBaseFacts B newId initId bmB) (hx : PySem.W.excIn X.K C bmB newId = true) (rs : Raises X (.ref C)) (kC : PySem.W.keepIn X.K (Value.ref C) = true) (hc : X.calm = true) (tk : Takes X W) (hE : ∀ cls d σ H, E cls d H → W cls d σ H) (hg : Gl X x) (hm : X.mg x = some (.ref C)) (hdb : (x == ("__debug__" : Str)) = false := by decide) :
    PS X (.Raise (some (.Call (.Name x p) [] [] pos)) none pos2) (tS X.K X.mg E (sRaise0 x)) :=
  ps_wk (ps_raise hc tk (pmk_0 EF hx rs kC hg hm hdb)) fun D σ H ⟨ρ, F, R, q⟩ => hE _ _ _ _ (q _ _ _ ⟨hm, fun _ _ e _ => e, fun _ e => e, rfl⟩)
end
end Gx

/-! G10: in, not in. -/
namespace Gx
open PySem PySem.Spec L2
open PyProof.Rows hiding St

section
variable {X : Cx}
def inB (d e : PyData) : Option Bool := match e with
  | .list ds => if (cln d && clns ds) && (SeqAt.shaped d && SeqAt.shaped (.list ds)) then some (ds.any fun z => z.eqv d) else none
  | .tuple ds => match d with
    | .int i => (intsD ds).map fun ns => ns.any (· == i)
    | _ => none
  | _ => none
def inD (d e : PyData) : Option Rv := (inB d e).bind fB
def notInD (d e : PyData) : Option Rv := (inB d e).bind fun b => fB (!b)
theorem inV_ints (i : Int) : ∀ ns : List Int, inV (.int i) (ns.map V.int) = ns.any (· == i)
  | [] => rfl
  | n :: ns => by
    have ih := inV_ints i ns
    unfold inV at ih ⊢
    rw [List.map_cons, List.any_cons, List.any_cons, ih]
    have : eqV (.int n) (.int i) = (n == i) := by
      unfold eqV
      rfl
    rw [this]
theorem flat_ints : ∀ ns : List Int, (ns.map V.int).all flatV = true
  | [] => rfl
  | n :: ns => by
    rw [List.map_cons, List.all_cons, flat_ints ns]
    rfl
theorem in_end {K : PySem.W.Frag} {x y : V} {H F : Hp} {d e : PyData} {b : Bool} (s : Same F H) (h1 : Dq F x d) (h2 : Dq F y e) (hb : inB d e = some b) : (∃ ds, Dp K H x d ∧ Dp K H y (.list ds) ∧ SeqAt.shaped d = true ∧ SeqAt.shaped (.list ds) = true ∧ b = ds.any fun z => z.eqv d) ∨ ∃ p xs, y = .ref p ∧ (SqL K H p xs ∨ SqT K H p xs) ∧ flatV x = true ∧ xs.all flatV = true ∧ b = inV x xs := by
  cases h2 with
  | @lst a vs ds ha hx =>
    have hb' : (if (cln d && clns ds) && (SeqAt.shaped d && SeqAt.shaped (.list ds)) then some (ds.any fun z => z.eqv d) else none) = some b := hb
    by_cases c : ((cln d && clns ds) && (SeqAt.shaped d && SeqAt.shaped (.list ds))) = true
    · rw [if_pos c] at hb'
      cases hb'
      simp only [Bool.and_eq_true] at c
      exact .inl ⟨ds, dq_dp d x c.1.1 (dp_mono s d x h1), .lst (.of (s _ _ ha)) (dqs_dp ds vs c.1.2 (dps_mono s ds vs hx)), c.2.1, c.2.2, rfl⟩
    · rw [if_neg c] at hb'
      cases hb'
  | @tup a vs ds ha hx =>
    cases h1 with
    | int i =>
      obtain ⟨ns, e1, e2⟩ := Option.map_eq_some_iff.mp (show (intsD ds).map (fun ns => ns.any (· == i)) = some b from hb)
      have e := dqs_intsD hx e1
      subst e
      refine .inr ⟨a, _, rfl, .inr (.of (s _ _ ha)), rfl, flat_ints ns, ?_⟩
      rw [inV_ints]
      exact e2.symm
    | _ => cases hb
  | _ => cases hb
theorem op_inDD (hu : X.A.units + 65 < cLine) : OpD X (compareOp .In) inD := opR_wk ((op_inD hu).or op_in_seq) fun x y H Q h => by
  obtain ⟨F, d, e, r, s, h1, h2, hr, q⟩ := h
  obtain ⟨b, e1, e2⟩ := Option.bind_eq_some_iff.mp hr
  cases e2
  have k := q (.bl b) F H (Grow.refl s) (.bl b)
  rcases in_end (K := X.K) s h1 h2 e1 with ⟨ds, a1, a2, a3, a4, a5⟩ | ⟨p, xs, a1, a2, a3, a4, a5⟩
  · subst a5
    exact .inl ⟨d, ds, a1, a2, a3, a4, k⟩
  · subst a5
    exact .inr ⟨p, xs, a1, a2, a3, a4, k⟩
theorem op_notInDD (hu : X.A.units + 65 < cLine) : OpD X (compareOp .NotIn) notInD := opR_wk ((op_notInD hu).or op_notIn_seq) fun x y H Q h => by
  obtain ⟨F, d, e, r, s, h1, h2, hr, q⟩ := h
  obtain ⟨b, e1, e2⟩ := Option.bind_eq_some_iff.mp hr
  cases e2
  have k := q (.bl (!b)) F H (Grow.refl s) (.bl _)
  rcases in_end (K := X.K) s h1 h2 e1 with ⟨ds, a1, a2, a3, a4, a5⟩ | ⟨p, xs, a1, a2, a3, a4, a5⟩
  · subst a5
    exact .inl ⟨d, ds, a1, a2, a3, a4, k⟩
  · subst a5
    exact .inr ⟨p, xs, a1, a2, a3, a4, k⟩
end
end Gx

/-! G11: ranges as lists and tuples; what is never reached. -/
namespace Gx
open PySem PySem.Spec L2
open PyProof.Rows hiding St

theorem room_u1 {k : Nat} {A : Around} (h : Room k A) : A.units + 65 < cLine := by
  have := h.un
  omega
section
variable {X : Cx} {E : XK} {pos : Pos}
/-- a statement that is never reached -/
def sNever : Dn Fl := fun _ => .st
theorem gs_never {st : Stmt} : PS X st (tS X.K X.mg E sNever) := ⟨fun pins s σ H D I ⟨ρ, F, R, q⟩ => (show False from q).elim⟩
theorem dqs_rg {F : Hp} (a b : Int) : DqAll F (rgV a b) (rgD a (b - a).toNat) := by
  unfold rgV rgD
  generalize List.range (b - a).toNat = l
  induction l with
  | nil => exact .nil
  | cons i l ih => exact .cons (.int _) ih
def rgOkB (a b : Int) : Bool := (small62 a && small62 b) && decide ((b - a).toNat ≤ 2 ^ 24)
theorem rgOkB_ok {a b : Int} (h : rgOkB a b = true) (ha : a < 2 ^ 62) : RgOk a b := by
  unfold rgOkB at h
  simp only [Bool.and_eq_true, decide_eq_true_eq] at h
  obtain ⟨⟨h1, h2⟩, h3⟩ := h
  have := small62_ok h1
  have := small62_ok h2
  exact ⟨by omega, by omega, by omega, by omega, h3⟩
theorem small62_lt {i : Int} (h : small62 i = true) : i < 2 ^ 62 := by
  unfold small62 at h
  rw [Bool.and_eq_true, decide_eq_true_eq, decide_eq_true_eq] at h
  omega
theorem rgOkB_lt {a b : Int} (h : rgOkB a b = true) : a < 2 ^ 62 := by
  unfold rgOkB at h
  simp only [Bool.and_eq_true] at h
  exact small62_lt h.1.1
def rgX (t : Bool) (i j : Int) : Option Rv := if rgOkB i j then some (if t then .fz (.tuple (rgD i (j - i).toNat)) else .ol (rgD i (j - i).toNat)) else none
def rg1X (t : Bool) (d : PyData) : Option Rv := match d with
  | .int j => rgX t 0 j
  | _ => none
def rg2X (t : Bool) (d e : PyData) : Option Rv := match d, e with
  | .int i, .int j => rgX t i j
  | _, _ => none
def dR1 (g : PyData → Option Rv) (f : Dn PyData) : Dn Rv := bnd f fun d => lft (g d)
theorem rg_tup {K : PySem.W.Frag} {ρ ρ1 : Ev} {σ : St} {F H F1 H1 : Hp} {Q : VK} {i j : Int} {r : Rv} (S1 : Stp K ρ σ F H ρ1 σ F1 H1) (hr : rgX true i j = some r) (q : ∀ v F' H', Stp K ρ σ F H ρ1 σ F' H' → ROk ρ σ H ρ1 σ F' H' r v → Q v H') : RgOk i j ∧ ∀ a : Addr, H1 a = none → Q (.ref a) (upd H1 a (.tup (rgV i j))) := by
  unfold rgX at hr
  by_cases c : rgOkB i j = true
  · rw [if_pos c] at hr
    cases hr
    refine ⟨rgOkB_ok c (rgOkB_lt c), fun a na => ?_⟩
    have gr := Grow.new (o := .tup (rgV i j)) S1.rel.sub na
    exact q _ _ _ (S1.trans (gr.stp S1.rel)) (Dq.tup upd_same (dqs_rg i j))
  · rw [if_neg c] at hr
    cases hr
theorem rg_lst {K : PySem.W.Frag} {ρ ρ1 : Ev} {σ : St} {F H F1 H1 : Hp} {Q : VK} {i j : Int} {r : Rv} (S1 : Stp K ρ σ F H ρ1 σ F1 H1) (hr : rgX false i j = some r) (q : ∀ v F' H', Stp K ρ σ F H ρ1 σ F' H' → ROk ρ σ H ρ1 σ F' H' r v → Q v H') : RgOk i j ∧ ∀ a : Addr, H1 a = none → Q (.ref a) (upd H1 a (.lst (rgV i j))) := by
  unfold rgX at hr
  by_cases c : rgOkB i j = true
  · rw [if_pos c] at hr
    cases hr
    refine ⟨rgOkB_ok c (rgOkB_lt c), fun a na => ?_⟩
    have gr := Grow.own (o := .lst (rgV i j)) S1.rel.sub na
    have nk : NOk H1 F1 (upd H1 a (.lst (rgV i j))) (.ol (rgD i (j - i).toNat)) (.ref a) := ⟨a, _, rfl, na, upd_same, S1.rel.sub.free na, dqs_rg i j⟩
    exact q _ F1 _ (S1.trans (gr.stp S1.rel)) ((nk.rok S1.rel).before S1)
  · rw [if_neg c] at hr
    cases hr
theorem g_tupRg1 {a : Expr} {p p2 pos2 : Pos} {f : Dn PyData} (hc : X.calm = true) (hg : Gl X "tuple") (hm : X.mg "tuple" = none) (hg2 : Gl X "range") (hm2 : X.mg "range" = none) (ha : PE X a (tD X.K X.mg E f)) (hs2 : starEach [a] X.env = (false, eval a X.env) :: starEach [] X.env := by rfl)
    (hs : starEach [.Call (.Name "range" p2) [a] [] pos2] X.env = (false, eval (.Call (.Name "range" p2) [a] [] pos2) X.env) :: starEach [] X.env := by rfl) :
    PE X (.Call (.Name "tuple" p) [.Call (.Name "range" p2) [a] [] pos2] [] pos) (tE X.K X.mg E (dR1 (rg1X true) f)) :=
  pe_wk (pe_tupRg hc hg hm (prg_1 hg2 hm2 ha hs2) hs) fun σ H Q ⟨ρ, F, R, q⟩ => ⟨ρ, F, R, (out_bnd (K := X.K) (F := F) q).mono fun d ρ1 k v F1 H1 S1 d1 => by
    obtain ⟨r, hr, q2⟩ := out_lft (k _ _ _ S1)
    cases d1 with
    | int j => exact ⟨j, rfl, rg_tup S1 hr q2⟩
    | _ => cases hr⟩
theorem g_lstRg1 {a : Expr} {p p2 pos2 : Pos} {f : Dn PyData} (hc : X.calm = true) (hg : Gl X "list") (hm : X.mg "list" = none) (hg2 : Gl X "range") (hm2 : X.mg "range" = none) (ha : PE X a (tD X.K X.mg E f)) (hs2 : starEach [a] X.env = (false, eval a X.env) :: starEach [] X.env := by rfl)
    (hs : starEach [.Call (.Name "range" p2) [a] [] pos2] X.env = (false, eval (.Call (.Name "range" p2) [a] [] pos2) X.env) :: starEach [] X.env := by rfl) :
    PE X (.Call (.Name "list" p) [.Call (.Name "range" p2) [a] [] pos2] [] pos) (tE X.K X.mg E (dR1 (rg1X false) f)) :=
  pe_wk (pe_listRg hc hg hm (prg_1 hg2 hm2 ha hs2) hs) fun σ H Q ⟨ρ, F, R, q⟩ => ⟨ρ, F, R, (out_bnd (K := X.K) (F := F) q).mono fun d ρ1 k v F1 H1 S1 d1 => by
    obtain ⟨r, hr, q2⟩ := out_lft (k _ _ _ S1)
    cases d1 with
    | int j => exact ⟨j, rfl, rg_lst S1 hr q2⟩
    | _ => cases hr⟩
theorem g_tupRg2 {a b : Expr} {p p2 pos2 : Pos} {f g : Dn PyData} (hc : X.calm = true) (hg : Gl X "tuple") (hm : X.mg "tuple" = none) (hg2 : Gl X "range") (hm2 : X.mg "range" = none) (ha : PE X a (tD X.K X.mg E f)) (hb : PE X b (tD X.K X.mg E g)) (hs2 : starEach [a, b] X.env = (false, eval a X.env) :: starEach [b] X.env := by rfl) (hs3 : starEach [b] X.env = (false, eval b X.env) :: starEach [] X.env := by rfl)
    (hpl : (backTo pos2 (starEach [b] X.env)).any (·.1) = false := by rfl) (hs : starEach [.Call (.Name "range" p2) [a, b] [] pos2] X.env = (false, eval (.Call (.Name "range" p2) [a, b] [] pos2) X.env) :: starEach [] X.env := by rfl) :
    PE X (.Call (.Name "tuple" p) [.Call (.Name "range" p2) [a, b] [] pos2] [] pos) (tE X.K X.mg E (dBin (rg2X true) f g)) :=
  pe_wk (pe_tupRg hc hg hm (prg_2 hg2 hm2 ha hb hs2 hs3 hpl) hs) fun σ H Q ⟨ρ, F, R, q⟩ => ⟨ρ, F, R, (out_bnd (K := X.K) (F := F) q).mono fun d ρ1 k v F1 H1 S1 d1 => ⟨ρ1, F1, S1.rel, (out_bnd (K := X.K) (F := F1) (k _ _ _ S1)).mono fun e ρ2 k2 u F2 H2 S2 d2 => by
    obtain ⟨r, hr, q2⟩ := out_lft (k2 _ _ _ S2)
    cases d1 with
    | int i =>
      cases d2 with
      | int j => exact ⟨i, j, rfl, rfl, rg_tup (S1.trans S2) hr q2⟩
      | _ => cases hr
    | _ => cases d2 <;> cases hr⟩⟩
end
end Gx

/-! ST: sorted, of tuples of numbers, the empty one among them. -/
namespace Gx
open PySem PySem.Spec L2
open PyProof.Rows (IsTup IntsAre keyKind' keyLt' oneLt' firstOfTuple' oneTypeOnly' SortKind)
/-- a tuple of numbers -/
def TI (h : Heap) (v : Value) (ns : List Int) : Prop := ∃ a items, v = .ref a ∧ IsTup h a items ∧ IntsAre items.toList ns
section
variable {prog : Program} {w : World} {A : Around} {E : Value → Shared → Prop} {s : Shared}
theorem ti_type {h : Heap} {v : Value} {ns : List Int} (t : TI h v ns) : PySem.W.Looks (model prog w) h (typeOf v) (.type "tuple") := by
  obtain ⟨a, items, rfl, ⟨o, ho, hc, n, hd⟩, hi⟩ := t
  intro A Q E s k q
  obtain ⟨hp, g, d, tk, os⟩ := s
  unfold typeOf
  refine wpAny_bind (wpAny_loadPart_at (k _ _ ho) (wpAny_pure ?_))
  rw [hc]
  exact q
theorem ti_is {v : Value} {ns : List Int} (t : TI s.heap v ns) : s.TypeIs v "tuple" := by
  obtain ⟨a, items, rfl, ⟨o, ho, hc, n, hd⟩, hi⟩ := t
  exact ⟨o, ho, hc⟩
theorem rc_lt {v u : Value} {ns ms : List Int} {Q : Value → Shared → Prop} (t1 : TI s.heap v ns) (t2 : TI s.heap u ms) (hu : A.units < cLine) (q : Q (.bool (HT.lexLt ns ms)) s) : wpAny (model prog w) A (richCompare .Lt v u) Q E s := by
  obtain ⟨a, i1, rfl, h1, g1⟩ := t1
  obtain ⟨b, i2, rfl, h2, g2⟩ := t2
  exact HT.lt_tupInts h1 h2 g1 g2 hu q
theorem drop_bool {b : Bool} {Q : Bool → Shared → Prop} (q : Q b s) : wpAny (model prog w) A (truthOfDropped (.bool b)) Q E s := by
  show wpAny _ _ (truthy (.bool b)) _ _ _
  exact wpAny_pure q
theorem one_ltF {v u : Value} {ns ms : List Int} {Q : Bool → Shared → Prop} (t1 : TI s.heap v ns) (t2 : TI s.heap u ms) (hu : A.units < cLine) (q : Q (HT.lexLt ns ms) s) : wpAny (model prog w) A (oneLt' false v u) Q E s := by
  rw [PyProof.Rows.oneLt'_eq]
  refine wpAny_ite_false rfl ?_
  exact wpAny_bind (rc_lt t1 t2 hu (drop_bool q))
theorem one_ltT {v u : Value} {ns ms : List Int} {Q : Bool → Shared → Prop} (t1 : TI s.heap v ns) (t2 : TI s.heap u ms) (hu : A.units < cLine) (q : Q (HT.lexLt ns ms) s) : wpAny (model prog w) A (oneLt' true v u) Q E s := by
  have ty := ti_is t1
  obtain ⟨a, i1, rfl, ⟨⟨c1, dd, d1, sl⟩, ho, hc, n, hd⟩, g1⟩ := t1
  obtain ⟨b, i2, rfl, ⟨⟨c2, dd2, d2, sl2⟩, ho2, hc2, n2, hd2⟩, g2⟩ := t2
  cases hc
  cases hd
  cases hc2
  cases hd2
  rw [PyProof.Rows.oneLt'_eq]
  refine wpAny_ite_true rfl (wpAny_bind (wpAny_cRoomFor hu (wpAny_bind (wpAny_callSpecialIfBound?_slot ty F.slot_tuple_lt ?_))))
  exact call_meets F.slot_tuple_lt ty F.entry_tuple_lt (F.args_tuple_lt_2 (Value.ref a) (Value.ref b)) (HT.tuple_lt_ints a b i1 i2 n n2 dd dd2 sl sl2 ns ms g1 g2) ⟨ho, ho2, drop_bool q⟩
/-- which way the keys are held against each other -/
theorem first_of {h : Heap} {v : Value} {ns : List Int} (t : TI h v ns) : ∃ o : Option Value, PySem.W.Looks (model prog w) h (firstOfTuple' v) o ∧ (o.isSome = !ns.isEmpty) := by
  have ty := ti_type (prog := prog) (w := w) t
  obtain ⟨a, items, rfl, ⟨o, ho, hc, n, hd⟩, hi⟩ := t
  refine ⟨items[0]?, ?_, ?_⟩
  · show PySem.W.Looks (model prog w) h (do
      let t ← typeOf (Value.ref a)
      if (t != Value.type "tuple") = true then pure none
        else do
          let xs ← Builtin.List.listItems (Value.ref a)
          pure xs[0]?) _
    refine ty.andThen ?_
    show PySem.W.Looks (model prog w) h (do
          let xs ← Builtin.List.listItems (Value.ref a)
          pure xs[0]?) _
    refine PySem.W.Looks.andThen (a := items) ?_ PySem.W.Looks.now
    intro A Q E s k q
    unfold Builtin.List.listItems
    exact wpAny_bind (wpAny_seqItems (k _ _ ho) hd (wpAny_pure q))
  · cases items with
    | mk l =>
      cases hi with
      | nil => rfl
      | cons _ _ => rfl
theorem mapM_looks {α β : Type} {M : Model} {h : Heap} {f : α → Sem β} {P : α → β → Prop} : ∀ (l : List α), (∀ x ∈ l, ∃ y, PySem.W.Looks M h (f x) y ∧ P x y) → ∃ ys : List β, PySem.W.Looks M h (List.mapM f l) ys ∧ PySem.Paired P l ys
  | [], _ => ⟨[], by rw [List.mapM_nil]; exact PySem.W.Looks.now, .nil⟩
  | x :: l, hx => by
    obtain ⟨y, h1, h2⟩ := hx x (by simp)
    obtain ⟨ys, h3, h4⟩ := mapM_looks l fun z hz => hx z (by simp [hz])
    refine ⟨y :: ys, ?_, .cons h2 h4⟩
    rw [List.mapM_cons]
    exact h1.andThen (h3.andThen PySem.W.Looks.now)
theorem paired_at {α β : Type} {P : α → β → Prop} : ∀ {l : List α} {ys : List β} {x : α}, PySem.Paired P l ys → x ∈ l → ∃ y ∈ ys, P x y
  | _, _, x, .nil, h => by cases h
  | _, _, x, .cons h1 h2, h => by
    rcases List.mem_cons.mp h with rfl | h
    · exact ⟨_, by simp, h1⟩
    · obtain ⟨y, a, b⟩ := paired_at h2 h
      exact ⟨y, by simp [a], b⟩
theorem looks_arr {α β : Type} {M : Model} {h : Heap} {f : α → Sem β} {l : List α} {ys : List β} (hl : PySem.W.Looks M h (List.mapM f l) ys) : PySem.W.Looks M h (Array.mapM f l.toArray) ys.toArray := by
  rw [List.mapM_toArray]
  show PySem.W.Looks M h (List.toArray <$> List.mapM f l) _
  rw [← bind_pure_comp]
  exact hl.andThen PySem.W.Looks.now
theorem one_type {h : Heap} {vs : List Value} {k : Value → List Int} (hk : ∀ v ∈ vs, TI h v (k v)) (hn : vs ≠ []) : ∃ t, PySem.W.Looks (model prog w) h (oneTypeOnly' vs.toArray) (some t) := by
  obtain ⟨ts, l1, p1⟩ := mapM_looks (M := model prog w) (h := h) (f := typeOf) (P := fun _ t => t = Value.type "tuple") vs fun v hv => ⟨_, ti_type (hk v hv), rfl⟩
  have all : ∀ t ∈ ts, t = Value.type "tuple" := by
    clear l1 hk hn
    induction p1 with
    | nil => simp
    | cons h1 _ ih =>
      intro t ht
      rcases List.mem_cons.mp ht with rfl | ht
      · exact h1
      · exact ih t ht
  cases ts with
  | nil =>
    cases p1
    exact absurd rfl hn
  | cons t ts =>
    refine ⟨t, ?_⟩
    rw [PyProof.Rows.oneTypeOnly'_eq]
    refine (looks_arr l1).andThen ?_
    have : ((t :: ts).toArray.all fun x => x == t) = true := by
      rw [List.all_toArray, List.all_eq_true]
      intro x hx
      rw [all x hx, all t (by simp)]
      rfl
    show PySem.W.Looks _ h (pure (if ((t :: ts).toArray.all fun x => x == t) = true then some t else none)) _
    rw [if_pos this]
    exact PySem.W.Looks.now
theorem key_kind {h : Heap} {vs : List Value} {k : Value → List Int} (hk : ∀ v ∈ vs, TI h v (k v)) (h0 : ∃ v ∈ vs, k v = []) : ∃ b : Bool, PySem.W.Looks (model prog w) h (keyKind' vs.toArray) (if b then PyProof.Rows.oneType' else PyProof.Rows.general') := by
  obtain ⟨os, l1, p1⟩ := mapM_looks (M := model prog w) (h := h) (f := firstOfTuple') (P := fun v o => o.isSome = !(k v).isEmpty) vs fun v hv => by
    obtain ⟨o, a, b⟩ := first_of (prog := prog) (w := w) (hk v hv)
    exact ⟨o, a, b⟩
  obtain ⟨v0, hv0, e0⟩ := h0
  have hall : ¬ (os.toArray.all fun x => x.isSome) = true := by
    obtain ⟨o, ho, hp⟩ := paired_at p1 hv0
    rw [List.all_toArray, List.all_eq_true]
    intro z
    have := z o ho
    rw [hp, e0] at this
    cases this
  by_cases hf : (os.toArray[0]?.bind id).isSome = true
  · refine ⟨false, ?_⟩
    rw [PyProof.Rows.keyKind'_eq]
    refine (looks_arr l1).andThen ?_
    rw [if_neg hall, if_pos hf]
    exact PySem.W.Looks.now
  · refine ⟨true, ?_⟩
    obtain ⟨t, ht⟩ := one_type (prog := prog) (w := w) hk (by intro z; rw [z] at hv0; cases hv0)
    rw [PyProof.Rows.keyKind'_eq]
    refine (looks_arr l1).andThen ?_
    rw [if_neg hall, if_neg hf]
    exact ht.andThen PySem.W.Looks.now
theorem lex_asym : ∀ x y : List Int, HT.lexLt x y = true → HT.lexLt y x = false
  | [], [], h => by rw [HT.lexLt.eq_1] at h; cases h
  | [], b :: y, _ => HT.lexLt.eq_3 b y
  | a :: x, [], h => by rw [HT.lexLt.eq_3] at h; cases h
  | a :: x, b :: y, h => by
    rw [HT.lexLt.eq_4] at h ⊢
    by_cases e : a = b
    · subst e
      rw [if_pos rfl] at h ⊢
      exact lex_asym x y h
    · rw [if_neg e] at h
      rw [if_neg (Ne.symm e)]
      have := of_decide_eq_true h
      exact decide_eq_false (by omega)
theorem lex_tr : ∀ x y z : List Int, HT.lexLt y x = false → HT.lexLt z y = false → HT.lexLt z x = false
  | [], _, [], _, _ => HT.lexLt.eq_1
  | [], _, c :: z, _, _ => HT.lexLt.eq_3 c z
  | a :: x, [], _, h, _ => by rw [HT.lexLt.eq_2] at h; cases h
  | a :: x, b :: y, [], _, h => by rw [HT.lexLt.eq_2] at h; cases h
  | a :: x, b :: y, c :: z, h1, h2 => by
    rw [HT.lexLt.eq_4] at h1 h2 ⊢
    by_cases e1 : b = a
    · subst e1
      rw [if_pos rfl] at h1
      by_cases e2 : c = b
      · subst e2
        rw [if_pos rfl] at h2 ⊢
        exact lex_tr x y z h1 h2
      · rw [if_neg e2] at h2 ⊢
        exact h2
    · rw [if_neg e1] at h1
      have q1 := of_decide_eq_false h1
      by_cases e2 : c = b
      · subst e2
        rw [if_neg e1]
        exact h1
      · rw [if_neg e2] at h2
        have q2 := of_decide_eq_false h2
        by_cases e3 : c = a
        · omega
        · rw [if_neg e3]
          exact decide_eq_false (by omega)
theorem lex_swo (k : Value → List Int) : SrtO.Swo fun v u => HT.lexLt (k v) (k u) := ⟨fun x y => lex_asym _ _, fun x y z => lex_tr _ _ _⟩
theorem ti_keep {h h' : Heap} {a : Addr} {v : Value} {ns : List Int} (t : TI h v ns) (ha : ∀ o, h.get? a = some o → o.cls ≠ Value.type "tuple") (k : ∀ b o, b ≠ a → h.get? b = some o → h'.get? b = some o) : TI h' v ns := by
  obtain ⟨b, items, rfl, ⟨o, ho, hc, r⟩, hi⟩ := t
  exact ⟨b, items, rfl, ⟨o, k b o (fun z => by subst z; exact ha o ho hc) ho, hc, r⟩, hi⟩
theorem tups_sortable {a : Addr} {vs : List Value} {k : Value → List Int} (hu : A.units < cLine) (hk : ∀ v ∈ vs, TI s.heap v (k v)) (h0 : ∃ v ∈ vs, k v = []) (ha : ∀ o, s.heap.get? a = some o → o.cls ≠ Value.type "tuple") : SrtO.SortableO prog w A s a vs fun v u => HT.lexLt (k v) (k u) := by
  intro h' kp
  have hk' : ∀ v ∈ vs, TI h' v (k v) := fun v hv => ti_keep (hk v hv) ha kp
  obtain ⟨b, hb⟩ := key_kind (prog := prog) (w := w) hk' h0
  refine ⟨if b then PyProof.Rows.oneType' else PyProof.Rows.general', fun Q E q => hb.at q, fun p q hp hq => ?_⟩
  cases b with
  | true =>
    show wpAny _ _ (keyLt' PyProof.Rows.oneType' p.fst q.fst) _ _ _
    rw [PyProof.Rows.keyLt'_oneType]
    exact one_ltT (hk' _ hp) (hk' _ hq) hu ⟨rfl, rfl⟩
  | false =>
    show wpAny _ _ (oneLt' false p.fst q.fst) _ _ _
    exact one_ltF (hk' _ hp) (hk' _ hq) hu ⟨rfl, rfl⟩
/-- sorted, where the empty tuple is among them -/
theorem sorted_lots {l : Addr} {vs : List Value} {k : Value → List Int} {Q : Value → Shared → Prop} (hl : s.heap.IsList l vs.toArray) (hn : vs.length ≤ sizeLine) (hu : A.units + 2 < cLine) (hk : ∀ v ∈ vs, TI s.heap v (k v)) (h0 : ∃ v ∈ vs, k v = [])
    (q : ∀ out : List Value, SrtO.Srtd (fun v u => HT.lexLt (k v) (k u)) out → out.Perm vs → Q (Value.ref (s.heap.objs.size + 1)) { heap := PyProof.Rows.sortedAll s.heap vs out.toArray, gens := s.gens, drawn := s.drawn, toks := s.toks, os := s.os }) :
    wpAny (model prog w) A (call (Value.builtin "sorted") [Value.ref l]) Q E s := by
  refine SrtO.sorted_ord (lex_swo k) hl hn (fun _ h₁ a ha kp => ?_) fun out h1 h2 => q out h1 h2.perm
  refine tups_sortable (s := ⟨h₁, s.gens, s.drawn, s.toks, s.os⟩) (by show A.units + 1 + 1 < cLine; omega) (fun v hv => ?_) h0 fun o ho => ?_
  · obtain ⟨b, items, e, ⟨o, ho, r⟩, hi⟩ := hk v hv
    exact ⟨b, items, e, ⟨o, (kp b o ho).2, r⟩, hi⟩
  · have : o = PyProof.Rows.seqObj "list" vs.toArray 0 := Option.some.inj (ho.symm.trans ha)
    subst this
    intro z
    have z' : Value.type "list" = Value.type "tuple" := z
    exact absurd z' (by decide)
end
end Gx

/-! ST2: sorted of lots, as a rule. -/
namespace Gx
open PySem PySem.Spec L2
open PyProof.Rows (IsTup IntsAre)
theorem ints_of : ∀ {ns : List Int} {us : List Value}, Vals (ns.map V.int) us → IntsAre us ns
  | [], _, h => by cases h; exact .nil
  | n :: ns, _, h => by
    cases h with
    | cons h1 h2 =>
      obtain ⟨t, rfl⟩ := h1
      exact .cons n t (ints_of h2)
def rLots (K : PySem.W.Frag) : List V → Hp → VK → Prop := fun vs H Q => ∃ (a : Addr) (xs : List V) (k : V → List Int), vs = [.ref a] ∧ SqL K H a xs ∧ (∀ x ∈ xs, ∃ t, x = .ref t ∧ SqT K H t ((k x).map V.int)) ∧ (∃ x ∈ xs, k x = []) ∧
  ∀ (ys : List V) (p : Addr), ys.Perm xs → ys.Pairwise (fun x y => HT.lexLt (k y) (k x) = false) → H p = none → Q (.ref p) (upd H p (.lst ys))
theorem cr_lots {X : Cx} (hu : X.A.units + 2 < cLine) : CallR X (.builtin "sorted") (rLots X.K) := by
  intro pins s σ H vs us Q I r h
  obtain ⟨a, xs, k, rfl, hs, hx, h0, q⟩ := h
  obtain ⟨its, rv, hl, hz⟩ := I.list hs
  obtain ⟨u, rfl, ru⟩ := vals1 r
  obtain rfl := (show u = Value.ref a from ru)
  obtain ⟨e1, e2⟩ := refs_back rv fun x m => by
    obtain ⟨t, e, _⟩ := hx x m
    exact ⟨t, e⟩
  have e1 := e1.symm
  have ti : ∀ v ∈ its, TI s.heap v (k (backV v)) := fun v hv => by
    obtain ⟨t, rfl⟩ := e2 v hv
    have hm : V.ref t ∈ xs := by
      rw [← e1]
      exact List.mem_map.mpr ⟨_, hv, rfl⟩
    obtain ⟨t', e, ht⟩ := hx _ hm
    cases e
    obtain ⟨its2, r2, h2, _⟩ := I.tuple ht
    exact ⟨t, its2.toArray, rfl, h2, ints_of r2⟩
  refine sorted_lots (k := fun v => k (backV v)) hl.isList (by rw [← rv.length]; exact hz) hu ti ?_ fun out h1 h2 => ?_
  · obtain ⟨x, hxm, hk⟩ := h0
    rw [← e1] at hxm
    obtain ⟨v, hv, rfl⟩ := List.mem_map.mp hxm
    exact ⟨v, hv, hk⟩
  · have h3 : ∀ u ∈ out, ∃ t, u = Value.ref t := fun u hu => e2 u (h2.mem_iff.mp hu)
    have hp : (out.map backV).Perm xs := by
      rw [← e1]
      exact h2.map _
    obtain ⟨n, hn⟩ := PyProof.Rows.sortedAll_at s.heap its out.toArray
    have hd : s.heap.objs.size ≤ s.heap.objs.size + 1 := Nat.le_succ _
    refine ⟨.ref (s.heap.objs.size + 1), _, I.laid (t' := s.toks) (o := .lst (out.map backV)) (fun b o e => PyProof.Rows.sortedAll_old e) hd ⟨by rw [hp.length_eq]; exact hz, out, n, vals_back h3, hn⟩, rfl, q (out.map backV) _ hp ?_ (I.hok.fresh hd)⟩
    exact List.pairwise_map.mpr h1
end Gx

/-! ST3: sorted of lots, over data. -/
namespace Gx
open PySem PySem.Spec L2

/-- the lots of a list -/
def lotD : PyData → Option (List Int)
  | .tuple ds => intsD ds
  | _ => none
def lotsD : List PyData → Option (List (List Int))
  | [] => some []
  | d :: ds => (lotD d).bind fun ns => (lotsD ds).map (ns :: ·)
def tupI (ns : List Int) : PyData := .tuple (ns.map .int)
theorem intsD_eq : ∀ {ds : List PyData} {ns : List Int}, intsD ds = some ns → ds = ns.map .int
  | [], _, h => by cases h; rfl
  | .int i :: ds, ns, h => by
    obtain ⟨ms, h1, h2⟩ := Option.map_eq_some_iff.mp (show (intsD ds).map (i :: ·) = some ns from h)
    subst h2
    rw [intsD_eq h1]
    rfl
  | .none :: _, _, h => by cases h
  | .bool _ :: _, _, h => by cases h
  | .str _ :: _, _, h => by cases h
  | .list _ :: _, _, h => by cases h
  | .tuple _ :: _, _, h => by cases h
  | .dict _ :: _, _, h => by cases h
theorem lotD_eq {d : PyData} {ns : List Int} (h : lotD d = some ns) : d = tupI ns := by
  cases d with
  | tuple ds => rw [intsD_eq (show intsD ds = some ns from h)]; rfl
  | _ => cases h
/-- what a tracked tuple of numbers holds -/
def kF (F : Hp) : V → List Int
  | .ref t => match F t with
    | some (.tup vs) => vs.filterMap fun v => match v with
      | .int i => some i
      | _ => none
    | _ => []
  | _ => []
theorem kF_ints (ns : List Int) : (ns.map V.int).filterMap (fun v => match v with
      | .int i => some i
      | _ => none) = ns := by
  induction ns with
  | nil => rfl
  | cons n ns ih => simp [ih]
theorem lot_at {F : Hp} {v : V} {ns : List Int} (h : Dq F v (tupI ns)) : ∃ t, v = .ref t ∧ F t = some (.tup (ns.map V.int)) ∧ kF F v = ns := by
  cases h with
  | @tup a vs _ ha hx =>
    have e : intsD (ns.map PyData.int) = some ns := by
      clear ha hx
      induction ns with
      | nil => rfl
      | cons n ns ih =>
        show (intsD (ns.map PyData.int)).map (n :: ·) = _
        rw [ih]
        rfl
    have e2 := dqs_intsD hx e
    subst e2
    refine ⟨a, rfl, ha, ?_⟩
    unfold kF
    simp only [ha]
    exact kF_ints ns
theorem lots_at {F : Hp} : ∀ {vs : List V} {ds : List PyData} {nss : List (List Int)}, DqAll F vs ds → lotsD ds = some nss → ds = nss.map tupI ∧ vs.map (kF F) = nss ∧ ∀ v ∈ vs, ∃ t, v = .ref t ∧ F t = some (.tup ((kF F v).map V.int))
  | [], _, nss, h, e => by cases h; cases e; exact ⟨rfl, rfl, fun v hv => by cases hv⟩
  | v :: vs, _, nss, h, e => by
    cases h with
    | @cons _ _ d ds h1 h2 =>
      obtain ⟨ns, e1, e2⟩ := Option.bind_eq_some_iff.mp (show (lotD d).bind (fun ns => (lotsD ds).map (ns :: ·)) = some nss from e)
      obtain ⟨ms, e3, e4⟩ := Option.map_eq_some_iff.mp e2
      subst e4
      have hd := lotD_eq e1
      subst hd
      obtain ⟨t, a1, a2, a3⟩ := lot_at h1
      obtain ⟨b1, b2, b3⟩ := lots_at h2 e3
      subst b1
      refine ⟨rfl, by rw [List.map_cons, a3, b2], fun u hu => ?_⟩
      rcases List.mem_cons.mp hu with rfl | hu
      · exact ⟨t, a1, by rw [a3]; exact a2⟩
      · exact b3 u hu
theorem dqs_lots {F : Hp} : ∀ (vs : List V), (∀ v ∈ vs, ∃ t, v = .ref t ∧ F t = some (.tup ((kF F v).map V.int))) → DqAll F vs ((vs.map (kF F)).map tupI)
  | [], _ => .nil
  | v :: vs, h => by
    obtain ⟨t, e, ht⟩ := h v (by simp)
    refine .cons ?_ (dqs_lots vs fun u hu => h u (by simp [hu]))
    have : Dq F (.ref t) (.tuple ((kF F v).map .int)) := .tup ht (by
      generalize kF F v = l
      induction l with
      | nil => exact .nil
      | cons n l ih => exact .cons (.int n) ih)
    rw [e] at this ⊢
    exact this
/-- ascending, as Python holds tuples of numbers against each other -/
def lexSort (nss : List (List Int)) : List (List Int) := nss.mergeSort fun x y => !HT.lexLt y x
theorem lex_eq : ∀ x y : List Int, HT.lexLt x y = false → HT.lexLt y x = false → x = y
  | [], [], _, _ => rfl
  | [], b :: y, h, _ => by rw [HT.lexLt.eq_2] at h; cases h
  | a :: x, [], _, h => by rw [HT.lexLt.eq_2] at h; cases h
  | a :: x, b :: y, h1, h2 => by
    rw [HT.lexLt.eq_4] at h1 h2
    by_cases e : a = b
    · subst e
      rw [if_pos rfl] at h1 h2
      rw [lex_eq x y h1 h2]
    · rw [if_neg e] at h1
      rw [if_neg (Ne.symm e)] at h2
      have := of_decide_eq_false h1
      have := of_decide_eq_false h2
      omega
theorem lexSort_perm (nss : List (List Int)) : (lexSort nss).Perm nss := List.mergeSort_perm ..
theorem lexSort_srt (nss : List (List Int)) : (lexSort nss).Pairwise fun x y => HT.lexLt y x = false := by
  have h := List.pairwise_mergeSort (le := fun x y : List Int => !HT.lexLt y x) (fun a b c h1 h2 => by
    simp only [Bool.not_eq_true', Bool.not_eq_eq_eq_not, Bool.not_true] at h1 h2 ⊢
    exact lex_tr a b c h1 h2) (fun a b => by
    by_cases h : HT.lexLt b a = true
    · simp [lex_asym _ _ h]
    · simp [h]) nss
  exact h.imp fun h => by simpa using h
theorem srt_uniq : ∀ {l m : List (List Int)}, l.Perm m → l.Pairwise (fun x y => HT.lexLt y x = false) → m.Pairwise (fun x y => HT.lexLt y x = false) → l = m := fun {l m} p h1 h2 => p.eq_of_pairwise (fun a b _ _ x y => lex_eq a b y x) h1 h2
def sortLD : List PyData → Option Rv
  | [.list ds] => (lotsD ds).bind fun nss => if nss.any (·.isEmpty) then some (.ol ((lexSort nss).map tupI)) else none
  | _ => none
theorem call_sortLD {X : Cx} (hu : X.A.units + 2 < cLine) : CallD X (.builtin "sorted") sortLD := callR_wk (cr_lots hu) fun xs H Q h => by
  obtain ⟨F, ds, r, s, h1, hr, q⟩ := h
  cases h1 with
  | nil => cases hr
  | cons h1 h2 =>
    cases h2 with
    | cons _ _ => cases h1 <;> cases hr
    | nil =>
      cases h1 with
      | @lst a vs xs ha hx =>
        obtain ⟨nss, e1, e2⟩ := Option.bind_eq_some_iff.mp (show (lotsD xs).bind (fun nss => if nss.any (·.isEmpty) then some (Rv.ol ((lexSort nss).map tupI)) else none) = some r from hr)
        by_cases c : (nss.any (·.isEmpty)) = true
        · rw [if_pos c] at e2
          cases e2
          obtain ⟨b1, b2, b3⟩ := lots_at hx e1
          refine ⟨a, vs, kF F, rfl, .of (s _ _ ha), fun v hv => ?_, ?_, fun ys p hp hs np => ?_⟩
          · obtain ⟨t, e, ht⟩ := b3 v hv
            exact ⟨t, e, .of (s _ _ ht)⟩
          · obtain ⟨n, hn, hz⟩ := List.any_eq_true.mp c
            rw [← b2] at hn
            obtain ⟨v, hv, rfl⟩ := List.mem_map.mp hn
            exact ⟨v, hv, List.isEmpty_iff.mp hz⟩
          · have e : ys.map (kF F) = lexSort nss := srt_uniq (((hp.map (kF F)).trans (by rw [b2])).trans (lexSort_perm nss).symm) (List.pairwise_map.mpr hs) (lexSort_srt nss)
            have dy := dqs_lots (F := F) ys fun v hv => b3 v (hp.mem_iff.mp hv)
            rw [e] at dy
            exact q _ _ _ (Grow.own s np) ⟨p, ys, rfl, np, upd_same, s.free np, dy⟩
        · rw [if_neg c] at e2
          cases e2
      | _ => cases hr
end Gx

/-! ST4: sorted of numbers, over data. -/
namespace Gx
open PySem PySem.Spec L2
def intSort (ns : List Int) : List Int := ns.mergeSort fun x y => decide (x ≤ y)
theorem intSort_perm (ns : List Int) : (intSort ns).Perm ns := List.mergeSort_perm ..
theorem intSort_srt (ns : List Int) : (intSort ns).Pairwise (· ≤ ·) := by
  have h := List.pairwise_mergeSort (le := fun x y : Int => decide (x ≤ y)) (fun a b c h1 h2 => by
    have := of_decide_eq_true h1
    have := of_decide_eq_true h2
    exact decide_eq_true (by omega)) (fun a b => by
    by_cases h : a ≤ b
    · simp [h]
    · have : b ≤ a := by omega
      simp [this]) ns
  exact h.imp fun h => of_decide_eq_true h
def sortID : List PyData → Option Rv
  | [.list ds] => (intsD ds).bind fun ns => if ns.length < 64 then some (.ol ((intSort ns).map .int)) else none
  | _ => none
theorem call_sortID {X : Cx} : CallD X (.builtin "sorted") sortID := callR_wk cr_sorted fun xs H Q h => by
  obtain ⟨F, ds, r, s, h1, hr, q⟩ := h
  cases h1 with
  | nil => cases hr
  | cons h1 h2 =>
    cases h2 with
    | cons _ _ => cases h1 <;> cases hr
    | nil =>
      cases h1 with
      | @lst a vs xs ha hx =>
        obtain ⟨ns, e1, e2⟩ := Option.bind_eq_some_iff.mp (show (intsD xs).bind (fun ns => if ns.length < 64 then some (Rv.ol ((intSort ns).map .int)) else none) = some r from hr)
        by_cases c : ns.length < 64
        · rw [if_pos c] at e2
          cases e2
          have e := dqs_intsD hx e1
          subst e
          refine ⟨a, ns, rfl, .of (s _ _ ha), c, fun ms p hp hs np => ?_⟩
          have e : ms = intSort ns := List.Perm.eq_of_pairwise (le := (· ≤ ·)) (fun a b _ _ x y => by omega) hs (intSort_srt ns) (hp.trans (intSort_perm ns).symm)
          subst e
          exact q _ _ _ (Grow.own s np) ⟨p, _, rfl, np, upd_same, s.free np, dqs_ints _⟩
        · rw [if_neg c] at e2
          cases e2
      | _ => cases hr
end Gx

/-! G12: x, y = a, b with lists of one's own among them. -/
namespace Gx
open PySem PySem.Spec L2
open PyProof.Rows hiding St

def rvA : Ar → Option Rv
  | .fz d => some (.fz d)
  | .tp xs => some (.ol xs)
  | _ => none
def parA (i j : Nat) : List Ar → Dn Fl
  | [a, b] => fun ρ => match rvA a, rvA b with
    | some r, some t => if isBl ρ[i]? || isBl (ρ.set i r.en)[j]? then .st else .ok (.nx, (ρ.set i r.en).set j t.en)
    | _, _ => .st
  | _ => fun _ => .st
def sParA (i j : Nat) (f : Dn (List Ar)) : Dn Fl := bnd f (parA i j)
theorem rok_ar {K : PySem.W.Frag} {ρ ρ1 : Ev} {σ : St} {H F1 H1 : Hp} {as : List Ar} {vs : List V} {k : Nat} {a : Ar} {v : V} {r : Rv} (A : AOk K ρ σ H ρ1 F1 H1 as vs) (ha : as[k]? = some a) (hv : vs[k]? = some v) (hr : rvA a = some r) : ROk ρ σ H ρ1 σ F1 H1 r v := by
  cases a with
  | fz d =>
    cases hr
    obtain ⟨u, e, q⟩ := A.fz k d ha
    rw [hv] at e
    cases e
    exact q
  | tp xs =>
    cases hr
    obtain ⟨p, ws, e, q⟩ := A.tp k xs ha
    rw [hv] at e
    cases e
    exact ⟨p, ws, rfl, q⟩
  | _ => cases hr
theorem rok_put {ρ ρ1 : Ev} {σ : St} {H F1 H1 : Hp} {i : Nat} {r t : Rv} {v w : V} (rr : ROk ρ σ H ρ1 σ F1 H1 r v) (rt : ROk ρ σ H ρ1 σ F1 H1 t w) (ap : ∀ (xs ys : List PyData) (p : Addr), r = .ol xs → t = .ol ys → v = .ref p → w = .ref p → False) (hl : i < σ.length) (hl2 : i < ρ1.length) : ROk ρ σ H (ρ1.set i r.en) (σ.set i (some v)) F1 H1 t w := by
  cases t with
  | fz d => exact rt
  | ol ys =>
    obtain ⟨p, ws, e, h1, h2, h3, h4, h5⟩ := rt
    refine ⟨p, ws, e, h1, h2, h3, h4, fun z => ?_⟩
    obtain ⟨j, hj, ej⟩ := own_ex z
    by_cases c : j = i
    · subst c
      rw [List.getElem?_set_self hl] at ej
      have ev : v = .ref p := by
        have := Option.some.inj ej
        exact Option.some.inj this
      cases r with
      | fz d =>
        rcases hj with ⟨xs, hj⟩ | ⟨xs, hj⟩ <;> (rw [List.getElem?_set_self hl2] at hj; cases hj)
      | ol xs => exact ap xs ys p rfl rfl ev e
    · rw [List.getElem?_set_ne (Ne.symm c)] at ej
      refine h5 (own_at ?_ ej)
      rcases hj with ⟨xs, hj⟩ | ⟨xs, hj⟩
      · rw [List.getElem?_set_ne (Ne.symm c)] at hj; exact .inl ⟨xs, hj⟩
      · rw [List.getElem?_set_ne (Ne.symm c)] at hj; exact .inr ⟨xs, hj⟩
section
variable {X : Cx} {E : XK} {pos : Pos}
theorem gs_parA (i j : Nat) {x y : Str} {a b : Expr} {f : Dn (List Ar)} {px py pt pt2 : Pos} {kt k2 : Nat} (hc : X.calm = true) (nd : X.N.Nodup) (hi : X.N[i]? = some x) (hj : X.N[j]? = some y) (ij : i ≠ j) (hx : List.lookup x X.env.scope.names = some .local) (hy : List.lookup y X.env.scope.names = some .local)
    (ha : PA X [a, b] (tAr X.K X.mg E f)) (hs : swappedStores [.Tuple [.Name x px, .Name y py] kt pt] (.Tuple [a, b] k2 pt2) X.env = pure (some [x, y])) (hw : swapsWithSole [.Tuple [.Name x px, .Name y py] kt pt] (.Tuple [a, b] k2 pt2) pos.line X.env = pure false := by rfl) :
    PS X (.Assign [.Tuple [.Name x px, .Name y py] kt pt] (.Tuple [a, b] k2 pt2) pos) (tS X.K X.mg E (sParA i j f)) :=
  ps_wk (ps_par hc nd hi hj ij hx hy ha hs hw) fun D σ H ⟨ρ, F, R, q⟩ => ⟨ρ, F, R, (out_bnd (K := X.K) (F := F) q).mono fun as ρ1 k vs F1 H1 S1 A => by
    have q2 := k _ _ _ S1
    have hlen := A.ln
    match as, hlen, q2, A with
    | [], _, q2, _ => exact (show False from q2).elim
    | [_], _, q2, _ => exact (show False from q2).elim
    | _ :: _ :: _ :: _, _, q2, _ => exact (show False from q2).elim
    | [a1, b1], hlen, q2, A =>
      match vs, hlen, A with
      | [v, w], _, A =>
        cases hr : rvA a1 with
        | none => unfold parA at q2; simp only [hr] at q2; exact (show False from q2).elim
        | some r =>
        cases ht : rvA b1 with
        | none => unfold parA at q2; simp only [hr, ht] at q2; exact (show False from q2).elim
        | some t =>
        unfold parA at q2
        simp only [hr, ht] at q2
        by_cases hp : (isBl ρ1[i]? || isBl (ρ1.set i r.en)[j]?) = true
        · rw [if_pos hp] at q2
          exact (show False from q2).elim
        · rw [if_neg hp] at q2
          simp only [Bool.or_eq_true, not_or, Bool.not_eq_true] at hp
          have rr := rok_ar A (k := 0) rfl rfl hr
          have rt := rok_ar A (k := 1) rfl rfl ht
          have hl := (isBl_f hp.1).2
          have hlσ : i < σ.length := by rw [← S1.rel.ln]; exact hl
          obtain ⟨_, S2⟩ := put_stp (P := fun _ _ => True) (E := E) (mg := X.mg) S1 rr (by unfold put; rw [hp.1]; trivial)
          have rt2 := rok_put rr rt (fun xs ys p e1 e2 e3 e4 => by
            subst e3
            subst e4
            have z1 : [a1, b1][0]? = some (.tp xs) := by
              cases a1 <;> simp [rvA] at hr <;> subst e1 <;> simp_all
            have z2 : [a1, b1][1]? = some (.tp ys) := by
              cases b1 <;> simp [rvA] at ht <;> subst e2 <;> simp_all
            exact absurd (A.ap 0 1 xs ys p z1 z2 rfl rfl) (by decide)) hlσ hl
          obtain ⟨_, S3⟩ := put_stp (P := fun _ _ => True) (E := E) (mg := X.mg) S2 rt2 (by unfold put; rw [hp.2]; trivial)
          exact ⟨v, w, rfl, q2 _ F1 H1 S3⟩⟩
theorem callD_or {f : Value} {g1 g2 : List PyData → Option Rv} (h1 : CallD X f g1) (h2 : CallD X f g2) : CallD X f fun ds => (g1 ds).or (g2 ds) := callR_wk (h1.or h2) fun xs H Q ⟨F, ds, r, s, d, hr, q⟩ => by
  cases e : g1 ds with
  | some r' =>
    simp only [e, Option.or] at hr
    cases hr
    exact .inl ⟨F, ds, _, s, d, e, q⟩
  | none =>
    simp only [e, Option.or] at hr
    exact .inr ⟨F, ds, r, s, d, hr, q⟩
def sortD (ds : List PyData) : Option Rv := (sortID ds).or (sortLD ds)
theorem call_sortD (hu : X.A.units + 65 < cLine) : CallD X (.builtin "sorted") sortD := callD_or call_sortID (call_sortLD (by omega))
end
end Gx

/-! G13: calls by names alone. -/
namespace Gx
open PySem PySem.Spec L2
open PyProof.Rows hiding St

theorem pk_wk {X : Cx} {kws : List Keyword} {t t' : TA} (h : PK X kws t) (w : ∀ σ H Q, t' σ H Q → t σ H Q) : PK X kws t' := ⟨fun pos pins s σ H Q I q => h.run pos pins s σ H Q I (w σ H Q q)⟩
section
variable {X : Cx} {E : XK} {pos p : Pos}
theorem gk_nil : PK X [] (tDs X.K X.mg E dNil) := pk_wk pk_nil fun σ H Q ⟨ρ, F, R, q⟩ => out_ret q [] F H (Stp.refl R) .nil
theorem gk_cons {e : Expr} {kpos : Pos} {nm : Option Str} {kws : List Keyword} {f : Dn PyData} {g : Dn (List PyData)} (h1 : PE X e (tD X.K X.mg E f)) (h2 : PK X kws (tDs X.K X.mg E g)) : PK X (⟨nm, e, kpos⟩ :: kws) (tDs X.K X.mg E (dCons f g)) :=
  pk_wk (pk_cons h1 h2) fun σ H Q ⟨ρ, F, R, q⟩ => ⟨ρ, F, R, (out_bnd (K := X.K) (F := F) q).mono fun x ρ1 k v F1 H1 S1 d1 =>
    ⟨ρ1, F1, S1.rel, (out_bnd (K := X.K) (F := F1) (k _ _ _ S1)).mono fun ds ρ2 k2 vs F2 H2 S2 d2 => out_ret (k2 _ _ _ S2) _ F2 H2 (S1.trans S2) (.cons (dp_mono S2.ff x v d1) d2)⟩⟩
/-- in another order -/
def prm {α : Type} (is : List Nat) (l : List α) : List α := is.filterMap fun i => l[i]?
theorem prm_dqs {F : Hp} {vs : List V} {ds : List PyData} (h : DqAll F vs ds) : ∀ is : List Nat, DqAll F (prm is vs) (prm is ds)
  | [] => .nil
  | i :: is => by
    have ih := prm_dqs h is
    unfold prm at ih ⊢
    cases e : ds[i]? with
    | none =>
      have e2 : vs[i]? = none := by
        rw [List.getElem?_eq_none_iff] at e ⊢
        rw [dps_len h]; exact e
      rw [List.filterMap_cons_none e2, List.filterMap_cons_none e]
      exact ih
    | some d =>
      obtain ⟨v, e2, dq⟩ := dps_get h e
      rw [List.filterMap_cons_some e2, List.filterMap_cons_some e]
      exact .cons dq ih
theorem prm_vals : ∀ {vs : List V} {us : List Value} (is : List Nat), Vals vs us → Vals (prm is vs) (prm is us)
  | vs, us, [], h => .nil
  | vs, us, i :: is, h => by
    have ih := prm_vals is h
    unfold prm at ih ⊢
    have key : ∀ {vs : List V} {us : List Value} (i : Nat), Vals vs us → (vs[i]? = none ∧ us[i]? = none) ∨ ∃ v u, vs[i]? = some v ∧ us[i]? = some u ∧ RelV v u := by
      intro vs us i h
      induction h generalizing i with
      | nil => exact .inl ⟨by simp, by simp⟩
      | @cons a b l1 l2 h1 h2 ih =>
        cases i with
        | zero => exact .inr ⟨a, b, rfl, rfl, h1⟩
        | succ i => simpa using ih i
    rcases key i h with ⟨e1, e2⟩ | ⟨v, u, e1, e2, r⟩
    · rw [List.filterMap_cons_none e1, List.filterMap_cons_none e2]
      exact ih
    · rw [List.filterMap_cons_some e1, List.filterMap_cons_some e2]
      exact .cons r ih
def dArP (is : List Nat) (f : Dn (List PyData)) : Dn (List Ar) := bnd f fun ds => ret ((prm is ds).map Ar.fz)
theorem aok_fz {K : PySem.W.Frag} {ρ ρ1 : Ev} {σ : St} {H F1 H1 : Hp} {vs : List V} {ds : List PyData} (h : DqAll F1 vs ds) : AOk K ρ σ H ρ1 F1 H1 (ds.map Ar.fz) vs := by
  have no : ∀ (k : Nat) (a : Ar), (ds.map Ar.fz)[k]? = some a → ∃ d, a = .fz d ∧ ds[k]? = some d := fun k a e => by
    rw [List.getElem?_map] at e
    obtain ⟨d, e1, e2⟩ := Option.map_eq_some_iff.mp e
    exact ⟨d, e2.symm, e1⟩
  refine ⟨by rw [List.length_map]; exact dps_len h, fun k d e => ?_, fun k i e => ?_, fun k xs e => ?_, fun k ns e => ?_, fun k l xs ys p e => ?_⟩
  · obtain ⟨d', e1, e2⟩ := no k _ e
    cases e1
    exact dps_get h e2
  · obtain ⟨d', e1, _⟩ := no k _ e; cases e1
  · obtain ⟨d', e1, _⟩ := no k _ e; cases e1
  · obtain ⟨d', e1, _⟩ := no k _ e; cases e1
  · obtain ⟨d', e1, _⟩ := no k _ e; cases e1
theorem ar_of_ds {K : PySem.W.Frag} {mg : Str → Option Value} {is : List Nat} {f : Dn (List PyData)} {σ : St} {H : Hp} {Q : List V → Hp → Prop} {n : Nat} (hn : ∀ ρ ds ρ', f ρ = .ok (ds, ρ') → ds.length = n) (h : tAr K mg E (dArP is f) σ H Q) : tDs K mg E f σ H fun vs H1 => vs.length = n ∧ Q (prm is vs) H1 := by
  obtain ⟨ρ, F, R, q⟩ := h
  refine ⟨ρ, F, R, ?_⟩
  have q' := out_bnd (K := K) (F := F) q
  cases ef : f ρ with
  | st => rw [ef] at q'; exact q'
  | ex e => rw [ef] at q'; exact q'
  | ok t =>
    obtain ⟨ds, ρ1⟩ := t
    rw [ef] at q'
    have k : ∀ σ1 F1 H1, Stp K ρ σ F H ρ1 σ1 F1 H1 → Out mg E ρ1 σ1 H1 (ret ((prm is ds).map Ar.fz) ρ1) _ := q'
    intro vs F1 H1 S1 d1
    exact ⟨by rw [dps_len d1]; exact hn _ _ _ ef, out_ret (k _ _ _ S1) (prm is vs) F1 H1 S1 (aok_fz (prm_dqs d1 is))⟩
theorem g_callKW {x : Str} {kws : List Keyword} {j k n : Nat} {den : Den} {f : Dn (List PyData)} {ks : List Str} {st : Stmt} {ps : List Str} (is : List Nat) (D : DefAt X.K X.mg x st ps) (c : ∀ f fd, Fun X.K x x st f fd → FnOk X.prog X.w X.K X.mg X.base (L2.CX X.prog X.w) j f fd ps (spD X.K X.mg n den)) (hr : Room k X.A) (hj : j ≤ k) (hg : Gl X x) (hx : Passes (L2.CX X.prog X.w) X E)
    (hb : ∀ (kV doc pm : Value) (an : Option Addr) (cdv ct : Value) (s : Shared) (ws : List Value), ws.length = ks.length → BindsTo s (PySem.W.fnOf x x (defArgs st) (defBody st) (defScope st) Value.none kV doc pm an cdv ct) ⟨[], ks.zip ws⟩ (ps.zip (prm is ws)))
    (ha : PK X kws (tDs X.K X.mg E f)) (hn : ∀ ρ ds ρ', f ρ = .ok (ds, ρ') → ds.length = ks.length) (hp : is.length = n) (hi : ∀ i ∈ is, i < ks.length)
    (hdb : (x == ("__debug__" : Str)) = false := by decide) (h1 : ((backToKw pos (keywordEach kws X.env)).all fun x => x.fst.isSome) = true := by rfl) (h2 : List.filterMap (fun x => x.fst) (backToKw pos (keywordEach kws X.env)) = ks := by rfl)
    (h3 : (((backTo pos (starEach [] X.env)).any fun x => x.fst) || (backToKw pos (keywordEach kws X.env)).any fun x => x.fst.isNone) = false := by rfl) :
    PE X (.Call (.Name x p) [] kws pos) (tE X.K X.mg E (dFn den (dArP is f))) := by
  obtain ⟨fa, fd, Fn, hm, _⟩ := D.ex
  have F1 := c fa fd Fn
  have hb' : ∀ (s : Shared) (ws : List Value), ws.length = ks.length → BindsTo s fd ⟨[], ks.zip ws⟩ (ps.zip (prm is ws)) := by
    obtain ⟨oc, od, kV, doc, pm, an, cdv, ct, osl, e, _, _⟩ := Fn.ex
    subst e
    exact hb kV doc pm an cdv ct
  have plen : ∀ {α : Type} (l : List α), l.length = ks.length → ∀ is' : List Nat, (∀ i ∈ is', i < ks.length) → (prm is' l).length = is'.length := by
    intro α l hl is'
    induction is' with
    | nil => intro _; rfl
    | cons i is' ih =>
      intro h
      unfold prm at ih ⊢
      have hi' : i < l.length := by rw [hl]; exact h i (by simp)
      rw [List.filterMap_cons_some (List.getElem?_eq_getElem hi'), List.length_cons, ih fun y hy => h y (by simp [hy])]
      rfl
  refine ⟨fun pins s σ H Q I h => ?_⟩
  refine wpAny_Call_Name_kw (ld_glob I hg hm ?_ hdb)
  have reading2 := ar_of_ds (n := ks.length) hn (spD_call (K := X.K) (mg := X.mg) (E := E) (n := n) (den := den) (f := dArP is f) (sp := spD X.K X.mg n den) (fun _ _ _ _ z => z) (fun ρ as ρ' e => by
    unfold dArP bnd at e
    cases ef : f ρ with
    | st => rw [ef] at e; cases e
    | ex y => rw [ef] at e; cases e
    | ok t =>
      rw [ef] at e
      cases e
      rw [List.length_map, plen _ (hn _ _ _ ef) is hi, hp]) σ H Q h)
  refine PySem.W.callWith_KW0 (h₀ := X.base) I.ok.mod.kin Fn.kp h1 (thn (ha.run pos pins s σ H _ I reading2) fun us s1 hh => ?_) h3
  obtain ⟨vs, H1, I1, r1, hl, q1⟩ := hh
  refine ⟨I1.kIn, ?_⟩
  rw [h2]
  have hlu : us.length = ks.length := by rw [← r1.length]; exact hl
  refine wpAny_call (codeAny_mono (F1.run X.A X.stack s1 H1 _ (prm is us) (prm is vs) Q E (hr.mono hj) I1.env0 (hb' s1 us hlu) (prm_vals is r1) q1) fun r s' hq' => ?_)
  match r, hq' with
  | .error er, hq' => exact hx pins σ _ _ er s' I1 hq'
  | .ok (.ret u), hq' => exact I1.after (show CE X.stack X.prog X.w _ _ _ u s' from hq')
def DsLen (f : Dn (List PyData)) (n : Nat) : Prop := ∀ ρ ds ρ', f ρ = .ok (ds, ρ') → ds.length = n
theorem dsl_nil : DsLen dNil 0 := fun ρ ds ρ' h => by cases h; rfl
theorem dsl_cons {f : Dn PyData} {g : Dn (List PyData)} {n : Nat} (h : DsLen g n) : DsLen (dCons f g) (n + 1) := fun ρ ds ρ' e => by
  unfold dCons bnd at e
  cases ef : f ρ with
  | st => rw [ef] at e; cases e
  | ex x => rw [ef] at e; cases e
  | ok r =>
    rw [ef] at e
    simp only at e
    cases eg : g r.2 with
    | st => rw [eg] at e; cases e
    | ex x => rw [eg] at e; cases e
    | ok t =>
      rw [eg] at e
      cases e
      simp [h r.2 t.1 t.2 eg]
end
end Gx

/-! ST5: tuples of numbers, any of them, can be sorted. -/
namespace Gx
open PySem PySem.Spec L2
open PyProof.Rows (IsTup IntsAre keyKind' keyLt' SortKind)
section
variable {prog : Program} {w : World} {A : Around} {E : Value → Shared → Prop} {s : Shared} {Q : Bool → Shared → Prop}
theorem kat_lots {b fin : Bool} {xs : List Value} {ns : List Int} (hx : IntsAre xs ns) : ∀ {ys : List Value} {ms : List Int} (i : Nat), IntsAre ys ms → fin = decide (ns.length < ms.length) → Q (HT.lexLt ns ms) s → PySem.W.KatLex prog w A b fin Q (xs.zip ys) i s := by
  induction hx with
  | nil =>
    intro ys ms i hy hf h
    refine PySem.W.kat_nil ?_
    cases hy with
    | nil => rw [HT.lexLt.eq_1] at h; subst hf; exact h
    | cons q u hy => rw [HT.lexLt.eq_2] at h; subst hf; exact h
  | @cons p t xs ns hx ih =>
    intro ys ms i hy hf h
    cases hy with
    | nil =>
      refine PySem.W.kat_nil ?_
      rw [HT.lexLt.eq_3] at h
      subst hf
      exact h
    | @cons q u ys ms hy =>
      rw [HT.lexLt.eq_4] at h
      refine PySem.W.kat_cons (wpAny_eqBool_int ?_)
      by_cases e : p = q
      · subst e
        rw [if_pos rfl] at h
        rw [beq_self_eq_true]
        refine PySem.W.kat_yes (ih (i + 1) hy ?_ h)
        rw [hf]
        exact decide_eq_decide.mpr (by simp)
      · rw [if_neg e] at h
        rw [show (p == q) = false from beq_eq_false_iff_ne.mpr e]
        exact PySem.W.kat_no (TS.oneLt_ints _ h)
theorem fst_lots {h : Heap} {k : Value → List Int} : ∀ vs : List Value, (∀ v ∈ vs, TI h v (k v) ∧ k v ≠ []) → ∃ fs, PySem.W.KatTups h vs fs ∧ fs.length = vs.length ∧ ∀ f ∈ fs, ∃ n t, f = Value.int n t
  | [], _ => ⟨[], .nil, rfl, fun f hf => by cases hf⟩
  | v :: vs, x => by
    obtain ⟨fs, h1, h2, h3⟩ := fst_lots vs fun u hu => x u (by simp [hu])
    obtain ⟨⟨a, items, e, ⟨o, ho, hc, n, hd⟩, hi⟩, hn⟩ := x v (by simp)
    generalize k v = ns at hi hn
    subst e
    cases items with
    | mk l =>
      cases hi with
      | nil => exact absurd rfl hn
      | @cons m t l ms hi =>
        refine ⟨.int m t :: fs, .cons ho hc hd rfl h1, by simp [h2], fun f hf => ?_⟩
        rcases List.mem_cons.mp hf with rfl | hf
        · exact ⟨m, t, rfl⟩
        · exact h3 f hf
theorem lots_sortable {a : Addr} {vs : List Value} {k : Value → List Int} (hu : A.units < cLine) (h2 : 2 ≤ vs.length) (hk : ∀ v ∈ vs, TI s.heap v (k v)) (ha : ∀ o, s.heap.get? a = some o → o.cls ≠ Value.type "tuple") : SrtO.SortableO prog w A s a vs fun v u => HT.lexLt (k v) (k u) := by
  by_cases h0 : ∃ v ∈ vs, k v = []
  · exact tups_sortable hu hk h0 ha
  · intro h' kp
    have hk' : ∀ v ∈ vs, TI h' v (k v) := fun v hv => ti_keep (hk v hv) ha kp
    obtain ⟨fs, f1, f2, f3⟩ := fst_lots (k := k) vs fun v hv => ⟨hk' v hv, fun z => h0 ⟨v, hv, z⟩⟩
    refine ⟨PyProof.Rows.tuples' true, fun Q E q => ?_, fun p q hp hq => ?_⟩
    · refine PySem.W.kat_kind (T := Value.type "int") f1 (by omega) (fun f hf => ?_) rfl ?_
      · obtain ⟨n, t, rfl⟩ := f3 f hf
        exact PySem.W.Looks.now
      · have e : (Value.type "int" != Value.type "tuple") = true := by decide
        rw [e]
        exact q
    · have t1 := hk' _ hp
      have t2 := hk' _ hq
      show wpAny _ _ (keyLt' (PyProof.Rows.tuples' true) p.fst q.fst) (fun r s' => s' = _ ∧ r = HT.lexLt (k p.fst) (k q.fst)) _ _
      generalize k p.fst = ns at t1 ⊢
      generalize k q.fst = ms at t2 ⊢
      obtain ⟨b, i1, e1, ⟨o1, ho1, hc1, n1, hd1⟩, g1⟩ := t1
      obtain ⟨c, i2, e2, ⟨o2, ho2, hc2, n2, hd2⟩, g2⟩ := t2
      rw [e1, e2]
      refine PySem.W.kat_lt ho1 hd1 ho2 hd2 (kat_lots g1 0 g2 ?_ ⟨rfl, rfl⟩)
      have l1 := g1.length
      have l2 := g2.length
      rw [Array.length_toList] at l1 l2
      rw [l1, l2]
end
end Gx

/-! SE1: set of a list of numbers, of a tuple of tuples. -/
namespace Gx
open PySem PySem.Spec L2
open PyProof.Rows (IntsAre)
open PyProof.Rows hiding St
/-- a new set -/
abbrev EO (w : World) : Obj := { cls := .type "set", dict := none, data := .set #[] 0 (.fresh 0 0 (!w.params.followText "set-order")) }
section
variable {P : Program} {w : World} {A : Around} {E : Value → Shared → Prop} {s : Shared}

set_option maxHeartbeats 3200000 in
theorem set_ints {l : Addr} {items : Array Value} (ns : List Int) {Q : Value → Shared → Prop} (hh : A.handled = none) (hl : s.heap.IsList l items) (hit : IntsAre items.toList ns) (e0 : items.size = ns.length) (hb : ns.length + 1 < scanBound)
    (q : ∀ (h4 : Heap) (t4 c : Nat), SetR w h4 s.heap.objs.size (fun j => decide (j ∈ ns)) c → c ≤ ns.length → (∀ b o, s.heap.get? b = some o → h4.get? b = some o) → Q (.ref s.heap.objs.size) { s with heap := h4, toks := t4 }) : wpAny (model P w) A (call (.type "set") [.ref l]) Q E s := by
  obtain ⟨c0, t0, mro0⟩ := F.called_set.mro
  have made0 := F.called_set.made
  have sub0 := F.called_set.sub
  apply wpAny_call
  apply codeAny_of_tree
  show wpAny _ _ (callAny (.type "set") _) _ _ _
  apply wpAny_pure
  refine ⟨Code.quiet_builtin _ (by decide +kernel), ?_⟩
  apply codeAny_builtin F.entry_type_call
  rw [Around.under_plain (weight_type_call_type "set" [.ref l] []) rfl]
  have nt0 := F.called_set.notType
  have cc0 := F.called_set.canCreate
  have tc0 := F.typeCall_set_1 (.ref l)
  repeat any_goals first | assumption | wp_step
  refine codeAny_mono (code_set_led1 (.ref l) (E := E) (Q₁ := fun o1 z => o1 = .ref s.heap.objs.size ∧ z = { s with heap := s.heap.push (EO w) }) ⟨rfl, rfl⟩) fun fin z hz => ?_
  match fin, hz with
  | .error _, hz => exact hz
  | .ok .next, hz => exact hz.elim
  | .ok .brk, hz => exact hz.elim
  | .ok .cont, hz => exact hz.elim
  | .ok (.ret o1), hz =>
    obtain ⟨rfl, rfl⟩ := hz
    have gS : (s.heap.push (EO w)).get? s.heap.objs.size = some (EO w) := Heap.get?_push_size _ rfl
    have tS : Shared.TypeIs { s with heap := s.heap.push (EO w) } (.ref s.heap.objs.size) "set" := ⟨_, gS, rfl⟩
    have il0 := F.called_set.init.lookup
    have ib0 := F.called_set.init.bind (.ref s.heap.objs.size)
    repeat any_goals first | assumption | wp_step
    refine codeAny_mono (codeAny_call_builtin (R := wants (fun r z => r = .none ∧ ∃ h4 t4 c, z = { s with heap := h4, toks := t4 } ∧ SetR w h4 s.heap.objs.size (fun j => decide (j ∈ ns)) c ∧ c ≤ ns.length ∧ (∀ b o, s.heap.get? b = some o → h4.get? b = some o)) E) F.called_set.init.plain F.entry_set_init (check_set_init_1 tS ?_)) fun fin2 z2 hz2 => ?_
    · obtain ⟨⟨oc, od, ox, os⟩, g0, rfl, nl, rfl⟩ := hl
      have g1 : (s.heap.push (EO w)).get? l = some ⟨.type "list", od, .seq items nl, os⟩ := Heap.get?_push_of_some _ g0
      have s1 := F.sub_list_set
      have s2 := F.sub_list_frozenset
      have s3 : (Value.type "list" == Value.type "dict") = false := by decide
      have l1 : (s.heap.push (EO w)).IsList l items := ⟨_, g1, rfl, nl, rfl⟩
      unfold Builtin.«set.__init__»
      unfold noKeywords
      unfold Builtin.Frozenset.updateFrom
      generalize ePI : pyIter = PI
      wp_walk
      subst ePI
      apply wpAny_pyIter_list l1
      apply wpAny_bind
      apply wpAny_runValue
      have lt0 : l < s.heap.objs.size := Heap.lt_size g0
      have h3 : A.in1.in1.in1.handled = none := by simp [hh]
      have z1 : (s.heap.push (EO w)).objs.size = s.heap.objs.size + 1 := Heap.size_push ..
      have nI : l ≠ (s.heap.push (EO w)).objs.size := by rw [z1]; exact Nat.ne_of_lt (Nat.lt_succ_of_lt lt0)
      have nS : s.heap.objs.size ∉ [(s.heap.push (EO w)).objs.size, l] := by
        rw [z1]
        simp only [List.mem_cons, List.not_mem_nil, or_false, not_or]
        exact ⟨Nat.ne_of_lt (Nat.lt_succ_self _), Nat.ne_of_gt lt0⟩
      have val : ∀ (i : Nat) (v : Value), items[i]? = some v → ∃ k t, ns[i]? = some k ∧ v = .int k t := fun i v hv => by
        have hi : i < ns.length := by rw [← e0]; exact (Array.getElem?_eq_some_iff.mp hv).1
        obtain ⟨t, e⟩ := PyProof.Rows.IntsAre.int_at hit i v (by rw [Array.getElem?_toList]; exact hv)
        refine ⟨ns[i], t, List.getElem?_eq_getElem hi, ?_⟩
        simpa [List.getD_eq_getElem?_getD, List.getElem?_eq_getElem hi] using e
      refine set_update_ints ((Walks.list h3 _ l nI items).toS) s.heap.objs.size nS ns e0 hb val (items.size - 0) 0 _ (by omega) (Nat.zero_le _) ⟨⟨_, Heap.get?_push_size _ rfl, rfl, rfl⟩, l1.push _⟩
        ⟨0, Nat.le_refl 0, setR_new_at (Heap.get?_push_of_some _ gS)⟩ fun z3 c hm hc hR => ?_
      obtain ⟨h4, g4, d4, t4, o4⟩ := z3
      obtain rfl : g4 = s.gens := hm.gens
      obtain rfl : d4 = s.drawn := hm.drawn
      obtain rfl : o4 = s.os := hm.os
      show wpAny _ _ _ _ _ _
      apply wpAny_pure
      show wpAny _ _ (PySem.ret Value.none) _ _ _
      refine wpAny_pure ⟨rfl, h4, t4, c, rfl, hR, by omega, fun b o e => ?_⟩
      have b0 : b < s.heap.objs.size := Heap.lt_size e
      refine hm.heap b o ?_ (Heap.get?_push_of_some _ (Heap.get?_push_of_some _ e))
      rw [z1]
      simp only [List.mem_cons, List.not_mem_nil, or_false, not_or]
      exact ⟨Nat.ne_of_lt b0, Nat.ne_of_lt (Nat.lt_succ_of_lt b0)⟩
    · match fin2, hz2 with
      | .error _, hz2 => exact hz2
      | .ok .next, hz2 => exact hz2.elim
      | .ok .brk, hz2 => exact hz2.elim
      | .ok .cont, hz2 => exact hz2.elim
      | .ok (.ret r), hz2 =>
        obtain ⟨rfl, h4, t4, c, rfl, hR, hc, k4⟩ := hz2
        repeat any_goals first | assumption | wp_step
        exact q _ _ _ hR hc k4

set_option maxHeartbeats 3200000 in
theorem set_tups {l : Addr} {items : Array Value} (ks : List (Addr × List Int)) {Q : Value → Shared → Prop} (hh : A.handled = none) (hl : s.heap.IsTuple l items) (hit : items.toList = ks.map fun p => Value.ref p.1) (e0 : items.size = ks.length) (hk : ∀ p ∈ ks, IsT P w s.heap p.2 p.1) (hfew : ks.length < 64) (hu : A.units + 3 < cLine)
    (q : ∀ (h4 : Heap) (t4 : Nat) L es ep t, SetTR P w h4 s.heap.objs.size L es ep t → Got ks ks.length L → (∀ b o, s.heap.get? b = some o → h4.get? b = some o) → Q (.ref s.heap.objs.size) { s with heap := h4, toks := t4 }) : wpAny (model P w) A (call (.type "set") [.ref l]) Q E s := by
  obtain ⟨c0, t0, mro0⟩ := F.called_set.mro
  have made0 := F.called_set.made
  have sub0 := F.called_set.sub
  apply wpAny_call
  apply codeAny_of_tree
  show wpAny _ _ (callAny (.type "set") _) _ _ _
  apply wpAny_pure
  refine ⟨Code.quiet_builtin _ (by decide +kernel), ?_⟩
  apply codeAny_builtin F.entry_type_call
  rw [Around.under_plain (weight_type_call_type "set" [.ref l] []) rfl]
  have nt0 := F.called_set.notType
  have cc0 := F.called_set.canCreate
  have tc0 := F.typeCall_set_1 (.ref l)
  repeat any_goals first | assumption | wp_step
  refine codeAny_mono (code_set_led1 (.ref l) (E := E) (Q₁ := fun o1 z => o1 = .ref s.heap.objs.size ∧ z = { s with heap := s.heap.push (EO w) }) ⟨rfl, rfl⟩) fun fin z hz => ?_
  match fin, hz with
  | .error _, hz => exact hz
  | .ok .next, hz => exact hz.elim
  | .ok .brk, hz => exact hz.elim
  | .ok .cont, hz => exact hz.elim
  | .ok (.ret o1), hz =>
    obtain ⟨rfl, rfl⟩ := hz
    have gS : (s.heap.push (EO w)).get? s.heap.objs.size = some (EO w) := Heap.get?_push_size _ rfl
    have tS : Shared.TypeIs { s with heap := s.heap.push (EO w) } (.ref s.heap.objs.size) "set" := ⟨_, gS, rfl⟩
    have il0 := F.called_set.init.lookup
    have ib0 := F.called_set.init.bind (.ref s.heap.objs.size)
    repeat any_goals first | assumption | wp_step
    refine codeAny_mono (codeAny_call_builtin (R := wants (fun r z => r = .none ∧ ∃ h4 t4 L es ep t, z = { s with heap := h4, toks := t4 } ∧ SetTR P w h4 s.heap.objs.size L es ep t ∧ Got ks ks.length L ∧ (∀ b o, s.heap.get? b = some o → h4.get? b = some o)) E) F.called_set.init.plain F.entry_set_init (check_set_init_1 tS ?_)) fun fin2 z2 hz2 => ?_
    · obtain ⟨⟨oc, od, ox, os⟩, g0, rfl, nl, rfl⟩ := hl
      have g1 : (s.heap.push (EO w)).get? l = some ⟨.type "tuple", od, .seq items nl, os⟩ := Heap.get?_push_of_some _ g0
      have s1 := F.sub_tuple_set
      have s2 := F.sub_tuple_frozenset
      have s3 : (Value.type "tuple" == Value.type "dict") = false := by decide
      have l1 : (s.heap.push (EO w)).IsTuple l items := ⟨_, g1, rfl, nl, rfl⟩
      unfold Builtin.«set.__init__»
      unfold noKeywords
      unfold Builtin.Frozenset.updateFrom
      generalize ePI : pyIter = PI
      wp_walk
      subst ePI
      apply wpAny_pyIter_tuple l1
      apply wpAny_bind
      apply wpAny_runValue
      have lt0 : l < s.heap.objs.size := Heap.lt_size g0
      have h3 : A.in1.in1.in1.handled = none := by simp [hh]
      have z1 : (s.heap.push (EO w)).objs.size = s.heap.objs.size + 1 := Heap.size_push ..
      have nI : l ≠ (s.heap.push (EO w)).objs.size := by rw [z1]; exact Nat.ne_of_lt (Nat.lt_succ_of_lt lt0)
      have nS : s.heap.objs.size ∉ [(s.heap.push (EO w)).objs.size, l] := by
        rw [z1]
        simp only [List.mem_cons, List.not_mem_nil, or_false, not_or]
        exact ⟨Nat.ne_of_lt (Nat.lt_succ_self _), Nat.ne_of_gt lt0⟩
      have val : ∀ (i : Nat) (v : Value), items[i]? = some v → ∃ p, ks[i]? = some p ∧ v = .ref p.1 := fun i v hv => by
        have z : items.toList[i]? = some v := by rw [Array.getElem?_toList]; exact hv
        rw [hit, List.getElem?_map] at z
        obtain ⟨p, hp, e⟩ := Option.map_eq_some_iff.mp z
        exact ⟨p, hp, e.symm⟩
      have off : ∀ b, s.heap.objs.size ≤ b → s.heap.get? b = none := fun b hb => by
        cases z : s.heap.get? b with
        | none => rfl
        | some o => exact absurd (Nat.lt_of_lt_of_le (Heap.lt_size z) hb) (Nat.lt_irrefl _)
      refine set_update_tups ((Walks.tuple h3 _ l nI items).toS) s.heap.objs.size nS ks e0 hfew val s.heap hk (off _ (Nat.le_refl _)) (fun b hb => off b (by rw [List.mem_singleton.mp hb, z1]; exact Nat.le_succ _)) hu (items.size - 0) 0 _ (by omega) (Nat.zero_le _)
        ⟨⟨_, Heap.get?_push_size _ rfl, rfl, rfl⟩, l1.push _⟩ (fun b o e => Heap.get?_push_of_some _ (Heap.get?_push_of_some _ e)) ⟨[], #[], 0, _, setTR_fresh (Heap.get?_push_of_some _ gS), Got.zero ks⟩ fun z3 L es ep t hm hR g5 k5 => ?_
      obtain ⟨h4, g4, d4, t4, o4⟩ := z3
      obtain rfl : g4 = s.gens := hm.gens
      obtain rfl : d4 = s.drawn := hm.drawn
      obtain rfl : o4 = s.os := hm.os
      show wpAny _ _ _ _ _ _
      apply wpAny_pure
      show wpAny _ _ (PySem.ret Value.none) _ _ _
      rw [e0] at g5
      exact wpAny_pure ⟨rfl, h4, t4, L, es, ep, t, rfl, hR, g5, k5⟩
    · match fin2, hz2 with
      | .error _, hz2 => exact hz2
      | .ok .next, hz2 => exact hz2.elim
      | .ok .brk, hz2 => exact hz2.elim
      | .ok .cont, hz2 => exact hz2.elim
      | .ok (.ret r), hz2 =>
        obtain ⟨rfl, h4, t4, L, es, ep, t, rfl, hR, g5, k4⟩ := hz2
        repeat any_goals first | assumption | wp_step
        exact q _ _ _ _ _ _ hR g5 k4
end
end Gx

/-! SE2: sorted of a set of tuples of numbers. -/
namespace Gx
open PySem PySem.Spec L2
open PyProof.Rows hiding St
theorem perm_map_ex {α β : Type} {f : α → β} {m n : List β} (h : m.Perm n) : ∀ {l : List α}, n = l.map f → ∃ l' : List α, l'.Perm l ∧ m = l'.map f := by
  induction h with
  | nil =>
    intro l e
    exact ⟨l, .refl _, e⟩
  | cons x _ ih =>
    intro l e
    cases l with
    | nil => cases e
    | cons a l =>
      rw [List.map_cons] at e
      injection e with e1 e2
      obtain ⟨l', p, q⟩ := ih e2
      exact ⟨a :: l', p.cons a, by rw [List.map_cons, e1, q]⟩
  | swap x y k =>
    intro l e
    match l, e with
    | a :: b :: l, e =>
      simp only [List.map_cons, List.cons.injEq] at e
      obtain ⟨e1, e2, e3⟩ := e
      exact ⟨b :: a :: l, List.Perm.swap .., by simp [e1, e2, e3]⟩
  | trans _ _ ih1 ih2 =>
    intro l e
    obtain ⟨l2, p2, q2⟩ := ih2 e
    obtain ⟨l1, p1, q1⟩ := ih1 q2
    exact ⟨l1, p1.trans p2, q1⟩
section
variable {P : Program} {w : World} {A : Around} {E : Value → Shared → Prop} {s : Shared}
theorem sorted_setL {a : Addr} {L : List (Addr × List Int)} {es : Array (Int × Value)} {ep : Nat} {t : SetTable} {Q : Value → Shared → Prop} (R : SetTR P w s.heap a L es ep t) (hh : A.handled = none) (hu : A.units + 2 < cLine)
    (q : ∀ z p (out : Array Value) (c : Nat) (M : List (Addr × List Int)), (∀ b o, s.heap.get? b = some o → z.heap.get? b = some o) → z.gens = s.gens → z.os = s.os → s.heap.objs.size ≤ p →
      z.heap.get? p = some (seqObj "list" out c) → out.toList = M.map (fun r => Value.ref r.1) → M.Perm L → M.Pairwise (fun x y => HT.lexLt y.2 x.2 = false) → Q (.ref p) z) :
    wpAny (model P w) A (call (.builtin "sorted") [.ref a]) Q E s := by
  obtain ⟨o, ho, hex, hd⟩ := R.ob
  have few := R.few
  have sz := R.size
  apply Calls.call_function_entry kind_sorted plain_sorted entry_sorted (args_sorted1 _)
  unfold Builtin.«sorted»
  refine wpAny_bind (m := checkCount "sorted" 1 1 _) ?_
  apply wpAny_pure
  refine wpAny_bind (collect_set (A := A.in1) hh ⟨o, ho, hex.1, hd⟩ R.fits (by unfold scanBound; omega) R.tab.ris R.led fun z vs kp up g1 o1 pm => ?_)
  rw [R.rows, show (rowsOf P w L).map (·.2) = L.map fun r => Value.ref r.1 by unfold rowsOf; rw [List.map_map]; rfl] at pm
  have lv : vs.length < 64 := by rw [pm.length_eq, List.length_map]; exact few
  have lz : vs.length ≤ sizeLine := by rw [sizeLine_eq]; omega
  refine wpAny_bind (wpAny_newList ?_ lz)
  have gL : (z.heap.push (seqObj "list" vs.toArray 0)).get? z.heap.objs.size = some (seqObj "list" vs.toArray 0) := Heap.get?_push_size _ rfl
  have tk : ∀ r ∈ L, TS.TupInts (z.heap.push (seqObj "list" vs.toArray 0)) (.ref r.1) r.2 := fun r hr => tupInts_of (P := P) (w := w) (isT_keep (R.tup r hr) fun b u e => Heap.get?_push_of_some _ (kp b u e))
  have ti : ∀ v ∈ vs, TI (z.heap.push (seqObj "list" vs.toArray 0)) v (TS.intsOf (z.heap.push (seqObj "list" vs.toArray 0)) v) := fun v hv => by
    obtain ⟨r, hr, e⟩ := List.mem_map.mp (pm.mem_iff.mp hv)
    subst e
    rw [(tk r hr).ints]
    obtain ⟨b, its, e, h1, h2⟩ := tk r hr
    exact ⟨b, its, e, h1, h2⟩
  refine wpAny_bind (wpAny_holding (wpAny_call_entry slot_list_sort ⟨_, gL, rfl⟩ entry_list_sort (SrtO.list_sort_ord (lex_swo _) gL lz (fun h2 => lots_sortable (s := { z with heap := z.heap.push (seqObj "list" vs.toArray 0) }) (by show A.units + 1 + 1 < cLine; omega) h2 ti fun o ho => ?_) fun out hs hb => ⟨_, rfl, ?_⟩) (args_list_sort _)))
  · have : o = seqObj "list" vs.toArray 0 := Option.some.inj (ho.symm.trans gL)
    subst this
    intro y
    have y' : Value.type "list" = Value.type "tuple" := y
    exact absurd y' (by decide)
  · obtain ⟨M, p1, p2⟩ := perm_map_ex (f := fun r : Addr × List Int => Value.ref r.1) (hb.perm.trans pm) rfl
    obtain ⟨c, gc⟩ := sortedHeap_at (vs := vs) (out := out.toArray) gL
    refine wpAny_pure ⟨_, rfl, q _ z.heap.objs.size out.toArray c M (fun b u e => ?_) g1 o1 up gc p2 p1 ?_⟩
    · have e1 := kp b u e
      have lt := Heap.lt_size e1
      show (sortedHeap (z.heap.push (seqObj "list" vs.toArray 0)) z.heap.objs.size vs out.toArray).get? b = some u
      rw [sortedHeap_old (Nat.ne_of_lt lt) (by rw [size_push']; exact Nat.lt_succ_of_lt lt)]
      exact Heap.get?_push_of_some _ e1
    · have hs2 := hs
      rw [p2] at hs2
      refine List.Pairwise.imp_of_mem (fun {x y} hx hy h => ?_) (List.pairwise_map.mp hs2)
      have ex := (tk x (p1.mem_iff.mp hx)).ints
      have ey := (tk y (p1.mem_iff.mp hy)).ints
      rw [← ex, ← ey]
      exact h
end
section
variable {X : Cx}
theorem setR_count {w : World} {h : Heap} {a : Addr} {S : Int → Bool} {n : Nat} (R : SetR w h a S n) : ∃ l : List Int, l.Nodup ∧ (∀ k, k ∈ l ↔ S k = true) ∧ l.length = n := by
  obtain ⟨o, es, ep, t, _, _, _, _, nd, hm, _, _, hn, _⟩ := R
  exact ⟨es.toList.map keyOf, nd, fun k => (hm k).symm, by rw [List.length_map, Array.length_toList, hn]⟩
/-- a set of a list of numbers -/
def rSetIL (K : PySem.W.Frag) (w : World) : List V → Hp → VK → Prop := fun xs H Q => ∃ (l : Addr) (ns : List Int), xs = [V.ref l] ∧ SqL K H l (ns.map V.int) ∧ ns.length + 1 < scanBound ∧ ∀ a c, H a = none → (∃ l : List Int, l.Nodup ∧ (∀ k, k ∈ l ↔ k ∈ ns) ∧ l.length = c) → Q (.ref a) (upd H a (SetO w a (fun j => decide (j ∈ ns)) c))
theorem cr_setIL (hc : X.calm = true) : CallR X (.type "set") (rSetIL X.K X.w) := by
  intro pins s σ H xs us Q I r h
  obtain ⟨l, ns, rfl, hl, hb, q⟩ := h
  rw [Vals.ref1 r]
  obtain ⟨its, rv, pl, hz⟩ := I.list hl
  have hi := ints_of_vals rv
  have hn : H s.heap.objs.size = none := I.hok.fresh (Nat.le_refl _)
  refine set_ints (P := X.prog) (w := X.w) ns (I.ok.hd hc) pl.isList (by simpa using hi) (by rw [List.size_toArray]; exact IntsAre.length hi) hb fun h4 t4 c R hc2 k => ?_
  exact ⟨.ref s.heap.objs.size, _, I.laid (t' := t4) k (Nat.le_refl _) (setO_new R), rfl, q _ c hn (by
    obtain ⟨l, l1, l2, l3⟩ := setR_count R
    exact ⟨l, l1, fun k => (l2 k).trans (by simp), l3⟩)⟩
/-- a set of a tuple of numbers -/
def rSetIT (K : PySem.W.Frag) (w : World) : List V → Hp → VK → Prop := fun xs H Q => ∃ (l : Addr) (ns : List Int), xs = [V.ref l] ∧ SqT K H l (ns.map V.int) ∧ ns.length + 1 < scanBound ∧ ∀ a c, H a = none → (∃ l : List Int, l.Nodup ∧ (∀ k, k ∈ l ↔ k ∈ ns) ∧ l.length = c) → Q (.ref a) (upd H a (SetO w a (fun j => decide (j ∈ ns)) c))
theorem cr_setIT (hc : X.calm = true) : CallR X (.type "set") (rSetIT X.K X.w) := by
  intro pins s σ H xs us Q I r h
  obtain ⟨l, ns, rfl, hl, hb, q⟩ := h
  rw [Vals.ref1 r]
  obtain ⟨its, rv, pl, hz⟩ := I.tuple hl
  have hi := ints_of_vals rv
  have hn : H s.heap.objs.size = none := I.hok.fresh (Nat.le_refl _)
  refine call_set_tupI (P := X.prog) (w := X.w) ns (I.ok.hd hc) pl (by simpa using hi) hb fun h4 t4 c R hc2 k => ?_
  exact ⟨.ref s.heap.objs.size, _, I.laid (t' := t4) k (Nat.le_refl _) (setO_new R), rfl, q _ c hn (by
    obtain ⟨l, l1, l2, l3⟩ := setR_count R
    exact ⟨l, l1, fun k => (l2 k).trans (by simp), l3⟩)⟩
/-- a set of a tuple of tuples of numbers -/
def rSetTT (K : PySem.W.Frag) (P : Program) (w : World) : List V → Hp → VK → Prop := fun xs H Q => ∃ (l : Addr) (ks : List (Addr × List Int)), xs = [V.ref l] ∧ SqT K H l (ks.map fun p => V.ref p.1) ∧ (∀ p ∈ ks, SqT K H p.1 (p.2.map V.int)) ∧ ks.length < 64 ∧
  ∀ a L, H a = none → (∀ p ∈ L, p ∈ ks) → (∀ p ∈ ks, p.2 ∈ L.map (·.2)) → Q (.ref a) (upd H a (SetTO P w a L))
theorem cr_setTT (hc : X.calm = true) (hu : X.A.units + 64 < cLine) : CallR X (.type "set") (rSetTT X.K X.prog X.w) := by
  intro pins s σ H xs us Q I r h
  obtain ⟨l, ks, rfl, hl, hk, hf, q⟩ := h
  rw [Vals.ref1 r]
  obtain ⟨its, rv, pl, hz⟩ := I.tuple hl
  have hn : H s.heap.objs.size = none := I.hok.fresh (Nat.le_refl _)
  have e := refs_of_vals rv
  refine set_tups (P := X.prog) (w := X.w) ks (I.ok.hd hc) pl (by simpa using e) (by rw [List.size_toArray, e, List.length_map]) (fun p hp => I.isT (hk p hp)) hf (by omega) fun h4 t4 L es ep t R g k => ?_
  exact ⟨.ref s.heap.objs.size, upd H s.heap.objs.size (SetTO X.prog X.w s.heap.objs.size L), I.laid (t' := t4) k (Nat.le_refl _) (setTO_new R.t0), rfl, q _ L hn (fun p hp => List.mem_of_mem_take (g.sub p hp)) fun p hp => g.all p (by rw [List.take_length]; exact hp)⟩
/-- sorted, of a set of tuples of numbers -/
def rSortTT (K : PySem.W.Frag) (P : Program) (w : World) : List V → Hp → VK → Prop := fun vs H Q => ∃ (a : Addr) (L : List (Addr × List Int)), vs = [V.ref a] ∧ H a = some (SetTO P w a L) ∧ (∀ p ∈ L, SqT K H p.1 (p.2.map V.int)) ∧
  ∀ (M : List (Addr × List Int)) (p : Addr), M.Perm L → (M.map (·.2)).Nodup → M.Pairwise (fun x y => HT.lexLt y.2 x.2 = false) → H p = none → Q (.ref p) (upd H p (.lst (M.map fun r => V.ref r.1)))
theorem cr_sortTT (hc : X.calm = true) (hu : X.A.units + 2 < cLine) : CallR X (.builtin "sorted") (rSortTT X.K X.prog X.w) := by
  intro pins s σ H vs us Q I r h
  obtain ⟨a, L, rfl, ha, hk, q⟩ := h
  have R0 : SetT0 X.prog X.w s.heap a L := (I.hok a _ ha).1
  obtain ⟨es, ep, t, R⟩ := R0.full fun p hp => I.isT (hk p hp)
  rw [Vals.ref1 r]
  refine sorted_setL R (I.ok.hd hc) hu fun z p out c M k g o hp hg e pm pw => ?_
  have few : M.length < 64 := by rw [pm.length_eq]; exact R.few
  have ln : (M.map fun r => V.ref r.1).length ≤ sizeLine := by rw [List.length_map, sizeLine_eq]; omega
  have hn : H p = none := I.hok.fresh hp
  have hv : Vals (M.map fun r => V.ref r.1) out.toList := by rw [e]; exact vals_of_refs M
  have J : Inv X pins σ (upd H p (.lst (M.map fun r => V.ref r.1))) { s with heap := z.heap, gens := z.gens, drawn := z.drawn, toks := z.toks } :=
    I.call (ch := []) (Un.laid k hp hn) (I.hok.laid k hp ⟨ln, out.toList, c, hv, hg⟩) (by rw [g]; exact I.bare) (fun _ y => nomatch y)
  have ez : z = { s with heap := z.heap, gens := z.gens, drawn := z.drawn, toks := z.toks } := by
    cases z
    cases s
    cases o
    rfl
  rw [ez]
  exact ⟨.ref p, _, J, rfl, q M p pm ((pm.map (·.2)).nodup_iff.mpr R.nd) pw hn⟩
end
end Gx

/-! SE3: sorted, and sorted of a set, over data. -/
namespace Gx
open PySem PySem.Spec L2
open PyProof.Rows hiding St

/-! ### by putting in -/
def insI (a : Int) : List Int → List Int
  | [] => [a]
  | b :: l => if a ≤ b then a :: b :: l else b :: insI a l
def srtI : List Int → List Int
  | [] => []
  | a :: l => insI a (srtI l)
def insL (a : List Int) : List (List Int) → List (List Int)
  | [] => [a]
  | b :: l => if HT.lexLt b a then b :: insL a l else a :: b :: l
def srtL : List (List Int) → List (List Int)
  | [] => []
  | a :: l => insL a (srtL l)
def addI (a : Int) : List Int → List Int
  | [] => [a]
  | b :: l => if a < b then a :: b :: l else if b < a then b :: addI a l else b :: l
def setI : List Int → List Int
  | [] => []
  | a :: l => addI a (setI l)
def addL (a : List Int) : List (List Int) → List (List Int)
  | [] => [a]
  | b :: l => if HT.lexLt a b then a :: b :: l else if HT.lexLt b a then b :: addL a l else b :: l
def setL : List (List Int) → List (List Int)
  | [] => []
  | a :: l => addL a (setL l)
theorem insI_perm (a : Int) : ∀ l, (insI a l).Perm (a :: l)
  | [] => .refl _
  | b :: l => by
    unfold insI
    split
    · exact .refl _
    · exact ((insI_perm a l).cons b).trans (List.Perm.swap ..)
theorem srtI_perm : ∀ l, (srtI l).Perm l
  | [] => .refl _
  | a :: l => (insI_perm a _).trans ((srtI_perm l).cons a)
theorem insI_srt {a : Int} : ∀ {l : List Int}, l.Pairwise (· ≤ ·) → (insI a l).Pairwise (· ≤ ·)
  | [], _ => List.pairwise_singleton _ _
  | b :: l, h => by
    obtain ⟨h1, h2⟩ := List.pairwise_cons.mp h
    unfold insI
    split
    · rename_i c
      refine List.pairwise_cons.mpr ⟨fun z hz => ?_, h⟩
      rcases List.mem_cons.mp hz with rfl | hz
      · exact c
      · have := h1 z hz; omega
    · rename_i c
      refine List.pairwise_cons.mpr ⟨fun z hz => ?_, insI_srt h2⟩
      rcases List.mem_cons.mp ((insI_perm a l).mem_iff.mp hz) with rfl | hz
      · omega
      · exact h1 z hz
theorem srtI_srt : ∀ l, (srtI l).Pairwise (· ≤ ·)
  | [] => .nil
  | a :: l => insI_srt (srtI_srt l)
theorem srtI_eq {l m : List Int} (h : m.Pairwise (· ≤ ·)) (p : m.Perm l) : m = srtI l := List.Perm.eq_of_pairwise (le := (· ≤ ·)) (fun a b _ _ x y => by omega) h (srtI_srt l) (p.trans (srtI_perm l).symm)
abbrev Le (x y : List Int) : Prop := HT.lexLt y x = false
theorem insL_perm (a : List Int) : ∀ l, (insL a l).Perm (a :: l)
  | [] => .refl _
  | b :: l => by
    unfold insL
    split
    · exact ((insL_perm a l).cons b).trans (List.Perm.swap ..)
    · exact .refl _
theorem srtL_perm : ∀ l, (srtL l).Perm l
  | [] => .refl _
  | a :: l => (insL_perm a _).trans ((srtL_perm l).cons a)
theorem insL_srt {a : List Int} : ∀ {l : List (List Int)}, l.Pairwise Le → (insL a l).Pairwise Le
  | [], _ => List.pairwise_singleton _ _
  | b :: l, h => by
    obtain ⟨h1, h2⟩ := List.pairwise_cons.mp h
    unfold insL
    split
    · rename_i c
      refine List.pairwise_cons.mpr ⟨fun z hz => ?_, insL_srt h2⟩
      rcases List.mem_cons.mp ((insL_perm a l).mem_iff.mp hz) with rfl | hz
      · exact lex_asym _ _ c
      · exact h1 z hz
    · rename_i c
      refine List.pairwise_cons.mpr ⟨fun z hz => ?_, h⟩
      have c' : HT.lexLt b a = false := by simpa using c
      rcases List.mem_cons.mp hz with rfl | hz
      · exact c'
      · exact lex_tr a b z c' (h1 z hz)
theorem srtL_srt : ∀ l, (srtL l).Pairwise Le
  | [] => .nil
  | a :: l => insL_srt (srtL_srt l)
theorem srtL_eq {l m : List (List Int)} (h : m.Pairwise Le) (p : m.Perm l) : m = srtL l := srt_uniq (p.trans (srtL_perm l).symm) h (srtL_srt l)
/-! sets -/
theorem addI_mem (a : Int) : ∀ (l : List Int) (z : Int), z ∈ addI a l ↔ z = a ∨ z ∈ l
  | [], z => by simp [addI]
  | b :: l, z => by
    unfold addI
    split
    · simp
    · split
      · simp [addI_mem a l z]; constructor <;> (rintro (h | h | h) <;> simp [h])
      · rename_i c1 c2
        have : a = b := by omega
        subst this
        simp
theorem setI_mem : ∀ (l : List Int) (z : Int), z ∈ setI l ↔ z ∈ l
  | [], z => Iff.rfl
  | a :: l, z => by
    show z ∈ addI a (setI l) ↔ _
    rw [addI_mem, setI_mem l z, List.mem_cons]
theorem addI_srt {a : Int} : ∀ {l : List Int}, l.Pairwise (· < ·) → (addI a l).Pairwise (· < ·)
  | [], _ => List.pairwise_singleton _ _
  | b :: l, h => by
    obtain ⟨h1, h2⟩ := List.pairwise_cons.mp h
    unfold addI
    split
    · rename_i c
      refine List.pairwise_cons.mpr ⟨fun z hz => ?_, h⟩
      rcases List.mem_cons.mp hz with rfl | hz
      · exact c
      · have := h1 z hz; omega
    · split
      · rename_i c
        refine List.pairwise_cons.mpr ⟨fun z hz => ?_, addI_srt h2⟩
        rcases (addI_mem a l z).mp hz with rfl | hz
        · exact c
        · exact h1 z hz
      · exact h
theorem setI_srt : ∀ l, (setI l).Pairwise (· < ·)
  | [] => .nil
  | a :: l => addI_srt (setI_srt l)
theorem asc_uniq {l m : List Int} (h1 : l.Pairwise (· < ·)) (h2 : m.Pairwise (· < ·)) (h : ∀ z, z ∈ l ↔ z ∈ m) : l = m := by
  have n1 : l.Nodup := h1.imp fun {a b} (q : a < b) => by omega
  have n2 : m.Nodup := h2.imp fun {a b} (q : a < b) => by omega
  exact List.Perm.eq_of_pairwise (le := (· < ·)) (fun a b _ _ x y => by omega) h1 h2 ((List.perm_ext_iff_of_nodup n1 n2).mpr h)
abbrev Lt2 (x y : List Int) : Prop := HT.lexLt x y = true
theorem addL_mem (a : List Int) : ∀ (l : List (List Int)) (z : List Int), z ∈ addL a l ↔ z = a ∨ z ∈ l
  | [], z => by simp [addL]
  | b :: l, z => by
    unfold addL
    split
    · simp
    · split
      · simp [addL_mem a l z]; constructor <;> (rintro (h | h | h) <;> simp [h])
      · rename_i c1 c2
        have : a = b := lex_eq a b (by simpa using c1) (by simpa using c2)
        subst this
        simp
theorem setL_mem : ∀ (l : List (List Int)) (z : List Int), z ∈ setL l ↔ z ∈ l
  | [], z => Iff.rfl
  | a :: l, z => by
    show z ∈ addL a (setL l) ↔ _
    rw [addL_mem, setL_mem l z, List.mem_cons]
theorem lex_irr (x : List Int) : HT.lexLt x x = false := by
  cases h : HT.lexLt x x
  · rfl
  · have q := lex_asym x x h
    rw [h] at q
    cases q
theorem lex_trT {x y z : List Int} (h1 : HT.lexLt x y = true) (h2 : HT.lexLt y z = true) : HT.lexLt x z = true := by
  cases h : HT.lexLt x z
  · have q := lex_tr x y z (lex_asym _ _ h1) (lex_asym _ _ h2)
    have e := lex_eq x z h q
    subst e
    have q2 := lex_asym _ _ h1
    rw [h2] at q2
    cases q2
  · rfl
theorem addL_srt {a : List Int} : ∀ {l : List (List Int)}, l.Pairwise Lt2 → (addL a l).Pairwise Lt2
  | [], _ => List.pairwise_singleton _ _
  | b :: l, h => by
    obtain ⟨h1, h2⟩ := List.pairwise_cons.mp h
    unfold addL
    split
    · rename_i c
      refine List.pairwise_cons.mpr ⟨fun z hz => ?_, h⟩
      rcases List.mem_cons.mp hz with rfl | hz
      · exact c
      · exact lex_trT c (h1 z hz)
    · split
      · rename_i c
        refine List.pairwise_cons.mpr ⟨fun z hz => ?_, addL_srt h2⟩
        rcases (addL_mem a l z).mp hz with rfl | hz
        · exact c
        · exact h1 z hz
      · exact h
theorem setL_srt : ∀ l, (setL l).Pairwise Lt2
  | [] => .nil
  | a :: l => addL_srt (setL_srt l)
theorem lt_nodup {l : List (List Int)} (h : l.Pairwise Lt2) : l.Nodup := h.imp fun {a b} (q : HT.lexLt a b = true) e => by
  subst e
  rw [lex_irr] at q
  cases q
theorem lt_le {l : List (List Int)} (h : l.Pairwise Lt2) : l.Pairwise Le := h.imp fun q => lex_asym _ _ q
theorem setL_eq {l m : List (List Int)} (h : m.Pairwise Le) (n : m.Nodup) (p : ∀ z, z ∈ m ↔ z ∈ l) : m = setL l :=
  srt_uniq ((List.perm_ext_iff_of_nodup n (lt_nodup (setL_srt l))).mpr fun z => (p z).trans (setL_mem l z).symm) h (lt_le (setL_srt l))
theorem add_len (a : Int) : ∀ l, (addI a l).length ≤ l.length + 1
  | [] => Nat.le_refl _
  | b :: l => by
    unfold addI
    split
    · simp
    · split
      · have := add_len a l; simp; omega
      · simp
/-! ### sorted -/
theorem sorted_lots2 {prog : Program} {w : World} {A : Around} {E : Value → Shared → Prop} {s : Shared} {l : Addr} {vs : List Value} {k : Value → List Int} {Q : Value → Shared → Prop} (hl : s.heap.IsList l vs.toArray) (hn : vs.length ≤ sizeLine) (hu : A.units + 2 < cLine) (hk : ∀ v ∈ vs, TI s.heap v (k v))
    (q : ∀ out : List Value, SrtO.Srtd (fun v u => HT.lexLt (k v) (k u)) out → out.Perm vs → Q (Value.ref (s.heap.objs.size + 1)) { heap := sortedAll s.heap vs out.toArray, gens := s.gens, drawn := s.drawn, toks := s.toks, os := s.os }) :
    wpAny (model prog w) A (call (Value.builtin "sorted") [Value.ref l]) Q E s := by
  refine SrtO.sorted_ord (lex_swo k) hl hn (fun h2 h₁ a ha kp => ?_) fun out h1 h2 => q out h1 h2.perm
  refine lots_sortable (s := ⟨h₁, s.gens, s.drawn, s.toks, s.os⟩) (by show A.units + 1 + 1 < cLine; omega) h2 (fun v hv => ?_) fun o ho => ?_
  · obtain ⟨b, items, e, ⟨o, ho, r⟩, hi⟩ := hk v hv
    exact ⟨b, items, e, ⟨o, (kp b o ho).2, r⟩, hi⟩
  · have : o = seqObj "list" vs.toArray 0 := Option.some.inj (ho.symm.trans ha)
    subst this
    intro z
    have z' : Value.type "list" = Value.type "tuple" := z
    exact absurd z' (by decide)
def rLots2 (K : PySem.W.Frag) : List V → Hp → VK → Prop := fun vs H Q => ∃ (a : Addr) (xs : List V) (k : V → List Int), vs = [.ref a] ∧ SqL K H a xs ∧ (∀ x ∈ xs, ∃ t, x = .ref t ∧ SqT K H t ((k x).map V.int)) ∧
  ∀ (ys : List V) (p : Addr), ys.Perm xs → ys.Pairwise (fun x y => HT.lexLt (k y) (k x) = false) → H p = none → Q (.ref p) (upd H p (.lst ys))
theorem cr_lots2 {X : Cx} (hu : X.A.units + 2 < cLine) : CallR X (.builtin "sorted") (rLots2 X.K) := by
  intro pins s σ H vs us Q I r h
  obtain ⟨a, xs, k, rfl, hs, hx, q⟩ := h
  obtain ⟨its, rv, hl, hz⟩ := I.list hs
  obtain ⟨u, rfl, ru⟩ := vals1 r
  obtain rfl := (show u = Value.ref a from ru)
  obtain ⟨e1, e2⟩ := refs_back rv fun x m => by
    obtain ⟨t, e, _⟩ := hx x m
    exact ⟨t, e⟩
  have e1 := e1.symm
  have ti : ∀ v ∈ its, TI s.heap v (k (backV v)) := fun v hv => by
    obtain ⟨t, rfl⟩ := e2 v hv
    have hm : V.ref t ∈ xs := by
      rw [← e1]
      exact List.mem_map.mpr ⟨_, hv, rfl⟩
    obtain ⟨t', e, ht⟩ := hx _ hm
    cases e
    obtain ⟨its2, r2, h2, _⟩ := I.tuple ht
    exact ⟨t, its2.toArray, rfl, h2, ints_of r2⟩
  refine sorted_lots2 (k := fun v => k (backV v)) hl.isList (by rw [← rv.length]; exact hz) hu ti fun out h1 h2 => ?_
  have h3 : ∀ u ∈ out, ∃ t, u = Value.ref t := fun u hu => e2 u (h2.mem_iff.mp hu)
  have hp : (out.map backV).Perm xs := by
    rw [← e1]
    exact h2.map _
  obtain ⟨n, hn⟩ := sortedAll_at s.heap its out.toArray
  have hd : s.heap.objs.size ≤ s.heap.objs.size + 1 := Nat.le_succ _
  refine ⟨.ref (s.heap.objs.size + 1), _, I.laid (t' := s.toks) (o := .lst (out.map backV)) (fun b o e => sortedAll_old e) hd ⟨by rw [hp.length_eq]; exact hz, out, n, vals_back h3, hn⟩, rfl, q (out.map backV) _ hp ?_ (I.hok.fresh hd)⟩
  exact List.pairwise_map.mpr h1
def sort2D : List PyData → Option Rv
  | [.list ds] => match intsD ds with
    | some ns => if ns.length < 64 then some (.ol ((srtI ns).map .int)) else none
    | none => (lotsD ds).map fun nss => .ol ((srtL nss).map tupI)
  | _ => none
theorem call_sort2D {X : Cx} (hu : X.A.units + 65 < cLine) : CallD X (.builtin "sorted") sort2D := callR_wk (cr_sorted.or (cr_lots2 (by omega))) fun xs H Q h => by
  obtain ⟨F, ds, r, s, h1, hr, q⟩ := h
  cases h1 with
  | nil => cases hr
  | cons h1 h2 =>
    cases h2 with
    | cons _ _ => cases h1 <;> cases hr
    | nil =>
      cases h1 with
      | @lst a vs xs ha hx =>
        unfold sort2D at hr
        cases e1 : intsD xs with
        | some ns =>
          simp only [e1] at hr
          by_cases c : ns.length < 64
          · rw [if_pos c] at hr
            cases hr
            have e := dqs_intsD hx e1
            subst e
            refine .inl ⟨a, ns, rfl, .of (s _ _ ha), c, fun ms p hp hs np => ?_⟩
            have e := srtI_eq hs hp
            subst e
            exact q _ _ _ (Grow.own s np) ⟨p, _, rfl, np, upd_same, s.free np, dqs_ints _⟩
          · rw [if_neg c] at hr
            cases hr
        | none =>
          simp only [e1] at hr
          obtain ⟨nss, e2, e3⟩ := Option.map_eq_some_iff.mp hr
          subst e3
          obtain ⟨b1, b2, b3⟩ := lots_at hx e2
          refine .inr ⟨a, vs, kF F, rfl, .of (s _ _ ha), fun v hv => ?_, fun ys p hp hs np => ?_⟩
          · obtain ⟨t, e, ht⟩ := b3 v hv
            exact ⟨t, e, .of (s _ _ ht)⟩
          · have e : ys.map (kF F) = srtL nss := srtL_eq (List.pairwise_map.mpr hs) ((hp.map (kF F)).trans (by rw [b2]))
            have dy := dqs_lots (F := F) ys fun v hv => b3 v (hp.mem_iff.mp hv)
            rw [e] at dy
            exact q _ _ _ (Grow.own s np) ⟨p, ys, rfl, np, upd_same, s.free np, dy⟩
      | _ => cases hr
end Gx

/-! SE4: sorted(set(x)), over data. -/
namespace Gx
open PySem PySem.Spec L2
open PyProof.Rows hiding St
def setSq : PyData → Option (List PyData)
  | .list ds => some ds
  | .tuple ds => some ds
  | _ => none
def setSortL (ds : List PyData) : Option Rv := match intsD ds with
  | some ns => if ns.length < 1000 ∧ (setI ns).length < 64 then some (.ol ((setI ns).map .int)) else none
  | none => match lotsD ds with
    | some nss => if nss.length < 64 then some (.ol ((setL nss).map tupI)) else none
    | none => none
def setSortD : List PyData → Option Rv
  | [d] => (setSq d).bind setSortL
  | _ => none
def adrOf : V → Addr
  | .ref t => t
  | _ => 0
def ksOf (F : Hp) (vs : List V) : List (Addr × List Int) := vs.map fun v => (adrOf v, kF F v)
theorem ks_refs {F : Hp} : ∀ {vs : List V}, (∀ v ∈ vs, ∃ t, v = .ref t ∧ F t = some (.tup ((kF F v).map V.int))) → vs = (ksOf F vs).map fun p => V.ref p.1
  | [], _ => rfl
  | v :: vs, h => by
    obtain ⟨t, e, ht⟩ := h v (by simp)
    have ih := ks_refs fun u hu => h u (List.mem_cons_of_mem _ hu)
    show v :: vs = V.ref (adrOf v) :: (ksOf F vs).map _
    rw [← ih, e]
    rfl
theorem ks_at {F : Hp} {vs : List V} (h : ∀ v ∈ vs, ∃ t, v = .ref t ∧ F t = some (.tup ((kF F v).map V.int))) : ∀ p ∈ ksOf F vs, F p.1 = some (.tup (p.2.map V.int)) := fun p hp => by
  obtain ⟨v, hv, rfl⟩ := List.mem_map.mp hp
  obtain ⟨t, e, ht⟩ := h v hv
  have : adrOf v = t := by rw [e]; rfl
  show F (adrOf v) = some (.tup ((kF F v).map V.int))
  rw [this]
  exact ht
theorem ks_snd (F : Hp) (vs : List V) : (ksOf F vs).map (·.2) = vs.map (kF F) := by
  unfold ksOf
  rw [List.map_map]
  rfl
theorem dqs_ks {F : Hp} : ∀ {M : List (Addr × List Int)}, (∀ p ∈ M, F p.1 = some (.tup (p.2.map V.int))) → DqAll F (M.map fun r => V.ref r.1) ((M.map (·.2)).map tupI)
  | [], _ => .nil
  | p :: M, h => .cons (.tup (h p (by simp)) (dqs_ints p.2)) (dqs_ks fun r hr => h r (List.mem_cons_of_mem _ hr))
section
variable {X : Cx} {E : XK} {pos pos2 : Pos}
/-- what is asked of the two calls together -/
theorem sortSet_run {K : PySem.W.Frag} {P : Program} {w : World} {F H : Hp} {vs : List V} {ds : List PyData} {r : Rv} {Q : VK} (s : Same F H) (d : DqAll F vs ds) (hr : setSortD ds = some r) (fin : ∀ v F' H', Grow F H F' H' → NOk H F' H' r v → Q v H') :
    (rSetIL K w vs H fun x H2 => rSortedSet w [x] H2 Q ∨ rSortTT K P w [x] H2 Q) ∨ (rSetIT K w vs H fun x H2 => rSortedSet w [x] H2 Q ∨ rSortTT K P w [x] H2 Q) ∨ (rSetOfT K P w vs H fun x H2 => rSortedSet w [x] H2 Q ∨ rSortTT K P w [x] H2 Q) ∨ (rSetTT K P w vs H fun x H2 => rSortedSet w [x] H2 Q ∨ rSortTT K P w [x] H2 Q) := by
  have hI : ∀ (ns : List Int) (xs : List PyData), intsD xs = some ns → setSortL xs = some r → ∀ (a c : Nat), H a = none → (∃ l : List Int, l.Nodup ∧ (∀ k, k ∈ l ↔ k ∈ ns) ∧ l.length = c) → rSortedSet w [V.ref a] (upd H a (SetO w a (fun j => decide (j ∈ ns)) c)) Q := by
    intro ns xs e1 e2 a c ha hc
    unfold setSortL at e2
    simp only [e1] at e2
    by_cases q : ns.length < 1000 ∧ (setI ns).length < 64
    · rw [if_pos q] at e2
      cases e2
      obtain ⟨l, l1, l2, l3⟩ := hc
      have n1 : (setI ns).Nodup := (setI_srt ns).imp fun {a b} (q : a < b) => by omega
      have e3 : l.length = (setI ns).length := ((List.perm_ext_iff_of_nodup l1 n1).mpr fun z => (l2 z).trans (setI_mem ns z).symm).length_eq
      refine ⟨a, _, _, rfl, upd_same, by omega, fun ms p hp hm hl np => ?_⟩
      have e4 : ms = setI ns := asc_uniq hp (setI_srt ns) fun z => (hm z).trans ((by simp : decide (z ∈ ns) = true ↔ z ∈ ns).trans (setI_mem ns z).symm)
      subst e4
      have g1 := Grow.own (o := SetO w a (fun j => decide (j ∈ ns)) c) s ha
      exact fin _ _ _ (g1.trans (Grow.own g1.sub np)) ⟨p, _, rfl, g1.hh.free np, upd_same, g1.sub.free np, dqs_ints _⟩
    · rw [if_neg q] at e2
      cases e2
  have hL : ∀ (us : List V) (xs : List PyData) (nss : List (List Int)), DqAll F us xs → intsD xs = none → lotsD xs = some nss → setSortL xs = some r → nss.length < 64 ∧ us = (ksOf F us).map (fun p => V.ref p.1) ∧ (∀ p ∈ ksOf F us, F p.1 = some (.tup (p.2.map V.int))) ∧ (ksOf F us).length = nss.length ∧
      ∀ (a : Nat) (L : List (Addr × List Int)), H a = none → (∀ p ∈ L, p ∈ ksOf F us) → (∀ p ∈ ksOf F us, p.2 ∈ L.map (·.2)) → rSortTT K P w [V.ref a] (upd H a (SetTO P w a L)) Q := by
    intro us xs nss hx e0 e1 e2
    unfold setSortL at e2
    simp only [e0, e1] at e2
    obtain ⟨b1, b2, b3⟩ := lots_at hx e1
    by_cases q : nss.length < 64
    · rw [if_pos q] at e2
      cases e2
      have ka := ks_at b3
      refine ⟨q, ks_refs b3, ka, by rw [← b2]; simp [ksOf], fun a L ha h1 h2 => ?_⟩
      have g1 := Grow.own (o := SetTO P w a L) s ha
      refine ⟨a, L, rfl, upd_same, fun p hp => .of (g1.sub _ _ (ka p (h1 p hp))), fun M p pm nd pw np => ?_⟩
      have e4 : M.map (·.2) = setL nss := setL_eq (List.pairwise_map.mpr pw) nd fun z => by
        rw [← b2, ← ks_snd]
        constructor
        · intro hz
          obtain ⟨y, hy, rfl⟩ := List.mem_map.mp hz
          exact List.mem_map.mpr ⟨y, h1 y (pm.mem_iff.mp hy), rfl⟩
        · intro hz
          obtain ⟨y, hy, rfl⟩ := List.mem_map.mp hz
          obtain ⟨x, hx, e⟩ := List.mem_map.mp (h2 y hy)
          exact List.mem_map.mpr ⟨x, pm.mem_iff.mpr hx, e⟩
      have dk := dqs_ks (F := F) (M := M) fun y hy => ka y (h1 y (pm.mem_iff.mp hy))
      rw [e4] at dk
      exact fin _ _ _ (g1.trans (Grow.own g1.sub np)) ⟨p, _, rfl, g1.hh.free np, upd_same, g1.sub.free np, dk⟩
    · rw [if_neg q] at e2
      cases e2
  have some_l : ∀ xs, setSortL xs = some r → (∃ ns, intsD xs = some ns ∧ ns.length < 1000) ∨ (intsD xs = none ∧ ∃ nss, lotsD xs = some nss) := by
    intro xs e
    unfold setSortL at e
    cases e1 : intsD xs with
    | some ns =>
      simp only [e1] at e
      by_cases q : ns.length < 1000 ∧ (setI ns).length < 64
      · exact .inl ⟨ns, rfl, q.1⟩
      · rw [if_neg q] at e
        cases e
    | none =>
      simp only [e1] at e
      cases e2 : lotsD xs with
      | some nss => exact .inr ⟨rfl, nss, rfl⟩
      | none =>
        simp only [e2] at e
        cases e
  cases d with
  | nil => cases hr
  | cons d1 d2 =>
    cases d2 with
    | cons _ _ => cases hr
    | nil =>
      cases d1 with
      | @lst a us xs ha hx =>
        have e : setSortL xs = some r := hr
        rcases some_l xs e with ⟨ns, e1, hn⟩ | ⟨e0, nss, e1⟩
        · have e2 := dqs_intsD hx e1
          subst e2
          exact .inl ⟨a, ns, rfl, .of (s _ _ ha), by unfold scanBound; omega, fun p c hp hc => .inl (hI ns xs e1 e p c hp hc)⟩
        · obtain ⟨b1, b2, b3, b4, b5⟩ := hL us xs nss hx e0 e1 e
          refine .inr (.inr (.inl ⟨a, ksOf F us, rfl, ?_, fun p hp => .of (s _ _ (b3 p hp)), by omega, fun p L hp h1 h2 => .inr (b5 p L hp h1 h2)⟩))
          rw [← b2]
          exact .of (s _ _ ha)
      | @tup a us xs ha hx =>
        have e : setSortL xs = some r := hr
        rcases some_l xs e with ⟨ns, e1, hn⟩ | ⟨e0, nss, e1⟩
        · have e2 := dqs_intsD hx e1
          subst e2
          exact .inr (.inl ⟨a, ns, rfl, .of (s _ _ ha), by unfold scanBound; omega, fun p c hp hc => .inl (hI ns xs e1 e p c hp hc)⟩)
        · obtain ⟨b1, b2, b3, b4, b5⟩ := hL us xs nss hx e0 e1 e
          refine .inr (.inr (.inr ⟨a, ksOf F us, rfl, ?_, fun p hp => .of (s _ _ (b3 p hp)), by omega, fun p L hp h1 h2 => .inr (b5 p L hp h1 h2)⟩))
          rw [← b2]
          exact .of (s _ _ ha)
      | _ => cases hr
theorem g_sortSet {x y : Str} {p p2 : Pos} {e : Expr} {es : List Expr} {f : Dn (List PyData)} (hc : X.calm = true) (hu : X.A.units + 65 < cLine) (hg : Gl X x) (hm : X.mg x = none) (hv : bootBuiltins x = some (.builtin "sorted")) (hg2 : Gl X y) (hm2 : X.mg y = none) (hv2 : bootBuiltins y = some (.type "set")) (ha : PA X (e :: es) (tDs X.K X.mg E f))
    (hn : x ≠ "__name__" := by decide) (hdb : (x == ("__debug__" : Str)) = false := by decide) (hn2 : y ≠ "__name__" := by decide) (hdb2 : (y == ("__debug__" : Str)) = false := by decide) (he : starEach (e :: es) X.env = (false, eval e X.env) :: starEach es X.env := by rfl) (hpl : (backTo pos2 (starEach es X.env)).any (·.1) = false := by rfl)
    (he2 : starEach [Expr.Call (.Name y p2) (e :: es) [] pos2] X.env = (false, eval (Expr.Call (.Name y p2) (e :: es) [] pos2) X.env) :: starEach [] X.env := by rfl) (hpl2 : (backTo pos (starEach [] X.env)).any (·.1) = false := by rfl) :
    PE X (.Call (.Name x p) [.Call (.Name y p2) (e :: es) [] pos2] [] pos) (tE X.K X.mg E (dCall setSortD f)) :=
  pe_wk (pe_callB ((cr_sortedSet hc).or (cr_sortTT hc (by omega))) hg hm hv (pa_cons (pe_callTy ((cr_setIL hc).or ((cr_setIT hc).or ((cr_setOfT hc (by omega)).or (cr_setTT hc (by omega))))) hg2 hm2 hv2 ha hn2 hdb2 he hpl) pa_nil he2) hn hdb he2 hpl2) fun σ H Q ⟨ρ, F, R, q⟩ => ⟨ρ, F, R, (out_bnd (K := X.K) (F := F) q).mono fun ds ρ1 k vs F1 H1 S1 d1 => by
    obtain ⟨r, hr, q2⟩ := out_lft (k _ _ _ S1)
    exact sortSet_run S1.rel.sub d1 hr fun v F2 H2 gr nk => q2 v F2 H2 (S1.trans (gr.stp S1.rel)) ((nk.rok S1.rel).before S1)⟩
end
end Gx

/-! G14: comprehensions with two for. -/
namespace Gx
open PySem PySem.Spec L2
open PyProof.Rows hiding St
theorem wipe_part {K : PySem.W.Frag} {ρ ρ1 : Ev} {σ σ1 : St} {F F1 H H1 : Hp} {vs vs1 : List Nat} (hv : ∀ i ∈ vs1, i ∈ vs) (S : Stp K (wipeE ρ vs) (wipe σ vs) F H ρ1 σ1 F1 H1) : Stp K (wipeE ρ vs) (wipe σ vs) F H (wipeE ρ1 vs1) (wipe σ1 vs1) F1 H1 := by
  have nv : ∀ (i : Nat) (xs : List PyData), (wipeE ρ vs)[i]? = some (.bl xs) → i ∉ vs1 := fun i xs h z => ((wipeE_get (by intro z; cases z)).mp h).1 (hv i z)
  refine ⟨wipe_rel S.rel, S.ff, S.fr, fun p h => S.oo p (wipe_ownL h), fun i xs h => ?_, fun i ys h => ?_, S.nw, by rw [wipeE_len]; exact S.ln, S.dm⟩
  · obtain ⟨⟨ys, h1⟩, h2⟩ := S.bk i xs h
    exact ⟨⟨ys, (wipeE_get (by intro z; cases z)).mpr ⟨nv i xs h, h1⟩⟩, by rw [σ_out (nv i xs h)]; exact h2⟩
  · exact S.kb i ys ((wipeE_get (by intro z; cases z)).mp h).2
def compL2 (h : PyData → Ev → Option Ev) (ft : Dn Bool) (fi1 : Dn (List PyData)) (h1 : PyData → Ev → Option Ev) (ft1 : Dn Bool) (fe : Dn PyData) (vs vs1 : List Nat) : List PyData → List PyData → Dn (List PyData)
  | [], acc, ρ => .ok (acc, ρ)
  | d :: ds, acc, ρ => match h d ρ with
    | none => .st
    | some ρ1 => match ft ρ1 with
      | .ok (true, ρ2) => match fi1 ρ2 with
        | .ok (es, ρ3) => match compL h1 ft1 fe vs1 es acc (wipeE ρ3 vs1) with
          | .ok (acc', ρ4) => compL2 h ft fi1 h1 ft1 fe vs vs1 ds acc' (wipeE ρ4 vs)
          | _ => .st
        | _ => .st
      | .ok (false, ρ2) => compL2 h ft fi1 h1 ft1 fe vs vs1 ds acc (wipeE ρ2 vs)
      | _ => .st
def dComp2 (fi : Dn (List PyData)) (h : PyData → Ev → Option Ev) (ft : Dn Bool) (fi1 : Dn (List PyData)) (h1 : PyData → Ev → Option Ev) (ft1 : Dn Bool) (fe : Dn PyData) (vs vs1 : List Nat) : Dn Rv := bnd fi fun ds => fun ρ => if vs.all (fun v => !isBl ρ[v]?) then match compL2 h ft fi1 h1 ft1 fe vs vs1 ds [] (wipeE ρ vs) with
  | .ok (ys, ρ2) => .ok (.ol ys, restE ρ ρ2 vs)
  | _ => .st
  else .st
theorem lc2_wk {K : PySem.W.Frag} {mg : Str → Option Value} {E : XK} {fi fi1 : Dn (List PyData)} {ts ts1 : List Nat} {h h1 : PyData → Ev → Option Ev} {ft ft1 : Dn Bool} {fe : Dn PyData} {vs vs1 : List Nat} (hts : ∀ i ∈ ts, i ∈ vs) (hts1 : ∀ i ∈ ts1, i ∈ vs1) (hv1 : ∀ i ∈ vs1, i ∈ vs) (σ : St) (H : Hp) (Q : VK) (q : tE K mg E (dComp2 fi h ft fi1 h1 ft1 fe vs vs1) σ H Q) :
    tLc2 (tI K mg E fi) (tGd K ts h) (tT K mg E0 ft) (tI K mg E0 fi1) (tGd K ts1 h1) (tT K mg E0 ft1) (tD K mg E0 fe) vs vs1 σ H Q := by
  obtain ⟨ρ, F, R, q⟩ := q
  refine ⟨ρ, F, R, (out_bnd (K := K) (F := F) q).mono fun ds ρ1 k J F1 H1 S1 I D hD => ?_⟩
  have k2 := k σ F1 H1 S1
  by_cases hall : vs.all (fun v => !isBl ρ1[v]?) = true
  case neg =>
    rw [if_neg hall] at k2
    exact (show False from k2).elim
  rw [if_pos hall] at k2
  have nb : ∀ v ∈ vs, ∀ xs, ρ1[v]? ≠ some (.bl xs) := fun v hv xs z => by
    have y := List.all_eq_true.mp hall v hv
    rw [z] at y
    cases y
  cases ec : compL2 h ft fi1 h1 ft1 fe vs vs1 ds [] (wipeE ρ1 vs) with
  | st => rw [ec] at k2; exact (show False from k2).elim
  | ex x => rw [ec] at k2; exact (show False from k2).elim
  | ok r =>
  obtain ⟨ys, ρf⟩ := r
  rw [ec] at k2
  have k3 : ∀ v F' H', Stp K ρ σ F H (restE ρ1 ρf vs) σ F' H' → ROk ρ σ H (restE ρ1 ρf vs) σ F' H' (.ol ys) v → Q v H' := k2
  -- a state within the block, and D in it
  let At : Ev → St → Hp → Hp → List V → List PyData → Prop := fun ρi σi Fi Hi vacc acc => Stp K (wipeE ρ1 vs) (wipe σ vs) F1 H1 ρi σi Fi Hi ∧ Hi D = some (.lst vacc) ∧ Fi D = none ∧ ¬ Own ρi σi D ∧ DqAll Fi vacc acc
  have step : ∀ {ρi ρj : Ev} {σi σj : St} {Fi Fj Hi Hj : Hp} {vacc : List V} {acc : List PyData}, At ρi σi Fi Hi vacc acc → Stp K ρi σi Fi Hi ρj σj Fj Hj → At ρj σj Fj Hj vacc acc := fun ⟨a1, a2, a3, a4, a5⟩ S =>
    have ⟨b1, b2, b3⟩ := keep_nob S a2 a3 a4
    ⟨a1.trans S, b1, b2, b3, dps_mono S.ff _ _ a5⟩
  have turn : ∀ {ρi : Ev} {σi : St} {Fi Hi : Hp} {vacc : List V} {acc : List PyData}, At ρi σi Fi Hi vacc acc → wipe σi vs = wipe σ vs → At (wipeE ρi vs) (wipe σ vs) Fi Hi vacc acc := fun ⟨a1, a2, a3, a4, a5⟩ e =>
    ⟨wipe_turn a1 e, a2, a3, fun z => a4 (wipe_own (by rw [e]; exact z)), a5⟩
  have part : ∀ {ρi : Ev} {σi : St} {Fi Hi : Hp} {vacc : List V} {acc : List PyData}, At ρi σi Fi Hi vacc acc → At (wipeE ρi vs1) (wipe σi vs1) Fi Hi vacc acc := fun ⟨a1, a2, a3, a4, a5⟩ =>
    ⟨wipe_part hv1 a1, a2, a3, fun z => a4 (wipe_own z), a5⟩
  have more : ∀ {ρi : Ev} {σi : St} {Fi Hi : Hp} {vacc : List V} {acc : List PyData} {v : V} {y : PyData}, At ρi σi Fi Hi vacc acc → Dq Fi v y → At ρi σi Fi (upd Hi D (.lst (vacc ++ [v]))) (vacc ++ [v]) (acc ++ [y]) := fun ⟨a1, a2, a3, a4, a5⟩ d =>
    ⟨upd_stp a1 hD a3 a4, upd_same, a3, a4, dps_app a5 (dps_one d)⟩
  refine ⟨fun i m Hi => m = ds.length - i ∧ i ≤ ds.length ∧ ∃ ρi Fi vacc acc, At ρi (wipe σ vs) Fi Hi vacc acc ∧ wipeE ρi vs = ρi ∧ compL2 h ft fi1 h1 ft1 fe vs vs1 (ds.drop i) acc ρi = .ok (ys, ρf),
    ⟨ds.length, by simp, Nat.zero_le _, wipeE ρ1 vs, F1, [], [], ⟨(Grow.own S1.rel.sub hD).stp (wipe_rel S1.rel), upd_same, S1.rel.sub.free hD, fun z => ?_, .nil⟩, wipeE_twice ρ1, by simpa using ec⟩, ?_⟩
  · obtain ⟨⟨ws, e⟩, _⟩ := S1.rel.own (wipe_own z)
    rw [hD] at e
    cases e
  rintro i m Hi ⟨rfl, hi, ρi, Fi, vacc, acc, A, hwi, o⟩
  by_cases hlt : i < ds.length
  case neg =>
    have e : i = ds.length := by omega
    subst e
    rw [List.drop_length] at o
    unfold compL2 at o
    cases o
    obtain ⟨Si, d1, d2, d3, d4⟩ := A
    refine .inl ⟨I.stop Hi (Si.ff.trans Si.rel.sub), ?_⟩
    have Su := unwipe S1.rel nb Si
    refine k3 _ Fi Hi (S1.trans Su) ⟨D, vacc, rfl, .inr (S1.dm D hD), d1, d2, d4, fun z => ?_⟩
    rcases z with z | z
    · obtain ⟨j, xs, z1, z2⟩ := z
      rw [restE_get (by rw [Si.ln, wipeE_len])] at z1
      by_cases hv : j ∈ vs
      · rw [if_pos hv] at z1
        obtain ⟨⟨ws, e⟩, _⟩ := S1.rel.own (.inl ⟨j, xs, z1, z2⟩)
        rw [hD] at e
        cases e
      · rw [if_neg hv] at z1
        exact d3 (.inl ⟨j, xs, z1, by rw [σ_out hv]; exact z2⟩)
    · obtain ⟨⟨ws, e⟩, _⟩ := S1.rel.own (.inr (Su.ob z))
      rw [hD] at e
      cases e
  refine .inr ⟨I.go i Hi hlt (A.1.ff.trans A.1.rel.sub), fun H' => i + 1 ≤ ds.length ∧ ∃ ρ' F' vacc acc, At ρ' (wipe σ vs) F' H' vacc acc ∧ wipeE ρ' vs = ρ' ∧ compL2 h ft fi1 h1 ft1 fe vs vs1 (ds.drop (i + 1)) acc ρ' = .ok (ys, ρf),
    fun H' ⟨hn, z⟩ => ⟨ds.length - (i + 1), by omega, rfl, hn, z⟩, fun x H' y => ?_⟩
  obtain ⟨d, F2, hd, gr, dq⟩ := I.yld i Hi x H' Fi hlt A.1.ff A.1.rel.sub y
  have Sg := gr.stp A.1.rel
  rw [drop_cons hd] at o
  unfold compL2 at o
  cases e1 : h d ρi with
  | none => rw [e1] at o; cases o
  | some ρ2 =>
  simp only [e1] at o
  refine ⟨d, ρi, F2, ρ2, Sg.rel, dq, e1, fun σ2 S2 kp => ?_⟩
  have hl2 : σ2.length = (wipe σ vs).length := by rw [← S2.rel.ln, S2.ln, Sg.rel.ln]
  have hw : wipe σ2 vs = wipe σ vs := by
    rw [wipe_eq (τ := wipe σ vs) hl2 fun j hj => kp j fun z => hj (hts j z)]
    exact wipe_eq (wipe_length σ vs) fun j hj => σ_out hj
  refine ⟨hw, ρ2, F2, S2.rel, ?_⟩
  have A2 := step (step A Sg) S2
  cases e2 : ft ρ2 with
  | st => simp only [e2] at o; cases o
  | ex x => simp only [e2] at o; cases o
  | ok r =>
  obtain ⟨b, ρ3⟩ := r
  show ∀ F' H'', Stp K ρ2 σ2 F2 H' ρ3 σ2 F' H'' → _
  intro F3 H3 S3
  have A3 := step A2 S3
  cases b with
  | false =>
    simp only [e2] at o
    exact iteF ⟨hlt, wipeE ρ3 vs, F3, vacc, acc, turn A3 hw, wipeE_twice ρ3, o⟩
  | true =>
  simp only [e2] at o
  refine iteT ⟨ρ3, F3, S3.rel, ?_⟩
  cases e3 : fi1 ρ3 with
  | st => simp only [e3] at o; cases o
  | ex x => simp only [e3] at o; cases o
  | ok r =>
  obtain ⟨es, ρ4⟩ := r
  simp only [e3] at o
  show ∀ J1 F' H'', Stp K ρ3 σ2 F3 H3 ρ4 σ2 F' H'' → IOk F' J1 es → _
  intro J1 F4 H4 S4 I1
  have A4 := part (step A3 S4)
  cases e4 : compL h1 ft1 fe vs1 es acc (wipeE ρ4 vs1) with
  | st => simp only [e4] at o; cases o
  | ex x => simp only [e4] at o; cases o
  | ok r =>
  obtain ⟨acc', ρg⟩ := r
  simp only [e4] at o
  refine ⟨fun j n Hj => n = es.length - j ∧ j ≤ es.length ∧ ∃ ρj Fj vacc acc, Same F4 Fj ∧ At ρj (wipe σ2 vs1) Fj Hj vacc acc ∧ wipeE ρj vs1 = ρj ∧ compL h1 ft1 fe vs1 (es.drop j) acc ρj = .ok (acc', ρg),
    ⟨es.length, by simp, Nat.zero_le _, wipeE ρ4 vs1, F4, vacc, acc, Same.refl F4, A4, wipeE_twice ρ4, by simpa using e4⟩, ?_⟩
  rintro j n Hj ⟨rfl, hj, ρj, Fj, vaccj, accj, ffj, Aj, hwj, oj⟩
  by_cases hltj : j < es.length
  case neg =>
    have e : j = es.length := by omega
    subst e
    rw [List.drop_length] at oj
    unfold compL at oj
    cases oj
    refine .inl ⟨I1.stop Hj (ffj.trans Aj.1.rel.sub), hlt, wipeE ρg vs, Fj, vaccj, acc', turn Aj ?_, wipeE_twice ρg, o⟩
    rw [← hw]
    exact wipe_eq (wipe_length σ2 vs1) fun t ht => σ_out fun z => ht (hv1 t z)
  refine .inr ⟨I1.go j Hj hltj (ffj.trans Aj.1.rel.sub), fun H' => j + 1 ≤ es.length ∧ ∃ ρ' F' vacc acc, Same F4 F' ∧ At ρ' (wipe σ2 vs1) F' H' vacc acc ∧ wipeE ρ' vs1 = ρ' ∧ compL h1 ft1 fe vs1 (es.drop (j + 1)) acc ρ' = .ok (acc', ρg),
    fun H' ⟨hn, z⟩ => ⟨es.length - (j + 1), by omega, rfl, hn, z⟩, fun x5 H5 y5 => ?_⟩
  obtain ⟨d5, F5, hd5, gr5, dq5⟩ := I1.yld j Hj x5 H5 Fj hltj ffj Aj.1.rel.sub y5
  have Sg5 := gr5.stp Aj.1.rel
  rw [drop_cons hd5] at oj
  unfold compL at oj
  cases f1 : h1 d5 ρj with
  | none => rw [f1] at oj; cases oj
  | some ρ6 =>
  simp only [f1] at oj
  refine ⟨d5, ρj, F5, ρ6, Sg5.rel, dq5, f1, fun σ3 S6 kp6 => ?_⟩
  have hl3 : σ3.length = (wipe σ2 vs1).length := by rw [← S6.rel.ln, S6.ln, Sg5.rel.ln]
  have hw3 : wipe σ3 vs1 = wipe σ2 vs1 := by
    rw [wipe_eq (τ := wipe σ2 vs1) hl3 fun t ht => kp6 t fun z => ht (hts1 t z)]
    exact wipe_eq (wipe_length σ2 vs1) fun t ht => σ_out ht
  refine ⟨hw3, ρ6, F5, S6.rel, ?_⟩
  have A6 := step (step Aj Sg5) S6
  have ff6 : Same F4 F5 := ffj.trans gr5.ff
  cases f2 : ft1 ρ6 with
  | st => simp only [f2] at oj; cases oj
  | ex x => simp only [f2] at oj; cases oj
  | ok r =>
  obtain ⟨b, ρ7⟩ := r
  show ∀ F' H'', Stp K ρ6 σ3 F5 H5 ρ7 σ3 F' H'' → _
  intro F7 H7 S7
  have A7 := step A6 S7
  have ff7 : Same F4 F7 := ff6.trans S7.ff
  cases b with
  | false =>
    simp only [f2] at oj
    refine iteF ⟨hltj, wipeE ρ7 vs1, F7, vaccj, accj, ff7, ?_, wipeE_twice ρ7, oj⟩
    rw [← hw3]
    exact part A7
  | true =>
  simp only [f2] at oj
  refine iteT ⟨ρ7, F7, S7.rel, ?_⟩
  cases f3 : fe ρ7 with
  | st => simp only [f3] at oj; cases oj
  | ex x => simp only [f3] at oj; cases oj
  | ok r =>
  obtain ⟨yd, ρ8⟩ := r
  simp only [f3] at oj
  show ∀ v F' H'', Stp K ρ7 σ3 F7 H7 ρ8 σ3 F' H'' → Dq F' v yd → _
  intro v F8 H8 S8 dv
  have A8 := step A7 S8
  by_cases hlen : okLen (accj.length + 1) = true
  · rw [if_pos hlen] at oj
    have el := dps_len A8.2.2.2.2
    refine ⟨vaccj, A8.2.1, ?_, hltj, wipeE ρ8 vs1, F8, vaccj ++ [v], accj ++ [yd], ff7.trans S8.ff, ?_, wipeE_twice ρ8, oj⟩
    · rw [el]
      exact okLen_le hlen
    · rw [← hw3]
      exact part (more A8 dv)
  · rw [if_neg hlen] at oj
    cases oj
section
variable {X : Cx} {E : XK} {pos : Pos}
theorem g_comp2 {elt tg iter tg1 iter1 : Expr} {ifs ifs1 : List Expr} {scope : Scope} {own : List (Str × Nat)} {ts ts1 vs1 : List Nat} {fi fi1 : Dn (List PyData)} {h h1 : PyData → Ev → Option Ev} {ft ft1 : Dn Bool} {fe : Dn PyData} (hc : X.calm = true) (hN : X.N.Nodup) (hi : PI X tg iter (tI X.K X.mg E fi)) (ok : BlkOk X.N X.env.scope scope own)
    (hts : ∀ i ∈ ts, i ∈ own.map (·.2)) (hts1 : ∀ i ∈ ts1, i ∈ vs1) (hv1 : ∀ i ∈ vs1, i ∈ own.map (·.2)) (hg : ∀ (s : Shared) (H : Hp) (C : Addr) (cl : List (Str × Addr)) (fp : List Addr), PG (X.blk s H scope (compEnvC scope cl C X.env) fp) tg (tGd X.K ts h))
    (ht : ∀ (s : Shared) (H : Hp) (C : Addr) (cl : List (Str × Addr)) (fp : List Addr), PTs (X.blk s H scope (compEnvC scope cl C X.env) fp) ifs (tT X.K X.mg E0 ft))
    (hi1 : ∀ (s : Shared) (H : Hp) (C : Addr) (cl : List (Str × Addr)) (fp : List Addr), PI (X.blk s H scope (compEnvC scope cl C X.env) fp) tg1 iter1 (tI X.K X.mg E0 fi1))
    (hg1 : ∀ (s : Shared) (H : Hp) (C : Addr) (cl : List (Str × Addr)) (fp : List Addr), PG (X.blk s H scope (compEnvC scope cl C X.env) fp) tg1 (tGd X.K ts1 h1))
    (ht1 : ∀ (s : Shared) (H : Hp) (C : Addr) (cl : List (Str × Addr)) (fp : List Addr), PTs (X.blk s H scope (compEnvC scope cl C X.env) fp) ifs1 (tT X.K X.mg E0 ft1))
    (he : ∀ (s : Shared) (H : Hp) (C : Addr) (cl : List (Str × Addr)) (fp : List Addr), PE (X.blk s H scope (compEnvC scope cl C X.env) fp) elt (tD X.K X.mg E0 fe))
    (hs : ∀ x, foldedSetIterable iter X.env x = pure x := by intro _; rfl) (hs1 : ∀ env x, foldedSetIterable iter1 env x = pure x := by intro _ _; rfl) :
    PE X (.ListComp elt [⟨tg, iter, ifs, 0⟩, ⟨tg1, iter1, ifs1, 0⟩] scope pos) (tE X.K X.mg E (dComp2 fi h ft fi1 h1 ft1 fe (own.map (·.2)) vs1)) :=
  pe_wk (pe_lc2 hc hN hi ok hv1 hg ht hi1 hg1 ht1 he hs hs1) (lc2_wk hts hts1 hv1)
end
end Gx

/-! G15: comprehensions over a list of one's own, as it stands. -/
namespace Gx
open PySem PySem.Spec L2
open PyProof.Rows hiding St
def compLO (i : Nat) (h : PyData → Ev → Option Ev) (ft : Dn Bool) (fe : Dn PyData) (vs : List Nat) : Nat → Nat → List PyData → Dn (List PyData)
  | 0, k, acc, ρ => match ownOf ρ[i]? with
    | some xs => if xs.length ≤ k then .ok (acc, ρ) else .st
    | none => .st
  | n + 1, k, acc, ρ => match (ownOf ρ[i]?).bind (fun xs => xs[k]?) with
    | none => .st
    | some d => match h d ρ with
      | none => .st
      | some ρ1 => match ft ρ1 with
        | .ok (true, ρ2) => match fe ρ2 with
          | .ok (y, ρ3) => if okLen (acc.length + 1) then compLO i h ft fe vs n (k + 1) (acc ++ [y]) (wipeE ρ3 vs) else .st
          | _ => .st
        | .ok (false, ρ2) => compLO i h ft fe vs n (k + 1) acc (wipeE ρ2 vs)
        | _ => .st
def dCompO (i : Nat) (h : PyData → Ev → Option Ev) (ft : Dn Bool) (fe : Dn PyData) (vs : List Nat) : Dn Rv := fun ρ => match ownOf ρ[i]? with
  | none => .st
  | some xs => if vs.all (fun v => !isBl ρ[v]? && v != i) then match compLO i h ft fe vs xs.length 0 [] (wipeE ρ vs) with
    | .ok (ys, ρ2) => .ok (.ol ys, restE ρ ρ2 vs)
    | _ => .st
    else .st
theorem ls_own {K : PySem.W.Frag} {ρ : Ev} {σ : St} {F H : Hp} {i : Nat} {xs : List PyData} (R : Rel K ρ σ F H) (h : ownOf ρ[i]? = some xs) : ∃ p vs, σ[i]? = some (some (.ref p)) ∧ H p = some (.lst vs) ∧ F p = none ∧ DqAll F vs xs := R.ls i xs (ownOf_some h)
theorem lcO_wk {K : PySem.W.Frag} {mg : Str → Option Value} {E : XK} {i : Nat} {ts : List Nat} {h : PyData → Ev → Option Ev} {ft : Dn Bool} {fe : Dn PyData} {vs : List Nat} (hts : ∀ i ∈ ts, i ∈ vs) (σ : St) (H : Hp) (Q : VK) (q : tE K mg E (dCompO i h ft fe vs) σ H Q) :
    tLc (iList K (tVar i)) (tGd K ts h) (tT K mg E0 ft) (tD K mg E0 fe) vs σ H Q := by
  obtain ⟨ρ, F, R, q⟩ := q
  unfold dCompO at q
  cases hx : ownOf ρ[i]? with
  | none => simp only [hx] at q; exact (show False from q).elim
  | some xs =>
  simp only [hx] at q
  by_cases hall : vs.all (fun v => !isBl ρ[v]? && v != i) = true
  case neg =>
    rw [if_neg hall] at q
    exact (show False from q).elim
  rw [if_pos hall] at q
  have nb : ∀ v ∈ vs, ∀ xs, ρ[v]? ≠ some (.bl xs) := fun v hv xs z => by
    have y := List.all_eq_true.mp hall v hv
    rw [z] at y
    cases y
  have ni : i ∉ vs := fun z => by
    have y := List.all_eq_true.mp hall i z
    simp at y
  cases ec : compLO i h ft fe vs xs.length 0 [] (wipeE ρ vs) with
  | st => rw [ec] at q; exact (show False from q).elim
  | ex x => rw [ec] at q; exact (show False from q).elim
  | ok r =>
  obtain ⟨ys, ρf⟩ := r
  rw [ec] at q
  have k3 : ∀ v F' H', Stp K ρ σ F H (restE ρ ρf vs) σ F' H' → ROk ρ σ H (restE ρ ρf vs) σ F' H' (.ol ys) v → Q v H' := q
  obtain ⟨p, ws, p1, p2, p3, p4⟩ := ls_own R hx
  refine ⟨.ref p, p1, p, rfl, ⟨ws, .of p2⟩, fun D hD => ?_⟩
  let At : Ev → St → Hp → Hp → List V → List PyData → Prop := fun ρi σi Fi Hi vacc acc => Stp K (wipeE ρ vs) (wipe σ vs) F H ρi σi Fi Hi ∧ Hi D = some (.lst vacc) ∧ Fi D = none ∧ ¬ Own ρi σi D ∧ DqAll Fi vacc acc
  have step : ∀ {ρi ρj : Ev} {σi σj : St} {Fi Fj Hi Hj : Hp} {vacc : List V} {acc : List PyData}, At ρi σi Fi Hi vacc acc → Stp K ρi σi Fi Hi ρj σj Fj Hj → At ρj σj Fj Hj vacc acc := fun ⟨a1, a2, a3, a4, a5⟩ S =>
    have ⟨b1, b2, b3⟩ := keep_nob S a2 a3 a4
    ⟨a1.trans S, b1, b2, b3, dps_mono S.ff _ _ a5⟩
  have turn : ∀ {ρi : Ev} {σi : St} {Fi Hi : Hp} {vacc : List V} {acc : List PyData}, At ρi σi Fi Hi vacc acc → wipe σi vs = wipe σ vs → At (wipeE ρi vs) (wipe σ vs) Fi Hi vacc acc := fun ⟨a1, a2, a3, a4, a5⟩ e =>
    ⟨wipe_turn a1 e, a2, a3, fun z => a4 (wipe_own (by rw [e]; exact z)), a5⟩
  have more : ∀ {ρi : Ev} {σi : St} {Fi Hi : Hp} {vacc : List V} {acc : List PyData} {v : V} {y : PyData}, At ρi σi Fi Hi vacc acc → Dq Fi v y → At ρi σi Fi (upd Hi D (.lst (vacc ++ [v]))) (vacc ++ [v]) (acc ++ [y]) := fun ⟨a1, a2, a3, a4, a5⟩ d =>
    ⟨upd_stp a1 hD a3 a4, upd_same, a3, a4, dps_app a5 (dps_one d)⟩
  -- the list, as it stands
  have here : ∀ {ρi : Ev} {Fi Hi : Hp} {vacc : List V} {acc zs : List PyData}, At ρi (wipe σ vs) Fi Hi vacc acc → ownOf ρi[i]? = some zs → ∃ us, Hi p = some (.lst us) ∧ DqAll Fi us zs := fun A e => by
    obtain ⟨p', us, e1, e2, _, e4⟩ := ls_own A.1.rel e
    rw [σ_out ni, p1] at e1
    cases e1
    exact ⟨us, e2, e4⟩
  refine ⟨fun k m Hi => ∃ ρi Fi vacc acc, At ρi (wipe σ vs) Fi Hi vacc acc ∧ wipeE ρi vs = ρi ∧ compLO i h ft fe vs m k acc ρi = .ok (ys, ρf),
    ⟨xs.length, wipeE ρ vs, F, [], [], ⟨(Grow.own R.sub hD).stp (wipe_rel R), upd_same, R.sub.free hD, fun z => ?_, .nil⟩, wipeE_twice ρ, ec⟩, ?_⟩
  · obtain ⟨⟨ws, e⟩, _⟩ := R.own (wipe_own z)
    rw [hD] at e
    cases e
  rintro k m Hi ⟨ρi, Fi, vacc, acc, A, hwi, o⟩
  cases m with
  | zero =>
    unfold compLO at o
    cases eo : ownOf ρi[i]? with
    | none => simp only [eo] at o; cases o
    | some zs =>
    simp only [eo] at o
    by_cases hl : zs.length ≤ k
    case neg => rw [if_neg hl] at o; cases o
    rw [if_pos hl] at o
    cases o
    obtain ⟨us, u1, u2⟩ := here A eo
    obtain ⟨Si, d1, d2, d3, d4⟩ := A
    refine .inl ⟨⟨us, .of u1, by rw [dps_len u2]; exact hl⟩, ?_⟩
    have Su := unwipe R nb Si
    refine k3 _ Fi Hi Su ⟨D, vacc, rfl, .inr hD, d1, d2, d4, fun z => ?_⟩
    rcases z with z | z
    · obtain ⟨j, xs, z1, z2⟩ := z
      rw [restE_get (by rw [Si.ln, wipeE_len])] at z1
      by_cases hv : j ∈ vs
      · rw [if_pos hv] at z1
        obtain ⟨⟨ws, e⟩, _⟩ := R.own (.inl ⟨j, xs, z1, z2⟩)
        rw [hD] at e
        cases e
      · rw [if_neg hv] at z1
        exact d3 (.inl ⟨j, xs, z1, by rw [σ_out hv]; exact z2⟩)
    · obtain ⟨⟨ws, e⟩, _⟩ := R.own (.inr (Su.ob z))
      rw [hD] at e
      cases e
  | succ m =>
  unfold compLO at o
  cases eo : ownOf ρi[i]? with
  | none => simp only [eo] at o; cases o
  | some zs =>
  simp only [eo, Option.bind_some] at o
  cases ez : zs[k]? with
  | none => simp only [ez] at o; cases o
  | some d =>
  simp only [ez] at o
  obtain ⟨us, u1, u2⟩ := here A eo
  obtain ⟨u, g1, g2⟩ := dps_get u2 ez
  refine .inr ⟨⟨us, u, .of u1, g1⟩, fun H' => ∃ ρ' F' vacc acc, At ρ' (wipe σ vs) F' H' vacc acc ∧ wipeE ρ' vs = ρ' ∧ compLO i h ft fe vs m (k + 1) acc ρ' = .ok (ys, ρf),
    fun H' z => ⟨m, by omega, z⟩, fun x H' y => ?_⟩
  obtain ⟨rfl, y2⟩ := y
  have ex : x = u := Option.some.inj ((y2 us (.of u1)).symm.trans g1)
  subst ex
  cases e1 : h d ρi with
  | none => rw [e1] at o; cases o
  | some ρ2 =>
  simp only [e1] at o
  refine ⟨d, ρi, Fi, ρ2, A.1.rel, g2, e1, fun σ2 S2 kp => ?_⟩
  have hl2 : σ2.length = (wipe σ vs).length := by rw [← S2.rel.ln, S2.ln, A.1.rel.ln]
  have hw : wipe σ2 vs = wipe σ vs := by
    rw [wipe_eq (τ := wipe σ vs) hl2 fun j hj => kp j fun z => hj (hts j z)]
    exact wipe_eq (wipe_length σ vs) fun j hj => σ_out hj
  refine ⟨hw, ρ2, Fi, S2.rel, ?_⟩
  have A2 := step A S2
  cases e2 : ft ρ2 with
  | st => simp only [e2] at o; cases o
  | ex x => simp only [e2] at o; cases o
  | ok r =>
  obtain ⟨b, ρ3⟩ := r
  show ∀ F' H'', Stp K ρ2 σ2 Fi _ ρ3 σ2 F' H'' → _
  intro F3 H3 S3
  have A3 := step A2 S3
  cases b with
  | false =>
    simp only [e2] at o
    exact iteF ⟨wipeE ρ3 vs, F3, vacc, acc, turn A3 hw, wipeE_twice ρ3, o⟩
  | true =>
  simp only [e2] at o
  refine iteT ⟨ρ3, F3, S3.rel, ?_⟩
  cases e3 : fe ρ3 with
  | st => simp only [e3] at o; cases o
  | ex x => simp only [e3] at o; cases o
  | ok r =>
  obtain ⟨yd, ρ4⟩ := r
  simp only [e3] at o
  show ∀ v F' H'', Stp K ρ3 σ2 F3 H3 ρ4 σ2 F' H'' → Dq F' v yd → _
  intro v F4 H4 S4 dv
  have A4 := step A3 S4
  by_cases hlen : okLen (acc.length + 1) = true
  · rw [if_pos hlen] at o
    have el := dps_len A4.2.2.2.2
    refine ⟨vacc, A4.2.1, ?_, wipeE ρ4 vs, F4, vacc ++ [v], acc ++ [yd], turn (more A4 dv) hw, wipeE_twice ρ4, o⟩
    rw [el]
    exact okLen_le hlen
  · rw [if_neg hlen] at o
    cases o
section
variable {X : Cx} {E : XK} {pos : Pos}
theorem g_compO (i : Nat) {elt tg : Expr} {y : Str} {py : Pos} {ifs : List Expr} {scope : Scope} {own : List (Str × Nat)} {ts : List Nat} {h : PyData → Ev → Option Ev} {ft : Dn Bool} {fe : Dn PyData} (hc : X.calm = true) (hN : X.N.Nodup) (ok : BlkOk X.N X.env.scope scope own)
    (hts : ∀ i ∈ ts, i ∈ own.map (·.2)) (hg : ∀ (s : Shared) (H : Hp) (C : Addr) (cl : List (Str × Addr)) (fp : List Addr), PG (X.blk s H scope (compEnvC scope cl C X.env) fp) tg (tGd X.K ts h))
    (ht : ∀ (s : Shared) (H : Hp) (C : Addr) (cl : List (Str × Addr)) (fp : List Addr), PTs (X.blk s H scope (compEnvC scope cl C X.env) fp) ifs (tT X.K X.mg E0 ft)) (he : ∀ (s : Shared) (H : Hp) (C : Addr) (cl : List (Str × Addr)) (fp : List Addr), PE (X.blk s H scope (compEnvC scope cl C X.env) fp) elt (tD X.K X.mg E0 fe))
    (hi : X.N[i]? = some y := by rfl) (hv : Vis X.env.scope y := by first | exact Or.inl rfl | exact Or.inr (Or.inl rfl) | exact Or.inr (Or.inr rfl)) (hd : (y == ("__debug__" : Str)) = false := by decide) (hcd : (y == ("__classdict__" : Str)) = false := by decide) :
    PE X (.ListComp elt [⟨tg, .Name y py, ifs, 0⟩] scope pos) (tE X.K X.mg E (dCompO i h ft fe (own.map (·.2)))) :=
  pe_wk (pe_lc hc hN (pi_list (pe_var hi hv hd hcd)) ok hg ht he (by intro _; rfl)) (lcO_wk hts)
end
end Gx

/-! G16: ~x, backward ranges, x[::-1], arguments that stand fast, words among words. -/
namespace Gx
open PySem PySem.Spec L2
open PyProof.Rows hiding St
section
variable {X : Cx} {E : XK} {pos : Pos}
def invD : PyData → Option PyData
  | .int i => some (.int (Builtin.bitNot i))
  | _ => none
theorem un_invD : UnD X (unaryOp .Invert) invD := unR_wk un_inv fun x H Q h => by
  obtain ⟨F, d, r, s, h1, hr, q⟩ := h
  cases h1 with
  | int i => cases hr; exact ⟨i, rfl, q _ (.int _)⟩
  | _ => cases hr
/-! ### backward -/
def dnD (lo : Int) (n : Nat) : List PyData := (List.range n).map fun i => .int (lo + (i : Nat) * (-1))
theorem iok_dn {F : Hp} {lo : Int} {n : Nat} : IOk F (Itc lo (-1) n) (dnD lo n) where
  go := fun i H hi _ => by
    show i < n
    simpa [dnD] using hi
  stop := fun H _ => by show n ≤ (dnD lo n).length; simp [dnD]
  yld := fun i H x H' G hi s1 s2 y => by
    obtain ⟨e, y⟩ := y
    subst e y
    have hn : i < n := by simpa [dnD] using hi
    exact ⟨_, G, by simp [dnD, hn], Grow.refl s2, .int _⟩
/-- reversed(range(n)) -/
def rv1 : PyData → Option (List PyData)
  | .int n => if small62 n then some (dnD ((n.toNat : Nat) - 1) n.toNat) else none
  | _ => none
def iRv1 (f : Dn PyData) : Dn (List PyData) := bnd f fun d => lft (rv1 d)
theorem gi_rev1 {tg a : Expr} {p p2 pos2 : Pos} {f : Dn PyData} (hg : Gl X "reversed") (hm : X.mg "reversed" = none) (hg2 : Gl X "range") (hm2 : X.mg "range" = none) (ha : PE X a (tD X.K X.mg E f)) (na : starEach [a] X.env = (false, eval a X.env) :: starEach [] X.env := by rfl)
    (hs : starEach [Expr.Call (.Name "range" p2) [a] [] pos2] X.env = (false, eval (Expr.Call (.Name "range" p2) [a] [] pos2) X.env) :: starEach [] X.env := by rfl) :
    PI X tg (.Call (.Name "reversed" p) [.Call (.Name "range" p2) [a] [] pos2] [] pos) (tI X.K X.mg E (iRv1 f)) :=
  pi_wk (pi_revR hg hm (prg_1 hg2 hm2 ha na) hs) fun σ H R ⟨ρ, F, Rl, q⟩ => ⟨ρ, F, Rl, (out_bnd (K := X.K) (F := F) q).mono fun d ρ1 k v F1 H1 S1 d1 => by
    obtain ⟨es, he, q2⟩ := out_lft (k _ _ _ S1)
    cases d1 with
    | int n =>
      have he' : (if small62 n then some (dnD ((n.toNat : Nat) - 1) n.toNat) else none) = some es := he
      by_cases hs : small62 n = true
      · rw [if_pos hs] at he'
        cases he'
        obtain ⟨b1, b2⟩ := small62_ok hs
        refine ⟨n, rfl, by decide, by decide, b1, b2, ?_⟩
        have e : (n - 0).toNat = n.toNat := by omega
        have e2 : (0 : Int) + (((n - 0).toNat : Nat) : Int) - 1 = (n.toNat : Nat) - 1 := by omega
        rw [e2, e]
        exact q2 _ F1 H1 S1 iok_dn
      · rw [if_neg hs] at he'
        cases he'
    | _ => cases he⟩
/-- range(i, j, -1) -/
def rg3 : List PyData → Option (List PyData)
  | [.int i, .int j, .int c] => if small62 i && (small62 j && decide (c = -1)) then some (dnD i (i - j).toNat) else none
  | _ => none
def iRg3 (f : Dn (List PyData)) : Dn (List PyData) := bnd f fun ds => lft (rg3 ds)
theorem gi_range3 {tg a b c : Expr} {p : Pos} {f : Dn (List PyData)} (hg : Gl X "range") (hm : X.mg "range" = none) (ha : PA X [a, b, c] (tDs X.K X.mg E f)) (hs : starEach [a, b, c] X.env = (false, eval a X.env) :: starEach [b, c] X.env := by rfl)
    (hpl : (backTo pos (starEach [b, c] X.env)).any (·.1) = false := by rfl) : PI X tg (.Call (.Name "range" p) [a, b, c] [] pos) (tI X.K X.mg E (iRg3 f)) :=
  pi_wk (pi_range3 hg hm ha hs hpl) fun σ H R ⟨ρ, F, Rl, q⟩ => ⟨ρ, F, Rl, (out_bnd (K := X.K) (F := F) q).mono fun ds ρ1 k vs F1 H1 S1 d1 => by
    obtain ⟨es, he, q2⟩ := out_lft (k _ _ _ S1)
    match ds, vs, d1, he with
    | [.int i, .int j, .int c], [_, _, _], .cons d1 (.cons d2 (.cons d3 .nil)), he =>
      cases d1
      cases d2
      cases d3
      have he' : (if small62 i && (small62 j && decide (c = -1)) then some (dnD i (i - j).toNat) else none) = some es := he
      by_cases hs : (small62 i && (small62 j && decide (c = -1))) = true
      · rw [if_pos hs] at he'
        cases he'
        simp only [Bool.and_eq_true, decide_eq_true_eq] at hs
        obtain ⟨h1, h2, rfl⟩ := hs
        obtain ⟨b1, b2⟩ := small62_ok h1
        obtain ⟨b3, b4⟩ := small62_ok h2
        exact ⟨i, j, -1, (i - j).toNat, rfl, RgC.neg b1 b2 b3 b4, q2 _ F1 H1 S1 iok_dn⟩
      · rw [if_neg hs] at he'
        cases he'⟩
/-- x[::-1] of a list -/
def dRevL (f : Dn PyData) : Dn Rv := bnd f fun d => match d with
  | .list xs => ret (.ol xs.reverse)
  | _ => lft none
theorem g_revL {e : Expr} {f : Dn PyData} {k : Nat} {p1 p2 p3 : Pos} (he : PE X e (tD X.K X.mg E f)) : PE X (.Subscript e (.Slice none none (some (.UnaryOp .USub (.Constant (.int 1) k p1) p2)) p3) pos) (tE X.K X.mg E (dRevL f)) :=
  pe_wk (pe_revL he) fun σ H Q ⟨ρ, F, Rl, q⟩ => ⟨ρ, F, Rl, (out_bnd (K := X.K) (F := F) q).mono fun d ρ1 k v F1 H1 S1 d1 => by
    have q2 := k _ _ _ S1
    cases d1 with
    | @lst a vs xs ha hx =>
      refine ⟨a, vs, rfl, .of (S1.rel.sub _ _ ha), fun p np => ?_⟩
      have g := Grow.own (o := .lst vs.reverse) S1.rel.sub np
      have nk : NOk H1 F1 (upd H1 p (.lst vs.reverse)) (.ol xs.reverse) (.ref p) := ⟨p, vs.reverse, rfl, np, upd_same, S1.rel.sub.free np, dps_rev hx⟩
      exact out_ret q2 _ _ _ (S1.trans (g.stp S1.rel)) ((nk.rok S1.rel).before S1)
    | _ => exact (show False from q2).elim⟩
/-! ### an argument that stands fast is walked -/
def fastE : Option En → Option (List PyData)
  | some (.fz (.list xs)) => some xs
  | some (.fz (.tuple xs)) => some xs
  | some (.sc (.t ns)) => some (ns.map .int)
  | _ => none
def iArg (i : Nat) : Dn (List PyData) := fun ρ => match fastE ρ[i]? with
  | some xs => .ok (xs, ρ)
  | none => .st
theorem iok_tupK {K : PySem.W.Frag} {F : Hp} {a : Addr} {ns : List Int} (h : SqT K F a (ns.map V.int)) : IOk F (Itt K a) (ns.map .int) where
  go := fun i H hi s => by
    have hn : i < (ns.map V.int).length := by simpa using hi
    exact ⟨_, _, same_T s h, List.getElem?_eq_getElem hn⟩
  stop := fun H s => ⟨_, same_T s h, by simp⟩
  yld := fun i H x H' G hi s1 s2 y => by
    obtain ⟨e, y⟩ := y
    subst e
    have hn : i < ns.length := by simpa using hi
    have e1 := y _ (same_T (s1.trans s2) h)
    rw [List.getElem?_map, List.getElem?_eq_getElem hn] at e1
    cases e1
    exact ⟨.int ns[i], G, by rw [List.getElem?_map, List.getElem?_eq_getElem hn]; rfl, Grow.refl s2, .int _⟩
theorem gi_arg (i : Nat) {tg : Expr} {x : Str} (hN : X.N[i]? = some x := by rfl) (hv : Vis X.env.scope x := by first | exact Or.inl rfl | exact Or.inr (Or.inl rfl) | exact Or.inr (Or.inr rfl)) (hd : (x == ("__debug__" : Str)) = false := by decide)
    (hcd : (x == ("__classdict__" : Str)) = false := by decide) : PI X tg (.Name x pos) (tI X.K X.mg E (iArg i)) := by
  refine ⟨fun pins s σ H R I ⟨ρ, F, Rl, q⟩ => ?_⟩
  have reading : tVar i σ H (fun v H1 => ∃ a, v = .ref a ∧ (((∃ xs, SqL X.K H1 a xs) ∧ R (Itl X.K a) H1) ∨ ((∃ xs, SqT X.K H1 a xs) ∧ R (Itt X.K a) H1))) := by
    unfold iArg at q
    cases e : ρ[i]? with
    | none => rw [e] at q; exact (show False from q).elim
    | some en =>
      rw [e] at q
      cases en with
      | fz d =>
        obtain ⟨v, h1, h2⟩ := Rl.fz i d e
        cases h2 with
        | @lst a vs ys ha hx =>
          have q2 : ∀ J F' H', Stp X.K ρ σ F H ρ σ F' H' → IOk F' J ys → R J H' := q
          exact ⟨_, h1, a, rfl, .inl ⟨⟨vs, .of (Rl.sub _ _ ha)⟩, q2 _ F H (Stp.refl Rl) (iok_list ha hx)⟩⟩
        | @tup a vs ys ha hx =>
          have q2 : ∀ J F' H', Stp X.K ρ σ F H ρ σ F' H' → IOk F' J ys → R J H' := q
          exact ⟨_, h1, a, rfl, .inr ⟨⟨vs, .of (Rl.sub _ _ ha)⟩, q2 _ F H (Stp.refl Rl) (iok_tup ha hx)⟩⟩
        | _ => exact (show False from q).elim
      | sc x =>
        cases x with
        | l ns => exact (show False from q).elim
        | t ns =>
          obtain ⟨a, h1, h2⟩ := Rl.sc i _ e
          have q2 : ∀ J F' H', Stp X.K ρ σ F H ρ σ F' H' → IOk F' J (ns.map .int) → R J H' := q
          exact ⟨_, h1, a, rfl, .inr ⟨⟨_, same_T Rl.sub h2⟩, q2 _ F H (Stp.refl Rl) (iok_tupK h2)⟩⟩
      | _ => exact (show False from q).elim
  refine thn ((pe_var hN hv hd hcd).run pins s σ H _ I reading) ?_
  rintro v s1 ⟨x, H1, I1, r1, a, rfl, both⟩
  cases r1
  have fresh := I1.hok.fresh (Nat.le_refl _)
  rcases both with ⟨⟨xs, hq⟩, qq⟩ | ⟨⟨xs, hq⟩, qq⟩
  · obtain ⟨its, _, pl, _⟩ := I1.list hq
    refine wpAny_pyIter_list pl.isList ⟨_, [_], _, Itl X.K a, H1, rfl, I1.kept (t' := s1.toks) fun b o e => Heap.get?_push_of_some _ e, turn_list a s1.heap.objs.size, ⟨_, Heap.get?_push_size _ rfl, rfl, rfl⟩, fun b hb => ?_, qq⟩
    rw [List.mem_singleton.mp hb]
    exact I1.fpOk (Nat.le_refl _) fresh
  · obtain ⟨its, _, pl, _⟩ := I1.tuple hq
    refine wpAny_pyIter_tuple (show s1.heap.IsTuple a its.toArray from pl) ⟨_, [_], _, Itt X.K a, H1, rfl, I1.kept (t' := s1.toks) fun b o e => Heap.get?_push_of_some _ e, turn_tuple a s1.heap.objs.size, ⟨_, Heap.get?_push_size _ rfl, rfl, rfl⟩, fun b hb => ?_, qq⟩
    rw [List.mem_singleton.mp hb]
    exact I1.fpOk (Nat.le_refl _) fresh
/-! ### a word among words -/
def strsD : List PyData → Option (List Str)
  | [] => some []
  | .str x :: ds => (strsD ds).map (x :: ·)
  | _ :: _ => none
theorem dqs_strs {F : Hp} : ∀ {vs : List V} {ds : List PyData} {xs : List Str}, DqAll F vs ds → strsD ds = some xs → vs = xs.map V.str
  | [], _, xs, h, e => by cases h; cases e; rfl
  | v :: vs, _, xs, h, e => by
    cases h with
    | cons h1 h2 =>
      cases h1 with
      | str x =>
        obtain ⟨ys, e1, e2⟩ := Option.map_eq_some_iff.mp (show (strsD _).map (x :: ·) = some xs from e)
        subst e2
        rw [dqs_strs h2 e1]
        rfl
      | _ => cases e
theorem inV_strs (x : Str) : ∀ xs : List Str, inV (.str x) (xs.map V.str) = xs.any (· == x)
  | [] => rfl
  | y :: xs => by
    have ih := inV_strs x xs
    unfold inV at ih ⊢
    rw [List.map_cons, List.any_cons, List.any_cons, ih]
    rfl
theorem flat_strs : ∀ xs : List Str, (xs.map V.str).all flatV = true
  | [] => rfl
  | x :: xs => by
    rw [List.map_cons, List.all_cons, flat_strs xs]
    rfl
def inW (d e : PyData) : Option Rv := match d, e with
  | .str x, .tuple ds => (strsD ds).bind fun xs => fB (xs.any (· == x))
  | _, _ => none
theorem op_inW : OpD X (compareOp .In) inW := opR_wk op_in_seq fun x y H Q h => by
  obtain ⟨F, d, e, r, s, h1, h2, hr, q⟩ := h
  cases h1 with
  | str x =>
    cases h2 with
    | @tup a vs ds ha hx =>
      obtain ⟨xs, e1, e2⟩ := Option.bind_eq_some_iff.mp (show (strsD ds).bind (fun xs => fB (xs.any (· == x))) = some r from hr)
      cases e2
      have e := dqs_strs hx e1
      subst e
      refine ⟨a, _, rfl, .inr (.of (s _ _ ha)), rfl, flat_strs xs, ?_⟩
      rw [if_neg (by decide), inV_strs]
      exact q _ F H (Grow.refl s) (.bl _)
    | _ => cases hr
  | _ => cases hr
/-- a tuple of words at the program's top -/
def WordsAt (K : PySem.W.Frag) (mg : Str → Option Value) (x : Str) (ws : List Str) : Prop := ∃ a, mg x = some (.ref a) ∧ ∀ H, SqT K H a (ws.map V.str)
def inG (ws : List Str) : PyData → Option PyData
  | .str x => some (.bool (ws.any (· == x)))
  | _ => none
theorem g_inGlob {y : Str} {ws : List Str} {e : Expr} {py : Pos} {f : Dn PyData} (W : WordsAt X.K X.mg y ws) (hg : Gl X y) (he : PE X e (tD X.K X.mg E f)) (hm : behindInMarks .In (.Name y py) = false) (hdb : (y == ("__debug__" : Str)) = false := by decide) : PE X (.Compare e [.In] [.Name y py] pos) (tD X.K X.mg E (dUn (inG ws) f)) := by
  obtain ⟨a, h1, h2⟩ := W
  refine pe_wk (pe_cmpR op_in_seq he (pe_glob (v := .ref a) hg h1 rfl hdb) hm) fun σ H Q ⟨ρ, F, R, q⟩ => ⟨ρ, F, R, (out_bnd (K := X.K) (F := F) q).mono fun d ρ1 k v F1 H1 S1 d1 => ?_⟩
  obtain ⟨r, hr, q2⟩ := out_lft (k _ _ _ S1)
  cases d1 with
  | str x =>
    cases hr
    refine ⟨a, _, rfl, .inr (h2 H1), rfl, flat_strs ws, ?_⟩
    rw [if_neg (by decide), inV_strs]
    exact q2 _ F1 H1 S1 (.bl _)
  | _ => cases hr
end
end Gx

/-! G17: defs with defaults () and calls by place and by name. -/
namespace Gx
open PySem PySem.Spec L2
open PyProof.Rows hiding St
def pkq {α : Type} (l d : List α) (q : Bool × Nat) : Option α := match q.1 with
  | true => l[q.2]?
  | false => d[q.2]?
def mpG {α : Type} (mp : List (Bool × Nat)) (l d : List α) : List α := mp.filterMap (pkq l d)
def okMp (mp : List (Bool × Nat)) (a b : Nat) : Prop := ∀ q ∈ mp, match q.1 with
  | true => q.2 < a
  | false => q.2 < b
theorem mpG_cons {α : Type} {q : Bool × Nat} {mp : List (Bool × Nat)} {l d : List α} {x : α} (h : pkq l d q = some x) : mpG (q :: mp) l d = x :: mpG mp l d := by
  unfold mpG
  rw [List.filterMap_cons_some h]
theorem mp_at {α : Type} {mp : List (Bool × Nat)} {l d : List α} {q : Bool × Nat} (h : okMp mp l.length d.length) (hq : q ∈ mp) : ∃ x, pkq l d q = some x := by
  have z := h q hq
  unfold pkq
  cases e : q.1 with
  | true => rw [e] at z; exact ⟨_, List.getElem?_eq_getElem z⟩
  | false => rw [e] at z; exact ⟨_, List.getElem?_eq_getElem z⟩
theorem mpG_get {α : Type} {l d : List α} : ∀ {mp : List (Bool × Nat)} (k : Nat), okMp mp l.length d.length → (mpG mp l d)[k]? = mp[k]?.bind (pkq l d)
  | [], k, _ => by simp [mpG]
  | q :: mp, k, h => by
    obtain ⟨x, hx⟩ := mp_at h (q := q) (by simp)
    rw [mpG_cons hx]
    cases k with
    | zero => simp [hx]
    | succ k => simpa using mpG_get k fun p hp => h p (by simp [hp])
theorem mpG_len {α : Type} {l d : List α} : ∀ {mp : List (Bool × Nat)}, okMp mp l.length d.length → (mpG mp l d).length = mp.length
  | [], _ => rfl
  | q :: mp, h => by
    obtain ⟨x, hx⟩ := mp_at h (q := q) (by simp)
    rw [mpG_cons hx, List.length_cons, List.length_cons, mpG_len fun p hp => h p (by simp [hp])]
theorem vals_at {vs : List V} {us : List Value} (h : Vals vs us) : ∀ i : Nat, (vs[i]? = none ∧ us[i]? = none) ∨ ∃ v u, vs[i]? = some v ∧ us[i]? = some u ∧ RelV v u := by
  induction h with
  | nil => intro i; exact .inl ⟨by simp, by simp⟩
  | @cons a b l1 l2 h1 h2 ih =>
    intro i
    cases i with
    | zero => exact .inr ⟨a, b, rfl, rfl, h1⟩
    | succ i => simpa using ih i
theorem vals_app {vs zs : List V} {us ws : List Value} (h : Vals vs us) (k : Vals zs ws) : Vals (vs ++ zs) (us ++ ws) := by
  induction h with
  | nil => exact k
  | cons h1 _ ih => exact .cons h1 ih
theorem mpG_vals {vs ds : List V} {us its : List Value} (h : Vals vs us) (k : Vals ds its) : ∀ mp : List (Bool × Nat), Vals (mpG mp vs ds) (mpG mp us its)
  | [] => .nil
  | q :: mp => by
    have ih := mpG_vals h k mp
    have key : (pkq vs ds q = none ∧ pkq us its q = none) ∨ ∃ v u, pkq vs ds q = some v ∧ pkq us its q = some u ∧ RelV v u := by
      unfold pkq
      cases q.1 with
      | true => exact vals_at h q.2
      | false => exact vals_at k q.2
    unfold mpG at ih ⊢
    rcases key with ⟨e1, e2⟩ | ⟨v, u, e1, e2, r⟩
    · rw [List.filterMap_cons_none e1, List.filterMap_cons_none e2]
      exact ih
    · rw [List.filterMap_cons_some e1, List.filterMap_cons_some e2]
      exact .cons r ih
def arP (ds : List PyData) (q : Bool × Nat) : Ar := match q.1 with
  | true => .fz (ds.getD q.2 .none)
  | false => .sc (.t [])
def dApp (f g : Dn (List PyData)) : Dn (List PyData) := bnd f fun ds => bnd g fun es => ret (ds ++ es)
def dArD (mp : List (Bool × Nat)) (f g : Dn (List PyData)) : Dn (List Ar) := bnd (dApp f g) fun ds => ret (mp.map (arP ds))
theorem aok_mp {K : PySem.W.Frag} {ρ ρ1 : Ev} {σ : St} {H F1 H1 : Hp} {vs dvs : List V} {ds : List PyData} {mp : List (Bool × Nat)} (h : DqAll F1 vs ds) (ok : okMp mp vs.length dvs.length) (hd : ∀ v ∈ dvs, ∃ a, v = .ref a ∧ ∀ H, SqT K H a []) : AOk K ρ σ H ρ1 F1 H1 (mp.map (arP ds)) (mpG mp vs dvs) := by
  have at' : ∀ (k : Nat) (a : Ar), (mp.map (arP ds))[k]? = some a → ∃ q, mp[k]? = some q ∧ a = arP ds q := fun k a e => by
    rw [List.getElem?_map] at e
    obtain ⟨q, e1, e2⟩ := Option.map_eq_some_iff.mp e
    exact ⟨q, e1, e2.symm⟩
  have no : ∀ q a, a = arP ds q → (∃ d, a = .fz d) ∨ a = .sc (.t []) := fun q a e => by
    unfold arP at e
    cases c : q.1 with
    | true => rw [c] at e; exact .inl ⟨_, e⟩
    | false => rw [c] at e; exact .inr e
  refine ⟨by rw [List.length_map]; exact mpG_len ok, fun k d e => ?_, fun k i e => ?_, fun k xs e => ?_, fun k ns e => ?_, fun k l xs ys p e => ?_⟩
  · obtain ⟨q, e1, e2⟩ := at' k _ e
    rw [mpG_get k ok, e1]
    have hq := ok q (List.mem_of_getElem? e1)
    unfold arP at e2
    cases c : q.1 with
    | true =>
      rw [c] at e2 hq
      have hl : q.2 < ds.length := by rw [← dps_len h]; exact hq
      rw [List.getD_eq_getElem?_getD, List.getElem?_eq_getElem hl] at e2
      cases e2
      obtain ⟨v, h1, h2⟩ := dps_get h (List.getElem?_eq_getElem hl)
      refine ⟨v, ?_, h2⟩
      show pkq vs dvs q = _
      unfold pkq
      rw [c]
      exact h1
    | false => rw [c] at e2; cases e2
  · obtain ⟨q, e1, e2⟩ := at' k _ e
    rcases no q _ e2 with ⟨d, z⟩ | z <;> cases z
  · obtain ⟨q, e1, e2⟩ := at' k _ e
    rcases no q _ e2 with ⟨d, z⟩ | z <;> cases z
  · obtain ⟨q, e1, e2⟩ := at' k _ e
    rw [mpG_get k ok, e1]
    have hq := ok q (List.mem_of_getElem? e1)
    unfold arP at e2
    cases c : q.1 with
    | true => rw [c] at e2; cases e2
    | false =>
      rw [c] at e2 hq
      cases e2
      obtain ⟨a, e3, e4⟩ := hd _ (List.getElem_mem (show q.2 < dvs.length from hq))
      refine ⟨a, ?_, e4 F1⟩
      show pkq vs dvs q = _
      unfold pkq
      rw [c]
      show dvs[q.2]? = _
      rw [List.getElem?_eq_getElem (show q.2 < dvs.length from hq), e3]
  · obtain ⟨q, e1, e2⟩ := at' k _ e
    rcases no q _ e2 with ⟨d, z⟩ | z <;> cases z
theorem okMp_by {mp : List (Bool × Nat)} {a b : Nat} (h : (mp.all fun q => match q.1 with | true => decide (q.2 < a) | false => decide (q.2 < b)) = true) : okMp mp a b := fun q hq => by
  have z := List.all_eq_true.1 h q hq
  cases e : q.1 with
  | true => rw [e] at z; exact of_decide_eq_true z
  | false => rw [e] at z; exact of_decide_eq_true z
structure DefD (K : PySem.W.Frag) (mg : Str → Option Value) (x : Str) (st : Stmt) (ps : List Str) (m : Nat) : Prop where
  ex : ∃ f fd dvs, FunD K x x (defArgs st) (defBody st) (defScope st) dvs [] f fd ∧ mg x = some (.ref f) ∧ dvs.length = m ∧ ∀ v ∈ dvs, ∃ a, v = V.ref a ∧ ∀ H, SqT K H a []
theorem ok_defD {P : Program} {w : World} {K : PySem.W.Frag} {mg : Str → Option Value} {base : Heap} {x : Str} {st : Stmt} {f : Addr} {fd : FuncData} {dvs : List V} {N ps : List Str} {k : Nat} {body : Dn Fl} (Fn : FunD K x x (defArgs st) (defBody st) (defScope st) dvs [] f fd) (S : FnScope N ps (defScope st))
    (hb : ∀ (cdv : Value) (A : Around) (outer : List Env) (s : Shared) (H : Hp) (E : XK), Room k (A.deeper (envOfC x (defScope st) s.heap.objs.size f cdv)) →
      PSs (cxOf (L2.CX P w) P w K mg base N x (defScope st) f cdv A outer s H E) (defBody st) (tS K mg E body)) :
    FnOk P w K mg base (L2.CX P w) (k + 1) f fd ps (spD K mg ps.length (runF ps.length N.length body)) := by
  refine Fn.ok S (fun vs H Q E h => h.1) fun cdv A outer s H vs Q E hr h => ?_
  obtain ⟨hl, as, F, R, no, o⟩ := h
  have hm : as.length = vs.length := by simpa using R.ln
  refine ⟨_, hb cdv A outer s H E hr, ?_⟩
  show tS K mg E body _ (L2.start N vs) H
  have es : L2.start N vs = vs.map some ++ List.replicate (N.length - ps.length) none := by
    unfold L2.start
    rw [hl]
  rw [es]
  refine ⟨as ++ List.replicate (N.length - ps.length) .no, F, start_rel R, ?_⟩
  unfold runF at o
  cases e : body (as ++ List.replicate (N.length - ps.length) .no) with
  | st => rw [e] at o; exact o
  | ex x =>
    rw [e] at o
    exact fun cls d H' xp => o cls d H' ⟨xp.cl, fun a u h n => xp.fr a u h fun z => n (start_own R z), xp.dm, xp.ar⟩
  | ok r =>
    obtain ⟨fl, ρ'⟩ := r
    rw [e] at o
    cases fl with
    | nx => exact fun σ' F' H' S' => o .non F' H' (leave R no S') .non
    | rt r => exact fun σ' v F' H' S' ro => o v F' H' (leave R no S') (leave_rv R no S' ro)
    | bk => exact (show False from o).elim
    | ct => exact (show False from o).elim
section
variable {X : Cx} {E : XK} {pos p : Pos}
/-- the two rows of arguments, read one behind the other -/
theorem ar_two {K : PySem.W.Frag} {mg : Str → Option Value} {mp : List (Bool × Nat)} {f g : Dn (List PyData)} {n m : Nat} {dvs : List V} {σ : St} {H : Hp} {Q : List V → Hp → Prop} (hn : ∀ ρ ds ρ', f ρ = .ok (ds, ρ') → ds.length = n) (hm : ∀ ρ ds ρ', g ρ = .ok (ds, ρ') → ds.length = m) (ok : okMp mp (n + m) dvs.length) (hd : ∀ v ∈ dvs, ∃ a, v = V.ref a ∧ ∀ H, SqT K H a [])
    (h : tAr K mg E (dArD mp f g) σ H Q) : tDs K mg E f σ H fun vs H1 => tDs K mg E g σ H1 fun zs H2 => vs.length = n ∧ zs.length = m ∧ Q (mpG mp (vs ++ zs) dvs) H2 := by
  obtain ⟨ρ, F, R, q⟩ := h
  refine ⟨ρ, F, R, ?_⟩
  have q' := out_bnd (K := K) (F := F) q
  unfold dApp at q'
  have q1 := out_bnd (K := K) (F := F) q'
  cases ef : f ρ with
  | st => rw [ef] at q1; exact q1
  | ex e => rw [ef] at q1; exact q1
  | ok t =>
    obtain ⟨ds, ρ1⟩ := t
    rw [ef] at q1
    intro vs F1 H1 S1 d1
    refine ⟨ρ1, F1, S1.rel, ?_⟩
    have q2 := out_bnd (K := K) (F := F1) (q1 _ _ _ S1)
    cases eg : g ρ1 with
    | st => rw [eg] at q2; exact q2
    | ex e => rw [eg] at q2; exact q2
    | ok t =>
      obtain ⟨es, ρ2⟩ := t
      rw [eg] at q2
      intro zs F2 H2 S2 d2
      have q3 := out_ret (q2 _ _ _ S2) σ F2 H2 (S1.trans S2)
      have l1 : vs.length = n := by rw [dps_len d1]; exact hn _ _ _ ef
      have l2 : zs.length = m := by rw [dps_len d2]; exact hm _ _ _ eg
      exact ⟨l1, l2, out_ret q3 _ F2 H2 (S1.trans S2) (aok_mp (dps_app (dps_mono S2.ff ds vs d1) d2) (by rw [List.length_append, l1, l2]; exact ok) hd)⟩
theorem g_callD {x : Str} {e : Expr} {es : List Expr} {kws : List Keyword} {j k N n m : Nat} {den : Den} {f g : Dn (List PyData)} {ks : List Str} {st : Stmt} {ps : List Str} (mp : List (Bool × Nat)) (D : DefD X.K X.mg x st ps m) (c : ∀ f fd dvs, FunD X.K x x (defArgs st) (defBody st) (defScope st) dvs [] f fd → FnOk X.prog X.w X.K X.mg X.base (L2.CX X.prog X.w) j f fd ps (spD X.K X.mg N den)) (hr : Room k X.A) (hj : j ≤ k) (hg : Gl X x) (hx : Passes (L2.CX X.prog X.w) X E)
    (hb : ∀ (T : Addr) (kV doc pm : Value) (an : Option Addr) (cdv ct : Value) (us its ws : List Value), us.length = n → its.length = m → ws.length = ks.length →
      ∃ k, bindArgs (PySem.W.fnOf x x (defArgs st) (defBody st) (defScope st) (.ref T) kV doc pm an cdv ct) ⟨us, ks.zip ws⟩ = seqItems? (.ref T) >>= k ∧ k (some its.toArray) = pure (ps.zip (mpG mp (us ++ ws) its)))
    (ha : PA X (e :: es) (tDs X.K X.mg E f)) (hk : PK X kws (tDs X.K X.mg E g)) (hn : DsLen f n) (hm : DsLen g ks.length) (ok : okMp mp (n + ks.length) m) (hp : mp.length = N) (m0 : m ≠ 0)
    (hall : (backToKw pos (keywordEach kws X.env)).all (·.1.isSome) = true := by rfl) (hks : (backToKw pos (keywordEach kws X.env)).filterMap (·.1) = ks := by rfl)
    (hdb : (x == ("__debug__" : Str)) = false := by decide) (he : starEach (e :: es) X.env = (false, eval e X.env) :: starEach es X.env := by rfl)
    (hpl : ((backTo pos (starEach (e :: es) X.env)).any (·.1) || (backToKw pos (keywordEach kws X.env)).any (·.1.isNone)) = false := by rfl) :
    PE X (.Call (.Name x p) (e :: es) kws pos) (tE X.K X.mg E (dFn den (dArD mp f g))) := by
  obtain ⟨fa, fd, dvs, Fn, hmg, hl, hd⟩ := D.ex
  have F1 := c fa fd dvs Fn
  have kb : ∃ its : List Value, KBn X.K fd ps n ks (fun us ws => mpG mp (us ++ ws) its) (fun vs zs => mpG mp (vs ++ zs) dvs) := by
    obtain ⟨oc, od, dV, kV, doc, pm, an, cdv, ct, osl, rfl, lk, hcd, hD, _⟩ := Fn.ex
    rcases hD with ⟨z, _⟩ | ⟨_, T, o, its, mm, rfl, lT, oT, rT⟩
    · subst z
      exact absurd hl.symm m0
    · refine ⟨its, fun s us ws X1 l1 l2 => ?_, fun r1 r2 => mpG_vals (vals_app r1 r2) rT mp⟩
      obtain ⟨k, e1, e2⟩ := hb T kV doc pm an cdv ct us its ws l1 (by rw [← rT.length]; exact hl) l2
      refine BindsTo.of_looks fun M => ?_
      rw [e1]
      exact looks_items X1 lT oT (.of_pure e2)
  obtain ⟨its, kb⟩ := kb
  refine pe_wk (pe_callN (F1.mono hj) hr hg hmg Fn.kp kb hx ha hk hall hks hdb he hpl) fun σ H Q h => ?_
  show tDs X.K X.mg E f σ H fun vs H1 => tDs X.K X.mg E g σ H1 fun zs H2 => vs.length = n ∧ zs.length = ks.length ∧ spD X.K X.mg N den (mpG mp (vs ++ zs) dvs) H2 Q E
  refine ar_two (K := X.K) (mg := X.mg) (E := E) (Q := fun us H2 => spD X.K X.mg N den us H2 Q E) hn hm (by rw [hl]; exact ok) hd ?_
  exact spD_call (sp := spD X.K X.mg N den) (fun _ _ _ _ z => z) (fun ρ as ρ' e => by
    unfold dArD bnd at e
    cases ef : dApp f g ρ with
    | st => rw [ef] at e; cases e
    | ex y => rw [ef] at e; cases e
    | ok t =>
      rw [ef] at e
      cases e
      rw [List.length_map, hp]) σ H Q h
end
end Gx

/-! G18: enumerate of a tuple. -/
namespace Gx
open PySem PySem.Spec L2
open PyProof.Rows hiding St
/-- the tuple at a, item by item, each with its number in a new pair -/
def Iten (K : PySem.W.Frag) (a : Addr) : It where
  go := fun k G => ∃ (ws : List V) (y : V), SqT K G a ws ∧ ws[k]? = some y
  yld := fun k G r G' => ∃ C y, r = .ref C ∧ G C = none ∧ G' = upd G C (.tup [.int (k : Nat), y]) ∧ ∀ ws, SqT K G a ws → ws[k]? = some y
  stop := fun k G => ∃ ws : List V, SqT K G a ws ∧ ws.length ≤ k
theorem in1_handled {A : Around} (h : A.handled = none) : A.in1.handled = none := h
def TnE (a e it : Addr) (k : Nat) (h : Heap) : Prop := (∃ old, IsEnum h e it ((k : Nat) : Int) old) ∧ h.IsTupleIter it a k ∧ e ≠ it ∧ a ≠ it ∧ a ≠ e
theorem turn_enumT {P : Program} {w : World} {K : PySem.W.Frag} {elts : List Expr} {n : Nat} {tp : Pos} (a e it : Addr) : Turn P w K (.Tuple elts n tp) (Iten K a) [e, it] e (TnE a e it) where
  mem := by simp
  obj := fun k h st b hb => by
    obtain ⟨⟨old, z1⟩, ⟨o, z2, _, z3⟩, _⟩ := st
    rcases (by simpa using hb : b = e ∨ b = it) with q | q
    · rw [q]; exact ⟨_, z1, fun v y => nomatch y⟩
    · exact ⟨o, by rw [q]; exact z2, fun v y => by rw [z3] at y; cases y⟩
  keep := fun k h h' st kp => by
    obtain ⟨⟨old, z1⟩, z2, rest⟩ := st
    exact ⟨⟨old, kp e (by simp) _ z1⟩, z2.at fun o y => kp it (by simp) o y, rest⟩
  item := by
    intro X hP hw hK hc k pins s σ G E I fps st hg
    subst hP hw hK
    obtain ⟨⟨old, z1⟩, z2, d1, d2, d3⟩ := st
    obtain ⟨ws, y, hq, hy⟩ := hg
    obtain ⟨its, rv, pl, _⟩ := I.tuple hq
    obtain ⟨u, hu, ru⟩ := rv.get hy
    have l1 : e < s.heap.objs.size := Heap.lt_size z1
    have l2 : it < s.heap.objs.size := by obtain ⟨_, q, _⟩ := z2; exact Heap.lt_size q
    have D : Draws X.prog X.w X.A.in1 it [it, a] its.toArray.size (fun i v => its.toArray[i]? = some v) (fun i h => h.IsTupleIter it a i ∧ h.IsTuple a its.toArray) := Draws.tuple (in1_handled (I.ok.hd hc)) it a d2 its.toArray
    have lt : k < its.toArray.size := by
      have := (List.getElem?_eq_some_iff.mp hu).1
      simpa using this
    refine wpAny_pyNext_enum_itemD D z1 ⟨z2, pl⟩ lt d1 (by simp [d1, d3.symm]) fun x h1 tk hx out st1 cell _ kp => ?_
    have ex : x = u := by
      have q : its.toArray[k]? = some u := by simpa using hu
      rw [q] at hx
      exact (Option.some.inj hx).symm
    subst ex
    refine ⟨_, rfl, wpAny_letOwnedTupleGo_enum (s := { s with heap := h1, toks := tk + 1 }) out fun h2 z4 sb => ?_⟩
    have cell2 := (sb.2 s.heap.objs.size (Nat.ne_of_gt l1)).trans cell
    have fresh : G s.heap.objs.size = none := I.hok.fresh (Nat.le_refl _)
    have new : ObjOk X.prog X.w (upd G s.heap.objs.size (.tup [.int (k : Nat), y])) h2 s.heap.objs.size (.tup [.int (k : Nat), y]) :=
      ⟨by show 2 ≤ sizeLine; decide, [.int k tk, x], .cons ⟨_, rfl⟩ (.cons ru .nil), ⟨_, cell2, rfl, _, rfl⟩⟩
    have I2 : Inv X pins σ (upd G s.heap.objs.size (.tup [.int (k : Nat), y])) { s with heap := h2, toks := tk + 1 } :=
      I.turnedNew (ch := [e, it]) (fun b ob nb q => by
        simp only [List.mem_cons, List.not_mem_nil, or_false, not_or] at nb
        exact (sb.2 b nb.1).trans (kp b ob nb.1 nb.2 q)) fps (Nat.le_refl _) new
    refine ⟨.ref s.heap.objs.size, _, I2, rfl, ⟨_, y, rfl, fresh, rfl, fun vs hv => by rw [I.tuple_inj hv hq]; exact hy⟩, ⟨⟨x, ?_⟩, st1.1.at fun o q => (sb.2 it d1.symm).trans q, d1, d2, d3⟩, fun b hb => ?_⟩
    · rw [show ((k + 1 : Nat) : Int) = (k : Int) + 1 by omega]
      exact z4
    · have lb : b < s.heap.objs.size := by
        rcases (by simpa using hb : b = e ∨ b = it) with q | q <;> (rw [q]; assumption)
      rw [upd_ne (Nat.ne_of_lt lb)]
      exact (fps b hb).1
  done := by
    intro X hP hw hK hc k pins s σ G E I fps st hg
    subst hP hw hK
    obtain ⟨⟨old, z1⟩, z2, d1, d2, d3⟩ := st
    obtain ⟨ws, hq, hl⟩ := hg
    obtain ⟨its, rv, pl, _⟩ := I.tuple hq
    have le := rv.length
    obtain ⟨f0, f1, f2, f3, f4, f5⟩ := fps it (by simp)
    have hT : s.TypeIs (.ref e) "enumerate" := ⟨_, z1, rfl⟩
    unfold pyNext
    refine wpAny_bind (wpAny_attempt (wpAny_callSpecial?_slot (name := Str.ofString "__next__") hT F.slot_enumerate_next (wpAny_call_entry F.slot_enumerate_next hT F.entry_enumerate_next ?_ (F.args_enumerate_next_1 _))))
    show wpAny _ _ (field (.ref e) 2 >>= _) _ _ _
    refine wpAny_bind (wpAny_field z1 rfl (x := .ref it) rfl ?_)
    refine wpAny_bind (wpAny_nextOf_tuple_end (in1_handled (I.ok.hd hc)) z2 (show s.heap.IsTuple a its.toArray from pl) (by simp; omega) fun h1 x eb hx => ?_)
    obtain ⟨o, ho, hcl⟩ := hx
    refine wpAny_bind (wpAny_isInstance (T := "StopIteration") (b := true) ⟨o, ho, hcl⟩ isSubtype_stop ?_)
    exact wpAny_pure ⟨rfl, I.turned (t' := s.toks) (fun b o nb q => eb b o nb q) f0 f1 f3 f4 f5⟩
  self := fun A k s Q E st h => by
    obtain ⟨⟨_, z1⟩, _⟩ := st
    exact wpAny_pyIter_enum z1 h
/-- what enumerate(v) makes: the iterator of v, and its own cell -/
theorem meets_enum1 {v : Value} {o : Obj} {Hh : Heap → Prop} (B : Begins v o Hh) : Meets (Builtin.«enumerate.__new__» ⟨[.type "enumerate", v], []⟩) (fun _ R s => Hh s.heap ∧
    R (.ok (.ret (.ref (s.heap.push o).objs.size))) { s with heap := (s.heap.push o).push { cls := .type "enumerate", data := .fields #[.none, .bool false, .ref s.heap.objs.size, rawInt 0, .none, .none] } }) :=
  .of_wp fun prog w A R s h => by
    obtain ⟨hp, gn, dr, tk, os⟩ := s
    obtain ⟨h1, h⟩ := h
    have hsub := sub_enumerate
    have itr : ∀ {A2 : Around} {E2 : Value → Shared → Prop} {Q2 : Value → Shared → Prop}, Q2 (.ref hp.objs.size) ⟨hp.push o, gn, dr, tk, os⟩ → wpAny (model prog w) A2 (pyIter v) Q2 E2 ⟨hp, gn, dr, tk, os⟩ := fun q => B.iter prog w _ _ ⟨hp, gn, dr, tk, os⟩ _ h1 q
    wp_walk using itr
    refine wpAny_stack_any fun st => wpAny_pure ?_
    split
    · rename_i c _ _ _ _ _
      cases (c == Value.type "enumerate") <;> (wp_walk using itr; exact ⟨_, rfl, h⟩)
    · wp_walk using itr
      exact ⟨_, rfl, h⟩
section
variable {prog : Program} {w : World} {A : Around} {E : Value → Shared → Prop} {s : Shared}
theorem call_enumT {t : Addr} {items : Array Value} {Q : Value → Shared → Prop} (hT : s.heap.IsTuple t items)
    (h : ∀ h1, IsEnum h1 (s.heap.objs.size + 1) s.heap.objs.size 0 .none → h1.IsTupleIter s.heap.objs.size t 0 → (∀ b o, s.heap.get? b = some o → h1.get? b = some o) → Q (.ref (s.heap.objs.size + 1)) { s with heap := h1 }) :
    wpAny (model prog w) A (call (.type "enumerate") [.ref t]) Q E s := by
  refine callType_new F.called_enumerate (by decide) (F.typeCall_enumerate_1 _) (F.newCall_enumerate_1 _) (fun obj => F.args_object_init_2 obj _) F.entry_enumerate_new (meets_enum1 (begins_tuple t items)) ⟨hT, ?_⟩
  have z : (s.heap.push { cls := .type "tuple_iterator", data := .fields #[.ref t, .int 0 0] }).objs.size = s.heap.objs.size + 1 := Heap.size_push ..
  show _ ∧ _
  rw [z]
  have z1 : IsEnum ((s.heap.push { cls := .type "tuple_iterator", data := .fields #[.ref t, .int 0 0] }).push { cls := .type "enumerate", data := .fields #[.none, .bool false, .ref s.heap.objs.size, rawInt 0, .none, .none] }) (s.heap.objs.size + 1) s.heap.objs.size 0 .none := by
    have q := Heap.get?_push_size (s.heap.push { cls := .type "tuple_iterator", data := .fields #[.ref t, .int 0 0] }) (o := { cls := .type "enumerate", data := .fields #[.none, .bool false, .ref s.heap.objs.size, rawInt 0, .none, .none] }) rfl
    rw [z] at q
    exact q
  exact ⟨⟨_, z1, rfl⟩, h _ z1 ⟨_, Heap.get?_push_of_some _ (Heap.get?_push_size _ rfl), rfl, rfl⟩ fun b o y => Heap.get?_push_of_some _ (Heap.get?_push_of_some _ y)⟩
end
theorem iok_enumT {K : PySem.W.Frag} {F : Hp} {a : Addr} {vs : List V} {ds : List PyData} (ha : F a = some (.tup vs)) (h : DqAll F vs ds) : IOk F (Iten K a) (enumD 0 ds) where
  go := fun i H hi s => by
    rw [enumD_len] at hi
    exact ⟨vs, vs[i]'(by rw [dps_len h]; exact hi), .of (s _ _ ha), List.getElem?_eq_getElem _⟩
  stop := fun H s => ⟨vs, .of (s _ _ ha), by rw [enumD_len, dps_len h]; exact Nat.le_refl _⟩
  yld := fun i H x H' G hi s1 s2 y => by
    rw [enumD_len] at hi
    obtain ⟨T, u, e, nT, e', y⟩ := y
    subst e e'
    obtain ⟨v, e1, e2⟩ := dps_get h (List.getElem?_eq_getElem hi)
    have e3 := y vs (.of (s2 _ _ (s1 _ _ ha)))
    rw [e1] at e3
    have e4 : v = u := Option.some.inj e3
    subst e4
    have g := Grow.new (o := .tup [.int (i : Nat), v]) s2 nT
    refine ⟨_, _, enumD_get ds 0 i _ (List.getElem?_eq_getElem hi), g, .tup upd_same (.cons ?_ (.cons (dp_mono g.ff _ _ (dp_mono s1 _ _ e2)) .nil))⟩
    rw [Nat.zero_add]
    exact .int _
/-- enumerate of a list or of a tuple -/
def enumOfB : List PyData → Option (List PyData)
  | [.list xs] => some (enumD 0 xs)
  | [.tuple xs] => some (enumD 0 xs)
  | _ => none
def iEnB (f : Dn (List PyData)) : Dn (List PyData) := bnd f fun ds => lft (enumOfB ds)
def tEn (K : PySem.W.Frag) (ta : L2.TA) : L2.TI := fun σ H R => ta σ H fun vs H1 => ∃ a xs, vs = [V.ref a] ∧ ((SqL K H1 a xs ∧ R (Ite K a) H1) ∨ (SqT K H1 a xs ∧ R (Iten K a) H1))
theorem pi_enumB {X : Cx} {e : Expr} {ta : TA} {p pos tpos : Pos} {elts : List Expr} {kk : Nat} (hg : Gl X "enumerate") (hm : X.mg "enumerate" = none) (ha : PA X [e] ta) (hs : starEach [e] X.env = [(false, eval e X.env)] := by rfl) :
    PI X (.Tuple elts kk tpos) (.Call (.Name "enumerate" p) [e] [] pos) (tEn X.K ta) := by
  refine ⟨fun pins s σ H R I h => Call_ (ld_blt I hg hm boot_enumerate (PyProof.Rows.callWith_type1 (thn (ha.run pos pins s σ H _ I h) fun us s1 ⟨vs, H1, I1, r1, q1⟩ => ?_) hs rfl))⟩
  obtain ⟨a, xs, rfl, q⟩ := q1
  cases r1 with
  | cons r rr =>
    cases rr
    cases r
    rcases q with ⟨hq, q⟩ | ⟨hq, q⟩
    · obtain ⟨its, rv, pl, _⟩ := I1.list hq
      refine call_enumerate_list pl.isList fun h1 z1 z2 _ kp => wpAny_pyIter_enum z1 ?_
      have I2 : Inv X pins σ H1 { s1 with heap := h1 } := I1.kept (t' := s1.toks) kp
      refine ⟨s1.heap.objs.size + 1, [s1.heap.objs.size + 1, s1.heap.objs.size], _, _, H1, rfl, I2, turn_enum a (s1.heap.objs.size + 1) s1.heap.objs.size, ⟨⟨.none, z1⟩, z2, Nat.succ_ne_self _⟩, fun b hb => ?_, q⟩
      have le : s1.heap.objs.size ≤ b := by
        rcases (by simpa using hb : b = s1.heap.objs.size + 1 ∨ b = s1.heap.objs.size) with z | z <;> rw [z] <;> first | exact Nat.le_add_right _ _ | exact Nat.le_refl _
      exact I1.fpOk le (I1.hok.fresh le)
    · obtain ⟨its, rv, pl, _⟩ := I1.tuple hq
      have pl' : s1.heap.IsTuple a its.toArray := pl
      have la : a < s1.heap.objs.size := by obtain ⟨o, ho, _⟩ := pl'; exact Heap.lt_size ho
      refine call_enumT pl' fun h1 z1 z2 kp => wpAny_pyIter_enum z1 ?_
      have I2 : Inv X pins σ H1 { s1 with heap := h1 } := I1.kept (t' := s1.toks) kp
      refine ⟨s1.heap.objs.size + 1, [s1.heap.objs.size + 1, s1.heap.objs.size], _, _, H1, rfl, I2, turn_enumT a (s1.heap.objs.size + 1) s1.heap.objs.size, ⟨⟨.none, z1⟩, z2, Nat.succ_ne_self _, Nat.ne_of_lt la, Nat.ne_of_lt (Nat.lt_succ_of_lt la)⟩, fun b hb => ?_, q⟩
      have le : s1.heap.objs.size ≤ b := by
        rcases (by simpa using hb : b = s1.heap.objs.size + 1 ∨ b = s1.heap.objs.size) with z | z <;> rw [z] <;> first | exact Nat.le_add_right _ _ | exact Nat.le_refl _
      exact I1.fpOk le (I1.hok.fresh le)
theorem gi_enumB {X : Cx} {E : XK} {e : Expr} {p pos tpos : Pos} {elts : List Expr} {kk : Nat} {f : Dn (List PyData)} (hg : Gl X "enumerate") (hm : X.mg "enumerate" = none) (ha : PA X [e] (tDs X.K X.mg E f)) (hs : starEach [e] X.env = [(false, eval e X.env)] := by rfl) :
    PI X (.Tuple elts kk tpos) (.Call (.Name "enumerate" p) [e] [] pos) (tI X.K X.mg E (iEnB f)) :=
  pi_wk (pi_enumB hg hm ha hs) fun σ H R ⟨ρ, F, Rl, q⟩ => ⟨ρ, F, Rl, (out_bnd (K := X.K) (F := F) q).mono fun ds ρ1 k vs F1 H1 S1 d1 => by
    obtain ⟨es, he, q2⟩ := out_lft (k _ _ _ S1)
    cases d1 with
    | nil => cases he
    | @cons v vs d ds h1 h2 =>
      cases h2 with
      | cons _ _ => cases d <;> cases he
      | nil =>
        cases h1 with
        | @lst a us xs ha hx =>
          cases he
          exact ⟨a, us, rfl, .inl ⟨.of (S1.rel.sub _ _ ha), q2 _ F1 H1 S1 (iok_enum ha hx)⟩⟩
        | @tup a us xs ha hx =>
          cases he
          exact ⟨a, us, rfl, .inr ⟨.of (S1.rel.sub _ _ ha), q2 _ F1 H1 S1 (iok_enumT ha hx)⟩⟩
        | _ => cases he⟩
end Gx

/-! G19: x, y, z = a, b, c where the last may be a list of one's own. -/
namespace Gx
open PySem PySem.Spec L2
open PyProof.Rows hiding St
theorem rok_putG {ρ ρ1 : Ev} {σ0 σ : St} {H F1 H1 : Hp} {i : Nat} {r t : Rv} {v w : V} (rr : ROk ρ σ0 H ρ1 σ F1 H1 r v) (rt : ROk ρ σ0 H ρ1 σ F1 H1 t w) (ap : ∀ (xs ys : List PyData) (p : Addr), r = .ol xs → t = .ol ys → v = .ref p → w = .ref p → False) (hl : i < σ.length) (hl2 : i < ρ1.length) : ROk ρ σ0 H (ρ1.set i r.en) (σ.set i (some v)) F1 H1 t w := by
  cases t with
  | fz d => exact rt
  | ol ys =>
    obtain ⟨p, ws, e, h1, h2, h3, h4, h5⟩ := rt
    refine ⟨p, ws, e, h1, h2, h3, h4, fun z => ?_⟩
    obtain ⟨j, hj, ej⟩ := own_ex z
    by_cases c : j = i
    · subst c
      rw [List.getElem?_set_self hl] at ej
      have ev : v = .ref p := by
        have := Option.some.inj ej
        exact Option.some.inj this
      cases r with
      | fz d =>
        rcases hj with ⟨xs, hj⟩ | ⟨xs, hj⟩ <;> (rw [List.getElem?_set_self hl2] at hj; cases hj)
      | ol xs => exact ap xs ys p rfl rfl ev e
    · rw [List.getElem?_set_ne (Ne.symm c)] at ej
      refine h5 (own_at ?_ ej)
      rcases hj with ⟨xs, hj⟩ | ⟨xs, hj⟩
      · rw [List.getElem?_set_ne (Ne.symm c)] at hj; exact .inl ⟨xs, hj⟩
      · rw [List.getElem?_set_ne (Ne.symm c)] at hj; exact .inr ⟨xs, hj⟩
section
variable {X : Cx} {E : XK} {pos : Pos}
def parL (i j l : Nat) : List Ar → Dn Fl
  | [.fz d, .fz e, c] => fun ρ => match rvA c with
    | some t => if isBl ρ[i]? || (isBl (ρ.set i (.fz d))[j]? || isBl ((ρ.set i (.fz d)).set j (.fz e))[l]?) then .st else .ok (.nx, ((ρ.set i (.fz d)).set j (.fz e)).set l t.en)
    | none => .st
  | _ => fun _ => .st
def sParL (i j l : Nat) (f : Dn (List Ar)) : Dn Fl := bnd f (parL i j l)
theorem gs_parL (i j l : Nat) {x y z : Str} {a b c : Expr} {f : Dn (List Ar)} {px py pz pt pt2 : Pos} {kt k2 : Nat} (hc : X.calm = true) (nd : X.N.Nodup) (hi : X.N[i]? = some x) (hj : X.N[j]? = some y) (hl : X.N[l]? = some z) (ij : i ≠ j) (il : i ≠ l) (jl : j ≠ l)
    (hx : List.lookup x X.env.scope.names = some .local) (hy : List.lookup y X.env.scope.names = some .local) (hz : List.lookup z X.env.scope.names = some .local) (ha : PA X [a, b, c] (tAr X.K X.mg E f)) (hs : swappedStores [.Tuple [.Name x px, .Name y py, .Name z pz] kt pt] (.Tuple [a, b, c] k2 pt2) X.env = pure (some [x, y, z]))
    (hw : swapsWithSole [.Tuple [.Name x px, .Name y py, .Name z pz] kt pt] (.Tuple [a, b, c] k2 pt2) pos.line X.env = pure false := by rfl) : PS X (.Assign [.Tuple [.Name x px, .Name y py, .Name z pz] kt pt] (.Tuple [a, b, c] k2 pt2) pos) (tS X.K X.mg E (sParL i j l f)) :=
  ps_wk (ps_par3 hc nd hi hj hl ij il jl hx hy hz ha hs hw) fun D σ H ⟨ρ, F, R, q⟩ => ⟨ρ, F, R, (out_bnd (K := X.K) (F := F) q).mono fun as ρ1 k vs F1 H1 S1 A => by
    have q2 := k _ _ _ S1
    have hlen := A.ln
    unfold parL at q2
    split at q2
    · rename_i d e c1
      match vs, hlen, A with
      | [u, v, w], _, A =>
        cases ht : rvA c1 with
        | none => simp only [ht] at q2; exact (show False from q2).elim
        | some t =>
        simp only [ht] at q2
        by_cases hp : (isBl ρ1[i]? || (isBl (ρ1.set i (.fz d))[j]? || isBl ((ρ1.set i (.fz d)).set j (.fz e))[l]?)) = true
        · rw [if_pos hp] at q2
          exact (show False from q2).elim
        · rw [if_neg hp] at q2
          simp only [Bool.or_eq_true, not_or, Bool.not_eq_true] at hp
          obtain ⟨b1, b2, b3⟩ := hp
          have r1 := rok_ar A (k := 0) rfl rfl (r := .fz d) rfl
          have r2 := rok_ar A (k := 1) rfl rfl (r := .fz e) rfl
          have r3 := rok_ar A (k := 2) rfl rfl ht
          have hl1 := (isBl_f b1).2
          have hs1 : i < σ.length := by rw [← S1.rel.ln]; exact hl1
          obtain ⟨_, S2⟩ := put_stp (P := fun _ _ => True) (E := E) (mg := X.mg) S1 r1 (by unfold put; rw [b1]; trivial)
          have r2' := rok_putG (r := .fz d) (t := .fz e) r1 r2 (fun _ _ _ e1 _ _ _ => by cases e1) hs1 hl1
          have r3' := rok_putG (r := .fz d) (t := t) r1 r3 (fun _ _ _ e1 _ _ _ => by cases e1) hs1 hl1
          have hl2 := (isBl_f b2).2
          have hs2 : j < (σ.set i (some u)).length := by rw [← S2.rel.ln]; exact hl2
          obtain ⟨_, S3⟩ := put_stp (P := fun _ _ => True) (E := E) (mg := X.mg) S2 r2' (by unfold put; rw [show isBl (ρ1.set i (Rv.en (.fz d)))[j]? = false from b2]; trivial)
          have r3'' := rok_putG (r := .fz e) (t := t) r2' r3' (fun _ _ _ e1 _ _ _ => by cases e1) hs2 hl2
          obtain ⟨_, S4⟩ := put_stp (P := fun _ _ => True) (E := E) (mg := X.mg) S3 r3'' (by unfold put; rw [show isBl ((ρ1.set i (Rv.en (.fz d))).set j (Rv.en (.fz e)))[l]? = false from b3]; trivial)
          exact ⟨u, v, w, rfl, q2 _ F1 H1 S4⟩
    · exact (show False from q2).elim⟩
end
end Gx

namespace K15
open PySem PySem.Spec L2 Gx
open PyProof.Rows hiding St
def top (i : Nat) : Stmt := PySem.Challenge.pw_hintring_k15_papers_of_what_is_held.main.body.getD i (.Pass ⟨0, 0, 0, 0⟩)
abbrev w_WRITES : List Str := ["put", "strike"]
structure Bt (mg : Str → Option Value) : Prop where
  abs : mg "abs" = none
  all : mg "all" = none
  bool : mg "bool" = none
  enumerate : mg "enumerate" = none
  int : mg "int" = none
  isinstance : mg "isinstance" = none
  len : mg "len" = none
  list : mg "list" = none
  min : mg "min" = none
  range : mg "range" = none
  reversed : mg "reversed" = none
  set : mg "set" = none
  sorted : mg "sorted" = none
  str : mg "str" = none
  tuple : mg "tuple" = none
  zip : mg "zip" = none
abbrev s_refuse : Stmt := top 7
theorem sc_refuse : FnScope ["book", "places", "moments", "numbers", "ages", "place", "moment", "number", "version"] ["book", "places", "moments", "numbers", "ages"] (defScope s_refuse) := ⟨rfl, rfl, rfl, by decide +kernel, rfl, by decide +kernel, by decide +kernel⟩
def b_refuse : Dn Fl := (sSeq (sFor (iArg 1) (hName 5) (sIf (dNotT (dChT leD ltD (dC (.int 0)) (dName 5) (dPeek 0 (dC (.int 0))))) sNever sNx))
  (sSeq (sFor (iArg 2) (hName 6) (sIf (dNotT (dChT leD leD (dC (.int 0)) (dName 6) (frz (dCall lenD (dCons (dPeek 0 (dC (.int 2))) dNil))))) sNever sNx))
  (sSeq (sFor (iArg 3) (hName 7) (sIf (dNotT (dChT leD ltD (dC (.int 0)) (dName 7) (frz (dCall lenD (dCons (dPeek 0 (dC (.int 2))) dNil))))) sNever sNx))
  (sFor (iArg 4) (hName 8) (sIf (dCmpT ltD (dName 8) (dC (.int 1))) sNever sNx)))))
def den_refuse : Den := runF 5 9 b_refuse
abbrev s_is_write : Stmt := top 8
theorem sc_is_write : FnScope ["deed"] ["deed"] (defScope s_is_write) := ⟨rfl, rfl, rfl, by decide +kernel, rfl, by decide +kernel, by decide +kernel⟩
def b_is_write : Dn Fl := (sRet (ofD (dUn (inG w_WRITES) (dPeek 0 (dC (.int 0))))))
def den_is_write : Den := runF 1 1 b_is_write
abbrev s_write_numbers : Stmt := top 9
theorem sc_write_numbers : FnScope ["deeds", "number", "deed"] ["deeds"] (defScope s_write_numbers) := ⟨rfl, rfl, rfl, by decide +kernel, rfl, by decide +kernel, by decide +kernel⟩
def b_write_numbers : Dn Fl := (sRet (dCall tupleD (dCons (frz (dComp (iEnB (dCons (dName 0) dNil)) (hTup 2 (hCons (hName 1) (hCons (hName 2) hNil))) (dTru (frz (dFn (den_is_write) (aCons (ofD (dName 2)) aNil)))) (dName 1) [1, 2])) dNil)))
def den_write_numbers : Den := runF 1 3 b_write_numbers
abbrev s_writes_from : Stmt := top 10
theorem sc_writes_from : FnScope ["deeds", "version", "number"] ["deeds", "version"] (defScope s_writes_from) := ⟨rfl, rfl, rfl, by decide +kernel, rfl, by decide +kernel, by decide +kernel⟩
def b_writes_from : Dn Fl := (sRet (dCall tupleD (dCons (frz (dComp (iSeq (frz (dFn (den_write_numbers) (aCons (ofD (dName 0)) aNil)))) (hName 2) (dCmpT geD (frz (dBin ixD (dPeek 0 (dName 2)) (dC (.int 2)))) (dName 1)) (dName 2) [2])) dNil)))
def den_writes_from : Den := runF 2 3 b_writes_from
abbrev s_mask_of : Stmt := top 12
theorem sc_mask_of : FnScope ["lot", "mask", "place"] ["lot"] (defScope s_mask_of) := ⟨rfl, rfl, rfl, by decide +kernel, rfl, by decide +kernel, by decide +kernel⟩
def b_mask_of : Dn Fl := (sSeq (sSet 1 (ofD (dC (.int 0))))
  (sSeq (sFor (iSeq (dName 0)) (hName 2) (sSet 1 (dBin borD (dName 1) (frz (dBin shlD (dC (.int 1)) (dName 2))))))
  (sRet (dMove 1))))
def den_mask_of : Den := runF 1 3 b_mask_of
abbrev s_masks_of : Stmt := top 13
theorem sc_masks_of : FnScope ["family", "lot"] ["family"] (defScope s_masks_of) := ⟨rfl, rfl, rfl, by decide +kernel, rfl, by decide +kernel, by decide +kernel⟩
def b_masks_of : Dn Fl := (sRet (dComp (iSeq (dName 0)) (hName 1) yesT (frz (dFn (den_mask_of) (aCons (ofD (dName 1)) aNil))) [1]))
def den_masks_of : Den := runF 1 2 b_masks_of
abbrev s_has_place : Stmt := top 14
theorem sc_has_place : FnScope ["mask", "place"] ["mask", "place"] (defScope s_has_place) := ⟨rfl, rfl, rfl, by decide +kernel, rfl, by decide +kernel, by decide +kernel⟩
def b_has_place : Dn Fl := (sRet (dBin eqD (frz (dBin bandD (frz (dBin shrD (dName 0) (dName 1))) (dC (.int 1)))) (dC (.int 1))))
def den_has_place : Den := runF 2 2 b_has_place
abbrev s_frozen : Stmt := top 16
theorem sc_frozen : FnScope ["value", "part"] ["value"] (defScope s_frozen) := ⟨rfl, rfl, rfl, by decide +kernel, rfl, by decide +kernel, by decide +kernel⟩
def b_frozen (self : Den) : Dn Fl := (sSeq (sIf (dTru (dUn (isi2D .lst .tup) (dName 0))) (sRet (dCall tupleD (dCons (frz (dComp (iSeq (dName 0)) (hName 1) yesT (frz (dFn self (aCons (ofD (dName 1)) aNil))) [1])) dNil))) sNx)
  (sRet (dMove 0)))
def den_frozen : Nat → Den
  | 0 => fun _ => .st
  | n + 1 => runF 1 2 (b_frozen (den_frozen n))
abbrev s_choices : Stmt := top 17
theorem sc_choices : FnScope ["items", "many", "found", "at", "rest"] ["items", "many"] (defScope s_choices) := ⟨rfl, rfl, rfl, by decide +kernel, rfl, by decide +kernel, by decide +kernel⟩
def b_choices (self : Den) : Dn Fl := (sSeq (sIf (dCmpT eqD (dName 1) (dC (.int 0))) (sRet (dLst (dCons (dTup dNil) dNil))) sNx)
  (sSeq (sSet 2 (dLst dNil))
  (sSeq (sIf (dChT ltD leD (dC (.int 0)) (dName 1) (dLenP 0)) (sFor (iRg1 (dCons (frz (dBin addD (frz (dBin subD (dLenP 0) (dName 1))) (dC (.int 1)))) dNil)) (hName 3) (sFor (iSeq (frz (dFn self (aCons (ofD (frz (dSl (dName 0) (dOn (frz (dBin addD (dName 3) (dC (.int 1))))) dOff))) (aCons (ofD (frz (dBin subD (dName 1) (dC (.int 1))))) aNil))))) (hName 4) (sApp 2 (frz (dBin addD (dTup (dCons (dPeek 0 (dName 3)) dNil)) (dName 4)))))) sNx)
  (sRet (dMove 2)))))
def den_choices : Nat → Den
  | 0 => fun _ => .st
  | n + 1 => runF 2 5 (b_choices (den_choices n))
abbrev s_mask_ahead : Stmt := top 19
theorem sc_mask_ahead : FnScope ["deed", "mask"] ["deed", "mask"] (defScope s_mask_ahead) := ⟨rfl, rfl, rfl, by decide +kernel, rfl, by decide +kernel, by decide +kernel⟩
def b_mask_ahead : Dn Fl := (sSeq (sIf (dAndT (dCmpT eqD (dPeek 0 (dC (.int 0))) (dC (.str "copy"))) (dTru (frz (dFn (den_has_place) (aCons (ofD (dName 1)) (aCons (ofD (dPeek 0 (dC (.int 3)))) aNil)))))) (sRet (dBin borD (dName 1) (frz (dBin shlD (dC (.int 1)) (dPeek 0 (dC (.int 2))))))) sNx)
  (sSeq (sIf (dCmpT eqD (dPeek 0 (dC (.int 0))) (dC (.str "lose"))) (sRet (dBin bandD (dName 1) (dUn invD (frz (dBin shlD (dC (.int 1)) (dPeek 0 (dC (.int 2)))))))) sNx)
  (sRet (dMove 1))))
def den_mask_ahead : Den := runF 2 2 b_mask_ahead
abbrev s_past_masks : Stmt := top 20
theorem sc_past_masks : FnScope ["deeds", "mask", "moment", "masks", "number"] ["deeds", "mask", "moment"] (defScope s_past_masks) := ⟨rfl, rfl, rfl, by decide +kernel, rfl, by decide +kernel, by decide +kernel⟩
def b_past_masks : Dn Fl := (sSeq (sSet 3 (dLst (dCons (dName 1) dNil)))
  (sSeq (sFor (iRv1 (dName 2)) (hName 4) (sApp 3 (frz (dFn (den_mask_ahead) (aCons (ofD (dPeek 0 (dName 4))) (aCons (ofD (dPeek 3 (dUn negD (dC (.int 1))))) aNil))))))
  (sRet (dRevL (dName 3)))))
def den_past_masks : Den := runF 3 5 b_past_masks
abbrev s_road_in : Stmt := top 21
theorem sc_road_in : FnScope ["deeds", "masks", "place", "start", "steps", "number"] ["deeds", "masks", "place", "start"] (defScope s_road_in) := ⟨rfl, rfl, rfl, by decide +kernel, rfl, by decide +kernel, by decide +kernel⟩
def b_road_in : Dn Fl := (sSeq (sSet 4 (dLst (dCons (dName 2) dNil)))
  (sSeq (sFor (iRg2 (dCons (dName 3) (dCons (frz (dBin subD (dLenP 1) (dC (.int 1)))) dNil))) (hName 5) (sIf (dNotT (dTru (frz (dFn (den_has_place) (aCons (ofD (dPeek 1 (frz (dBin addD (dName 5) (dC (.int 1)))))) (aCons (ofD (dPeek 4 (dUn negD (dC (.int 1))))) aNil)))))) (sApp 4 (frz (dBin ixD (dPeek 0 (dName 5)) (dC (.int 3))))) (sApp 4 (dPeek 4 (dUn negD (dC (.int 1)))))))
  (sRet (dCall tupleD (dCons (dName 4) dNil)))))
def den_road_in : Den := runF 4 6 b_road_in
abbrev s_masks_behind : Stmt := top 23
theorem sc_masks_behind : FnScope ["book", "some"] ["book", "some"] (defScope s_masks_behind) := ⟨rfl, rfl, rfl, by decide +kernel, rfl, by decide +kernel, by decide +kernel⟩
def b_masks_behind : Dn Fl := (sRet (dFn (den_past_masks) (aCons (ofD (dPeek 0 (dC (.int 2)))) (aCons (ofD (frz (dFn (den_mask_of) (aCons (ofD (dName 1)) aNil)))) (aCons (ofD (frz (dCall lenD (dCons (dPeek 0 (dC (.int 2))) dNil)))) aNil)))))
def den_masks_behind : Den := runF 2 2 b_masks_behind
abbrev s_first_free : Stmt := top 24
theorem sc_first_free : FnScope ["lots", "mask", "at", "lot"] ["lots", "mask"] (defScope s_first_free) := ⟨rfl, rfl, rfl, by decide +kernel, rfl, by decide +kernel, by decide +kernel⟩
def b_first_free : Dn Fl := (sSeq (sFor (iEnB (dCons (dName 0) dNil)) (hTup 2 (hCons (hName 2) (hCons (hName 3) hNil))) (sIf (dCmpT eqD (frz (dBin bandD (dName 3) (dName 1))) (dC (.int 0))) (sRet (dMove 2)) sNx))
  (sRet (ofD (dC .none))))
def den_first_free : Den := runF 2 4 b_first_free
abbrev s_offers_from : Stmt := top 25
theorem sc_offers_from : FnScope ["deeds", "version", "number"] ["deeds", "version"] (defScope s_offers_from) := ⟨rfl, rfl, rfl, by decide +kernel, rfl, by decide +kernel, by decide +kernel⟩
def b_offers_from : Dn Fl := (sRet (dComp (iSeq (frz (dFn (den_writes_from) (aCons (ofD (dName 0)) (aCons (ofD (dName 1)) aNil))))) (hName 2) yesT (dTup (dCons (dName 2) (dCons (frz (dFn (den_masks_of) (aCons (ofD (frz (dBin ixD (dPeek 0 (dName 2)) (dC (.int 4))))) aNil))) dNil))) [2]))
def den_offers_from : Den := runF 2 3 b_offers_from
abbrev s_first_held : Stmt := top 26
theorem sc_first_held : FnScope ["offers", "masks", "number", "lots"] ["offers", "masks"] (defScope s_first_held) := ⟨rfl, rfl, rfl, by decide +kernel, rfl, by decide +kernel, by decide +kernel⟩
def b_first_held : Dn Fl := (sSeq (sFor (iSeq (dName 0)) (hTup 2 (hCons (hName 2) (hCons (hName 3) hNil))) (sIf (dCmpT isND (frz (dFn (den_first_free) (aCons (ofD (dName 3)) (aCons (ofD (dPeek 1 (frz (dBin addD (dName 2) (dC (.int 1)))))) aNil)))) (dC .none)) (sRet (dMove 2)) sNx))
  (sRet (ofD (dC .none))))
def den_first_held : Den := runF 2 4 b_first_held
abbrev s_hold_paper : Stmt := top 27
theorem sc_hold_paper : FnScope ["book", "some", "version", "masks", "number", "homes", "place"] ["book", "some", "version"] (defScope s_hold_paper) := ⟨rfl, rfl, rfl, by decide +kernel, rfl, by decide +kernel, by decide +kernel⟩
def b_hold_paper : Dn Fl := (sSeq (sAsg (dTup (dCons (frz (dFn (den_frozen 7) (aCons (ofD (dName 0)) aNil))) (dCons (frz (dFn (den_frozen 7) (aCons (ofD (dName 1)) aNil))) dNil))) (hTup 2 (hCons (hName 0) (hCons (hName 1) hNil))))
  (sSeq (sDrop (frz (dFn (den_refuse) (dArD [(true, 0), (true, 1), (false, 1), (false, 2), (true, 2)] (dCons (dName 0) dNil) (dCons (dName 1) (dCons (dTup (dCons (dName 2) dNil)) dNil))))))
  (sSeq (sSet 3 (dFn (den_masks_behind) (aCons (ofD (dName 0)) (aCons (ofD (dName 1)) aNil))))
  (sSeq (sSet 4 (dFn (den_first_held) (aCons (ofD (frz (dFn (den_offers_from) (aCons (ofD (dPeek 0 (dC (.int 2)))) (aCons (ofD (dName 2)) aNil))))) (aCons (ofD (dName 3)) aNil))))
  (sSeq (sIf (dCmpT isND (dName 4) (dC .none)) (sRet (ofD (dC .none))) sNx)
  (sSeq (sSet 5 (dComp (iSeq (frz (dBin ixD (frz (dBin ixD (dPeek 0 (dC (.int 2))) (dName 4))) (dC (.int 3))))) (hName 6) (dTru (frz (dFn (den_has_place) (aCons (ofD (dPeek 3 (frz (dBin addD (dName 4) (dC (.int 1)))))) (aCons (ofD (dName 6)) aNil))))) (dName 6) [6]))
  (sRet (ofD (dTup (dCons (dName 4) (dCons (frz (dCall tupleD (dCons (frz (dComp (iSeq (dName 5)) (hName 6) yesT (frz (dFn (den_road_in) (aCons (ofD (dPeek 0 (dC (.int 2)))) (aCons (ofD (dName 3)) (aCons (ofD (dName 6)) (aCons (ofD (frz (dBin addD (dName 4) (dC (.int 1))))) aNil)))))) [6])) dNil))) dNil)))))))))))
def den_hold_paper : Den := runF 3 7 b_hold_paper
abbrev s_held_by : Stmt := top 28
theorem sc_held_by : FnScope ["book", "offers", "some", "masks", "held", "number", "lots"] ["book", "offers", "some"] (defScope s_held_by) := ⟨rfl, rfl, rfl, by decide +kernel, rfl, by decide +kernel, by decide +kernel⟩
def b_held_by : Dn Fl := (sSeq (sSet 3 (dFn (den_masks_behind) (aCons (ofD (dName 0)) (aCons (ofD (dName 2)) aNil))))
  (sSeq (sSet 4 (ofD (dC (.int 0))))
  (sSeq (sFor (iSeq (dName 1)) (hTup 2 (hCons (hName 5) (hCons (hName 6) hNil))) (sIf (dCmpT isND (frz (dFn (den_first_free) (aCons (ofD (dName 6)) (aCons (ofD (dPeek 3 (frz (dBin addD (dName 5) (dC (.int 1)))))) aNil)))) (dC .none)) (sSet 4 (dBin ixD (frz (dBin ixD (dPeek 0 (dC (.int 2))) (dName 5))) (dC (.int 2)))) sNx))
  (sRet (dMove 4)))))
def den_held_by : Den := runF 3 7 b_held_by
abbrev s_missed_versions : Stmt := top 29
theorem sc_missed_versions : FnScope ["book", "owners", "asked", "offers", "held", "some", "deed"] ["book", "owners", "asked"] (defScope s_missed_versions) := ⟨rfl, rfl, rfl, by decide +kernel, rfl, by decide +kernel, by decide +kernel⟩
def b_missed_versions : Dn Fl := (sSeq (sAsg (dTup (dCons (frz (dFn (den_frozen 7) (aCons (ofD (dName 0)) aNil))) (dCons (frz (dFn (den_frozen 7) (aCons (ofD (dName 1)) aNil))) dNil))) (hTup 2 (hCons (hName 0) (hCons (hName 1) hNil))))
  (sSeq (sDrop (frz (dFn (den_refuse) (dArD [(true, 0), (true, 1), (false, 1), (false, 2), (false, 3)] (dCons (dName 0) dNil) (dCons (dName 1) dNil)))))
  (sSeq (sSet 3 (ofD (frz (dFn (den_offers_from) (aCons (ofD (dPeek 0 (dC (.int 2)))) (aCons (ofD (dC (.int 1))) aNil))))))
  (sSeq (sAsg (frz (dComp (iSeq (frz (dFn (den_choices 8) (aCons (ofD (dName 1)) (aCons (ofD (dName 2)) aNil))))) (hName 5) yesT (frz (dFn (den_held_by) (aCons (ofD (dName 0)) (aCons (ofD (dName 3)) (aCons (ofD (dName 5)) aNil))))) [5])) (hName 4))
  (sSeq (sIf (dCmpT eqD (dLenP 4) (dC (.int 0))) (sRet (ofD (dTup dNil))) sNx)
  (sRet (dCall tupleD (dCons (frz (dComp (iSeq (dPeek 0 (dC (.int 2)))) (hName 6) (dAndT (dTru (frz (dFn (den_is_write) (aCons (ofD (dName 6)) aNil)))) (dCmpT gtD (dPeek 6 (dC (.int 2))) (frz (dCall minD (dCons (dName 4) dNil))))) (dPeek 6 (dC (.int 2))) [6])) dNil))))))))
def den_missed_versions : Den := runF 3 7 b_missed_versions
abbrev s_box : Stmt := top 31
theorem sc_box : FnScope ["script", "k", "cell"] ["script", "k"] (defScope s_box) := ⟨rfl, rfl, rfl, by decide +kernel, rfl, by decide +kernel, by decide +kernel⟩
def b_box : Dn Fl := (sSeq (sSet 2 (ofD (dIf (dCmpT ltD (dName 1) (dLenP 0)) (dPeek 0 (dName 1)) (dC (.int 0)))))
  (sRet (dLst (dCons (frz (dBin mulD (frz (dCall absD (dCons (dName 2) dNil))) (frz (dCall intD (dCons (frz (dBin geD (frz (dCall absD (dCons (dName 2) dNil))) (frz (dBin powD (dC (.int 10)) (dC (.int 18)))))) dNil))))) (dCons (frz (dBin addD (frz (dBin addD (frz (dBin modD (frz (dCall intD (dCons (dName 2) dNil))) (dC (.int 2305843009213693951)))) (frz (dBin mulD (dC (.int 39373)) (dName 1))))) (dC (.int 1940015)))) (dCons (dC (.int 0)) dNil))))))
def den_box : Den := runF 2 3 b_box
abbrev s_take : Stmt := top 32
theorem sc_take : FnScope ["tin", "below_so", "once_so", "wide_so", "twice_so", "drawn"] ["tin", "below_so"] (defScope s_take) := ⟨rfl, rfl, rfl, by decide +kernel, rfl, by decide +kernel, by decide +kernel⟩
def b_take : Dn Fl := (sSeq (sIf (dCmpT gtD (dPeek 0 (dC (.int 0))) (dC (.int 0))) (sSeq (sSet 5 (dBin modD (frz (dCall intD (dCons (dPeek 0 (dC (.int 0))) dNil))) (dName 1)))
  (sSeq (sSetIx 0 (dC (.int 0)) (frz (dBin fdivD (dPeek 0 (dC (.int 0))) (dName 1))))
  (sRet (dMove 5)))) sNx)
  (sSeq (sSetIx 0 (dC (.int 2)) (frz (dBin addD (dPeek 0 (dC (.int 2))) (dC (.int 1)))))
  (sSeq (sSet 2 (dBin modD (frz (dCall intD (dCons (frz (dBin mulD (frz (dBin addD (dPeek 0 (dC (.int 1))) (frz (dBin mulD (dC (.int 48271)) (dPeek 0 (dC (.int 2))))))) (frz (dBin addD (dC (.int 39373)) (dPeek 0 (dC (.int 2))))))) dNil))) (dC (.int 2147483647))))
  (sSeq (sSet 3 (dBin addD (frz (dBin modD (frz (dCall intD (dCons (dName 2) dNil))) (dC (.int 40009)))) (dC (.int 7))))
  (sSeq (sSet 4 (dBin modD (frz (dCall intD (dCons (frz (dBin mulD (frz (dBin addD (frz (dBin addD (dName 2) (dPeek 0 (dC (.int 2))))) (frz (dBin fdivD (dPeek 0 (dC (.int 1))) (dC (.int 1000003)))))) (dName 3))) dNil))) (dC (.int 2147483629))))
  (sRet (dBin modD (frz (dCall intD (dCons (frz (dBin fdivD (frz (dBin modD (frz (dCall intD (dCons (frz (dBin addD (frz (dBin mulD (dName 4) (dC (.int 48271)))) (dName 2))) dNil))) (dC (.int 2147483587)))) (dC (.int 64)))) dNil))) (dName 1))))))))
def den_take : Den := runF 2 6 b_take
abbrev s_cells : Stmt := top 33
theorem sc_cells : FnScope ["script", "most_so", "cells_so", "k", "cell", "at_so"] ["script", "most_so"] (defScope s_cells) := ⟨rfl, rfl, rfl, by decide +kernel, rfl, by decide +kernel, by decide +kernel⟩
def b_cells : Dn Fl := (sSeq (sSet 2 (dOr (dCall listD (dCons (frz (dSlP 0 dOff (dOn (dName 1)))) dNil)) (dLst (dCons (dC (.int 0)) dNil))))
  (sSeq (sFor (iEnB (dCons (frz (dSlP 0 (dOn (dName 1)) (dOn (dC (.int 63))))) dNil)) (hTup 2 (hCons (hName 3) (hCons (hName 4) hNil))) (sSeq (sSet 5 (dBin modD (frz (dCall intD (dCons (dName 3) dNil))) (dName 1)))
  (sSetIx 2 (dName 5) (frz (dBin addD (dPeek 2 (dName 5)) (frz (dBin mulD (dName 4) (frz (dBin addD (dName 3) (dC (.int 2)))))))))))
  (sRet (dMove 2))))
def den_cells : Den := runF 2 6 b_cells
abbrev s_of : Stmt := top 34
theorem sc_of : FnScope ["tin", "goods_so"] ["tin", "goods_so"] (defScope s_of) := ⟨rfl, rfl, rfl, by decide +kernel, rfl, by decide +kernel, by decide +kernel⟩
def b_of : Dn Fl := (sRet (ofD (dPeek 1 (frz (dFn (den_take) (aLend 0 (aCons (ofD (dLenP 1)) aNil)))))))
def den_of : Den := runF 2 2 b_of
abbrev s_pick : Stmt := top 35
theorem sc_pick : FnScope ["tin", "goods_so", "count_so", "lap", "pool_so", "found"] ["tin", "goods_so", "count_so"] (defScope s_pick) := ⟨rfl, rfl, rfl, by decide +kernel, rfl, by decide +kernel, by decide +kernel⟩
def b_pick : Dn Fl := (sSeq (sParA 4 5 (aCons (dCall listD (dCons (dName 1) dNil)) (aCons (dLst dNil) aNil)))
  (sSeq (sFor (iRg1 (dCons (frz (dCall minD (dCons (frz (dCall intD (dCons (dName 2) dNil))) (dCons (dLenP 4) dNil)))) dNil)) (hName 3) (sApp 5 (dPopAt 4 (frz (dFn (den_take) (aLend 0 (aCons (ofD (dLenP 4)) aNil)))))))
  (sRet (dMove 5))))
def den_pick : Den := runF 3 6 b_pick
abbrev s_lists : Stmt := top 36
theorem sc_lists : FnScope ["matter", "bit"] ["matter"] (defScope s_lists) := ⟨rfl, rfl, rfl, by decide +kernel, rfl, by decide +kernel, by decide +kernel⟩
def b_lists (self : Den) : Dn Fl := (sRet (ofD (dIf (dTru (dUn (isi2D .lst .tup) (dName 0))) (frz (dComp (iSeq (dName 0)) (hName 1) yesT (frz (dFn self (aCons (ofD (dName 1)) aNil))) [1])) (dName 0))))
def den_lists : Nat → Den
  | 0 => fun _ => .st
  | n + 1 => runF 1 2 (b_lists (den_lists n))
abbrev s_same : Stmt := top 37
theorem sc_same : FnScope ["got", "due", "mine", "its"] ["got", "due"] (defScope s_same) := ⟨rfl, rfl, rfl, by decide +kernel, rfl, by decide +kernel, by decide +kernel⟩
def b_same (self : Den) : Dn Fl := (sSeq (sIf (dTru (dUn (isi2D .lst .tup) (dName 1))) (sSeq (sIf (dOrT (dCmpT neD (dUn (isiD .lst) (dName 0)) (dUn (isiD .lst) (dName 1))) (dCmpT neD (dUn (isiD .tup) (dName 0)) (dUn (isiD .tup) (dName 1)))) (sRet (ofD (dC (.bool false)))) sNx)
  (sRet (ofD (dAnd (frz (dBin eqD (dLenP 0) (dLenP 1))) (frz (dCall allD (dCons (frz (dComp (iZp (dCons (dName 0) (dCons (dName 1) dNil))) (hTup 2 (hCons (hName 2) (hCons (hName 3) hNil))) yesT (frz (dFn self (aCons (ofD (dName 2)) (aCons (ofD (dName 3)) aNil)))) [2, 3])) dNil))))))) sNx)
  (sSeq (sIf (dOrT (dCmpT isND (dName 1) (dC .none)) (dTru (dUn (isi2D .bl .str) (dName 1)))) (sRet (ofD (dAnd (frz (dBin eqD (dName 0) (dName 1))) (dAnd (frz (dBin eqD (dUn (isiD .bl) (dName 0)) (dUn (isiD .bl) (dName 1)))) (frz (dBin eqD (frz (dBin isND (dName 0) (dC .none))) (frz (dBin isND (dName 1) (dC .none))))))))) sNx)
  (sRet (ofD (dAnd (dUn (isiD .int) (dName 0)) (dAnd (dNot (dUn (isiD .bl) (dName 0))) (frz (dBin eqD (dName 0) (dName 1)))))))))
def den_same : Nat → Den
  | 0 => fun _ => .st
  | n + 1 => runF 2 4 (b_same (den_same n))
abbrev s_lots : Stmt := top 38
theorem sc_lots : FnScope ["goods_so", "found", "own", "its"] ["goods_so"] (defScope s_lots) := ⟨rfl, rfl, rfl, by decide +kernel, rfl, by decide +kernel, by decide +kernel⟩
def b_lots : Dn Fl := (sSeq (sSet 1 (dLst (dCons (dTup dNil) dNil)))
  (sSeq (sFor (iSeq (dName 0)) (hName 2) (sSet 1 (dBin addD (dName 1) (frz (dComp (iSeq (dName 1)) (hName 3) yesT (frz (dBin addD (dName 3) (dTup (dCons (dName 2) dNil)))) [3])))))
  (sRet (dCall sort2D (dCons (dName 1) dNil)))))
def den_lots : Den := runF 1 4 b_lots
abbrev s_counted : Stmt := top 39
theorem sc_counted : FnScope ["goods_so", "need_so", "crew"] ["goods_so", "need_so"] (defScope s_counted) := ⟨rfl, rfl, rfl, by decide +kernel, rfl, by decide +kernel, by decide +kernel⟩
def b_counted : Dn Fl := (sRet (dComp (iSeq (frz (dFn (den_lots) (aCons (ofD (dName 0)) aNil)))) (hName 2) (dCmpT eqD (dLenP 2) (dName 1)) (dName 2) [2]))
def den_counted : Den := runF 2 3 b_counted
abbrev s_within : Stmt := top 40
theorem sc_within : FnScope ["crew", "wide_so", "j"] ["crew", "wide_so"] (defScope s_within) := ⟨rfl, rfl, rfl, by decide +kernel, rfl, by decide +kernel, by decide +kernel⟩
def b_within : Dn Fl := (sRet (dBin eqD (frz (dComp (iSeq (dName 0)) (hName 2) (dCmpT notInD (dName 2) (dName 1)) (dName 2) [2])) (frz (dLst dNil))))
def den_within : Den := runF 2 3 b_within
abbrev s_apart : Stmt := top 41
theorem sc_apart : FnScope ["crew", "wide_so", "j"] ["crew", "wide_so"] (defScope s_apart) := ⟨rfl, rfl, rfl, by decide +kernel, rfl, by decide +kernel, by decide +kernel⟩
def b_apart : Dn Fl := (sRet (dBin eqD (frz (dComp (iSeq (dName 0)) (hName 2) (dCmpT inD (dName 2) (dName 1)) (dName 2) [2])) (frz (dLst dNil))))
def den_apart : Den := runF 2 3 b_apart
abbrev s_least : Stmt := top 42
theorem sc_least : FnScope ["lots_so", "found", "crew", "its"] ["lots_so"] (defScope s_least) := ⟨rfl, rfl, rfl, by decide +kernel, rfl, by decide +kernel, by decide +kernel⟩
def b_least : Dn Fl := (sSeq (sSet 1 (dLst dNil))
  (sSeq (sFor (iSeq (frz (dCall setSortD (dCons (dName 0) dNil)))) (hName 2) (sIf (dCmpT eqD (frz (dComp (iSeq (dName 0)) (hName 3) (dAndT (dCmpT neD (dName 3) (dName 2)) (dTru (frz (dFn (den_within) (aCons (ofD (dName 3)) (aCons (ofD (dName 2)) aNil)))))) (dC (.int 1)) [3])) (frz (dLst dNil))) (sApp 1 (dName 2)) sNx))
  (sRet (dCall tupleD (dCons (dName 1) dNil)))))
def den_least : Den := runF 1 4 b_least
abbrev s_room : Stmt := top 43
theorem sc_room : FnScope ["kin_so", "crew", "its"] ["kin_so", "crew"] (defScope s_room) := ⟨rfl, rfl, rfl, by decide +kernel, rfl, by decide +kernel, by decide +kernel⟩
def b_room : Dn Fl := (sRet (dBin neD (frz (dComp (iSeq (dName 0)) (hName 2) (dTru (frz (dFn (den_apart) (aCons (ofD (dName 2)) (aCons (ofD (dName 1)) aNil))))) (dC (.int 1)) [2])) (frz (dLst dNil))))
def den_room : Den := runF 2 3 b_room
abbrev s_kin : Stmt := top 44
theorem sc_kin : FnScope ["tin", "homes_so", "lots_so", "kind_so", "need_so", "crew"] ["tin", "homes_so"] (defScope s_kin) := ⟨rfl, rfl, rfl, by decide +kernel, rfl, by decide +kernel, by decide +kernel⟩
def b_kin : Dn Fl := (sSeq (sPar [3, 4] (dCons (frz (dFn (den_take) (aLend 0 (aCons (ofD (dC (.int 3))) aNil)))) (dCons (frz (dBin addD (dC (.int 1)) (frz (dFn (den_take) (aLend 0 (aCons (ofD (dLenP 1)) aNil)))))) dNil)))
  (sSeq (sIf (dCmpT gtD (dName 3) (dC (.int 0))) (sRet (dCall tupleD (dCons (frz (dFn (den_counted) (aCons (ofD (dName 1)) (aCons (ofD (dName 4)) aNil)))) dNil))) sNx)
  (sSeq (sSet 2 (dComp (iSeq (frz (dFn (den_lots) (aCons (ofD (dName 1)) aNil)))) (hName 5) (dCmpT neD (dName 5) (dTup dNil)) (dName 5) [5]))
  (sRet (dFn (den_least) (aCons (ofD (frz (dFn (den_pick) (aLend 0 (aCons (ofD (dName 2)) (aCons (ofD (frz (dBin addD (dC (.int 1)) (frz (dFn (den_take) (aLend 0 (aCons (ofD (dC (.int 2))) aNil))))))) aNil)))))) aNil))))))
def den_kin : Den := runF 2 6 b_kin
abbrev s_deed : Stmt := top 45
theorem sc_deed : FnScope ["tin", "many_so", "word_so", "tick_so", "rank_so", "spots_so", "pair_so", "homes_so"] ["tin", "many_so", "word_so", "tick_so", "rank_so"] (defScope s_deed) := ⟨rfl, rfl, rfl, by decide +kernel, rfl, by decide +kernel, by decide +kernel⟩
def b_deed : Dn Fl := (sSeq (sSet 5 (dR1 (rg1X false) (dName 1)))
  (sSeq (sIf (dCmpT inW (dName 2) (dTup (dCons (dC (.str "put")) (dCons (dC (.str "strike")) dNil)))) (sSeq (sSet 7 (dCall tupleD (dCons (frz (dCall sort2D (dCons (frz (dFn (den_pick) (aLend 0 (aCons (ofD (dName 5)) (aCons (ofD (frz (dBin addD (dC (.int 1)) (frz (dFn (den_take) (aLend 0 (aCons (ofD (dName 1)) aNil))))))) aNil))))) dNil))) dNil)))
  (sRet (ofD (dTup (dCons (dName 2) (dCons (dName 3) (dCons (dName 4) (dCons (dName 7) (dCons (frz (dFn (den_kin) (aLend 0 (aCons (ofD (dName 7)) aNil)))) dNil))))))))) sNx)
  (sSeq (sIf (dCmpT eqD (dName 2) (dC (.str "wait"))) (sRet (ofD (dTup (dCons (dName 2) (dCons (dName 3) dNil))))) sNx)
  (sSeq (sSet 6 (dFn (den_pick) (aLend 0 (aCons (ofD (dName 5)) (aCons (ofD (dC (.int 2))) aNil)))))
  (sSeq (sIf (dCmpT eqD (dName 2) (dC (.str "lose"))) (sRet (ofD (dTup (dCons (dName 2) (dCons (dName 3) (dCons (dPeek 6 (dC (.int 0))) dNil)))))) sNx)
  (sRet (ofD (dTup (dCons (dName 2) (dCons (dName 3) (dCons (dPeek 6 (dC (.int 0))) (dCons (dPeek 6 (dC (.int 1))) dNil))))))))))))
def den_deed : Den := runF 5 8 b_deed
abbrev s_leaf : Stmt := top 46
theorem sc_leaf : FnScope ["tin", "many_so", "size_so", "most_so", "lap", "words_so", "page_so", "tick_so", "rank_so", "left_so", "word_so", "kind_so"] ["tin", "many_so", "size_so", "most_so"] (defScope s_leaf) := ⟨rfl, rfl, rfl, by decide +kernel, rfl, by decide +kernel, by decide +kernel⟩
def b_leaf : Dn Fl := (sSeq (sParA 5 6 (aCons (dLst (dCons (dC (.str "put")) (dCons (dC (.str "put")) (dCons (dC (.str "put")) (dCons (dC (.str "strike")) (dCons (dC (.str "copy")) (dCons (dC (.str "copy")) (dCons (dC (.str "copy")) (dCons (dC (.str "send")) (dCons (dC (.str "send")) (dCons (dC (.str "lose")) (dCons (dC (.str "wait")) dNil)))))))))))) (aCons (dLst dNil) aNil)))
  (sSeq (sParL 7 8 9 (aCons (ofD (dC (.int 0))) (aCons (ofD (dC (.int 0))) (aCons (dCall listD (dCons (dName 3) dNil)) aNil))))
  (sSeq (sFor (iRg1 (dCons (dName 2) dNil)) (hName 4) (sSeq (sSet 10 (ofD (dIf (dOrT (dCmpT gtD (dName 4) (dC (.int 0))) (dCmpT eqD (frz (dFn (den_take) (aLend 0 (aCons (ofD (dC (.int 4))) aNil)))) (dC (.int 0)))) (frz (dFn (den_of) (aLend 0 (aCons (ofD (dName 5)) aNil)))) (dC (.str "put")))))
  (sSeq (sSet 11 (ofD (dIf (dCmpT inW (dName 10) (dTup (dCons (dC (.str "put")) (dCons (dC (.str "strike")) dNil)))) (dC (.int 0)) (dIf (dCmpT eqD (dName 10) (dC (.str "send"))) (dC (.int 1)) (dC (.int 2))))))
  (sSeq (sIf (dAndT (dCmpT ltD (dName 11) (dC (.int 2))) (dCmpT eqD (dPeek 9 (dName 11)) (dC (.int 0)))) (sSet 10 (ofD (dC (.str "copy")))) sNx)
  (sSeq (sIf (dAndT (dCmpT ltD (dName 11) (dC (.int 2))) (dCmpT gtD (dPeek 9 (dName 11)) (dC (.int 0)))) (sSetIx 9 (dName 11) (frz (dBin subD (dPeek 9 (dName 11)) (dC (.int 1))))) sNx)
  (sSeq (sSet 7 (dBin addD (dName 7) (frz (dFn (den_of) (aLend 0 (aCons (ofD (frz (dLst (dCons (dC (.int 0)) (dCons (dC (.int 1)) (dCons (dC (.int 1)) (dCons (dC (.int 2)) dNil))))))) aNil))))))
  (sSeq (sSet 8 (dBin addD (frz (dBin addD (dName 8) (dC (.int 1)))) (frz (dCall intD (dCons (frz (dBin eqD (frz (dFn (den_take) (aLend 0 (aCons (ofD (dC (.int 3))) aNil)))) (dC (.int 0)))) dNil)))))
  (sApp 6 (frz (dFn (den_deed) (aLend 0 (aCons (ofD (dName 1)) (aCons (ofD (dName 10)) (aCons (ofD (dName 7)) (aCons (ofD (dName 8)) aNil)))))))))))))))
  (sRet (ofD (dTup (dCons (dName 1) (dCons (frz (dFn (den_of) (aLend 0 (aCons (ofD (frz (dLst (dCons (dC (.int 0)) (dCons (dC (.int 1)) (dCons (dC (.int 2)) (dCons (dC (.int 3)) (dCons (dC (.int 9)) dNil)))))))) aNil)))) (dCons (frz (dCall tupleD (dCons (dName 6) dNil))) dNil)))))))))
def den_leaf : Den := runF 4 12 b_leaf
abbrev s_law_is_write : Stmt := top 47
theorem sc_law_is_write : FnScope ["deed_so"] ["deed_so"] (defScope s_law_is_write) := ⟨rfl, rfl, rfl, by decide +kernel, rfl, by decide +kernel, by decide +kernel⟩
def b_law_is_write : Dn Fl := (sRet (dBin inW (dPeek 0 (dC (.int 0))) (dTup (dCons (dC (.str "put")) (dCons (dC (.str "strike")) dNil)))))
def den_law_is_write : Den := runF 1 1 b_law_is_write
abbrev s_writes : Stmt := top 48
theorem sc_writes : FnScope ["leaf", "n", "deed_so"] ["leaf"] (defScope s_writes) := ⟨rfl, rfl, rfl, by decide +kernel, rfl, by decide +kernel, by decide +kernel⟩
def b_writes : Dn Fl := (sRet (dComp (iEnB (dCons (dPeek 0 (dC (.int 2))) dNil)) (hTup 2 (hCons (hName 1) (hCons (hName 2) hNil))) (dTru (frz (dFn (den_law_is_write) (aCons (ofD (dName 2)) aNil)))) (dName 1) [1, 2]))
def den_writes : Den := runF 1 3 b_writes
abbrev s_past : Stmt := top 49
theorem sc_past : FnScope ["leaf", "crew", "hour_so", "found", "n", "deed_so", "here", "j"] ["leaf", "crew", "hour_so"] (defScope s_past) := ⟨rfl, rfl, rfl, by decide +kernel, rfl, by decide +kernel, by decide +kernel⟩
def b_past : Dn Fl := (sSeq (sSet 3 (dLst (dCons (frz (dCall tupleD (dCons (dName 1) dNil))) dNil)))
  (sSeq (sFor (iRg3 (dCons (frz (dBin subD (dName 2) (dC (.int 1)))) (dCons (dUn negD (dC (.int 1))) (dCons (dUn negD (dC (.int 1))) dNil)))) (hName 4) (sSeq (sAsg (dTup (dCons (frz (dBin ixD (dPeek 0 (dC (.int 2))) (dName 4))) (dCons (dPeek 3 (dC (.int 0))) dNil))) (hTup 2 (hCons (hName 5) (hCons (hName 6) hNil))))
  (sSeq (sIf (dAndT (dCmpT eqD (dPeek 5 (dC (.int 0))) (dC (.str "copy"))) (dCmpT inD (dPeek 5 (dC (.int 3))) (dName 6))) (sSet 6 (dCall tupleD (dCons (frz (dCall setSortD (dCons (frz (dBin addD (dName 6) (dTup (dCons (dPeek 5 (dC (.int 2))) dNil)))) dNil))) dNil))) sNx)
  (sSeq (sIf (dCmpT eqD (dPeek 5 (dC (.int 0))) (dC (.str "lose"))) (sSet 6 (dCall tupleD (dCons (frz (dComp (iSeq (dName 6)) (hName 7) (dCmpT neD (dName 7) (dPeek 5 (dC (.int 2)))) (dName 7) [7])) dNil))) sNx)
  (sSet 3 (dBin addD (frz (dLst (dCons (dName 6) dNil))) (dName 3)))))))
  (sRet (dMove 3))))
def den_past : Den := runF 3 8 b_past
abbrev s_misses : Stmt := top 50
theorem sc_misses : FnScope ["leaf", "crew", "rank_so", "trail_so", "later_so", "n"] ["leaf", "crew", "rank_so"] (defScope s_misses) := ⟨rfl, rfl, rfl, by decide +kernel, rfl, by decide +kernel, by decide +kernel⟩
def b_misses : Dn Fl := (sSeq (sSet 3 (dFn (den_past) (aCons (ofD (dName 0)) (aCons (ofD (dName 1)) (aCons (ofD (frz (dCall lenD (dCons (dPeek 0 (dC (.int 2))) dNil)))) aNil)))))
  (sSeq (sSet 4 (dComp (iSeq (frz (dFn (den_writes) (aCons (ofD (dName 0)) aNil)))) (hName 5) (dCmpT geD (frz (dBin ixD (frz (dBin ixD (dPeek 0 (dC (.int 2))) (dName 5))) (dC (.int 2)))) (dName 2)) (dName 5) [5]))
  (sRet (dBin eqD (frz (dComp (iSeq (dName 4)) (hName 5) (dNotT (dTru (frz (dFn (den_room) (aCons (ofD (frz (dBin ixD (frz (dBin ixD (dPeek 0 (dC (.int 2))) (dName 5))) (dC (.int 4))))) (aCons (ofD (dPeek 3 (frz (dBin addD (dName 5) (dC (.int 1)))))) aNil)))))) (dName 5) [5])) (frz (dLst dNil))))))
def den_misses : Den := runF 3 6 b_misses
abbrev s_two_of : Stmt := top 51
theorem sc_two_of : FnScope [] [] (defScope s_two_of) := ⟨rfl, rfl, rfl, by decide +kernel, rfl, by decide +kernel, by decide +kernel⟩
@[irreducible] def b_two_of : Dn Fl := (sRet (ofD (dTup (dCons (dTup (dCons (dC (.int 0)) (dCons (dC (.int 1)) dNil))) (dCons (dTup (dCons (dC (.int 0)) (dCons (dC (.int 2)) dNil))) (dCons (dTup (dCons (dC (.int 1)) (dCons (dC (.int 2)) dNil))) dNil))))))
theorem eq_two_of : b_two_of = (sRet (ofD (dTup (dCons (dTup (dCons (dC (.int 0)) (dCons (dC (.int 1)) dNil))) (dCons (dTup (dCons (dC (.int 0)) (dCons (dC (.int 2)) dNil))) (dCons (dTup (dCons (dC (.int 1)) (dCons (dC (.int 2)) dNil))) dNil)))))) := by delta b_two_of; rfl
def den_two_of : Den := runF 0 0 b_two_of
abbrev s_plain_one : Stmt := top 52
theorem sc_plain_one : FnScope [] [] (defScope s_plain_one) := ⟨rfl, rfl, rfl, by decide +kernel, rfl, by decide +kernel, by decide +kernel⟩
@[irreducible] def b_plain_one : Dn Fl := (sRet (ofD (dTup (dCons (dC (.int 3)) (dCons (dC (.int 2)) (dCons (dTup (dCons (dTup (dCons (dC (.str "put")) (dCons (dC (.int 0)) (dCons (dC (.int 1)) (dCons (dTup (dCons (dC (.int 0)) (dCons (dC (.int 1)) (dCons (dC (.int 2)) dNil)))) (dCons (frz (dFn0 (den_two_of))) dNil)))))) dNil)) dNil))))))
theorem eq_plain_one : b_plain_one = (sRet (ofD (dTup (dCons (dC (.int 3)) (dCons (dC (.int 2)) (dCons (dTup (dCons (dTup (dCons (dC (.str "put")) (dCons (dC (.int 0)) (dCons (dC (.int 1)) (dCons (dTup (dCons (dC (.int 0)) (dCons (dC (.int 1)) (dCons (dC (.int 2)) dNil)))) (dCons (frz (dFn0 (den_two_of))) dNil)))))) dNil)) dNil)))))) := by delta b_plain_one; rfl
def den_plain_one : Den := runF 0 0 b_plain_one
abbrev s_fallen : Stmt := top 53
theorem sc_fallen : FnScope [] [] (defScope s_fallen) := ⟨rfl, rfl, rfl, by decide +kernel, rfl, by decide +kernel, by decide +kernel⟩
@[irreducible] def b_fallen : Dn Fl := (sRet (ofD (dTup (dCons (dC (.int 3)) (dCons (dC (.int 2)) (dCons (frz (dBin addD (frz (dBin ixD (frz (dFn0 (den_plain_one))) (dC (.int 2)))) (dTup (dCons (dTup (dCons (dC (.str "lose")) (dCons (dC (.int 5)) (dCons (dC (.int 0)) dNil)))) dNil)))) dNil))))))
theorem eq_fallen : b_fallen = (sRet (ofD (dTup (dCons (dC (.int 3)) (dCons (dC (.int 2)) (dCons (frz (dBin addD (frz (dBin ixD (frz (dFn0 (den_plain_one))) (dC (.int 2)))) (dTup (dCons (dTup (dCons (dC (.str "lose")) (dCons (dC (.int 5)) (dCons (dC (.int 0)) dNil)))) dNil)))) dNil)))))) := by delta b_fallen; rfl
def den_fallen : Den := runF 0 0 b_fallen
abbrev s_taken_over : Stmt := top 54
theorem sc_taken_over : FnScope ["from_so"] ["from_so"] (defScope s_taken_over) := ⟨rfl, rfl, rfl, by decide +kernel, rfl, by decide +kernel, by decide +kernel⟩
def b_taken_over : Dn Fl := (sRet (ofD (dTup (dCons (dC (.int 4)) (dCons (dC (.int 2)) (dCons (frz (dBin addD (frz (dBin ixD (frz (dFn0 (den_plain_one))) (dC (.int 2)))) (dTup (dCons (dTup (dCons (dC (.str "copy")) (dCons (dC (.int 4)) (dCons (dName 0) (dCons (dC (.int 3)) dNil))))) dNil)))) dNil))))))
def den_taken_over : Den := runF 1 1 b_taken_over
abbrev s_covered : Stmt := top 55
theorem sc_covered : FnScope ["sooner_so", "first_so", "next_so"] ["sooner_so"] (defScope s_covered) := ⟨rfl, rfl, rfl, by decide +kernel, rfl, by decide +kernel, by decide +kernel⟩
def b_covered : Dn Fl := (sSeq (sAsg (dTup (dCons (dTup (dCons (dC (.str "put")) (dCons (dC (.int 0)) (dCons (dC (.int 1)) (dCons (dTup (dCons (dC (.int 2)) dNil)) (dCons (dTup (dCons (dTup (dCons (dC (.int 2)) dNil)) dNil)) dNil)))))) (dCons (dTup (dCons (dC (.str "put")) (dCons (dC (.int 1)) (dCons (dC (.int 2)) (dCons (dTup (dCons (dC (.int 1)) (dCons (dC (.int 2)) dNil))) (dCons (dTup (dCons (dTup (dCons (dC (.int 1)) (dCons (dC (.int 2)) dNil))) dNil)) dNil)))))) dNil))) (hTup 2 (hCons (hName 1) (hCons (hName 2) hNil))))
  (sSeq (sIf (dTru (dName 0)) (sRet (ofD (dTup (dCons (dC (.int 3)) (dCons (dC (.int 9)) (dCons (dTup (dCons (dName 1) (dCons (dTup (dCons (dC (.str "send")) (dCons (dC (.int 1)) (dCons (dC (.int 2)) (dCons (dC (.int 0)) dNil))))) (dCons (dName 2) dNil)))) dNil)))))) sNx)
  (sRet (ofD (dTup (dCons (dC (.int 3)) (dCons (dC (.int 9)) (dCons (dTup (dCons (dName 1) (dCons (dName 2) (dCons (dTup (dCons (dC (.str "send")) (dCons (dC (.int 2)) (dCons (dC (.int 2)) (dCons (dC (.int 0)) dNil))))) dNil)))) dNil))))))))
def den_covered : Den := runF 1 3 b_covered
abbrev s_ranks : Stmt := top 56
theorem sc_ranks : FnScope ["leaf", "deed_so"] ["leaf"] (defScope s_ranks) := ⟨rfl, rfl, rfl, by decide +kernel, rfl, by decide +kernel, by decide +kernel⟩
def b_ranks : Dn Fl := (sRet (dComp (iSeq (dPeek 0 (dC (.int 2)))) (hName 1) (dTru (frz (dFn (den_law_is_write) (aCons (ofD (dName 1)) aNil)))) (dPeek 1 (dC (.int 2))) [1]))
def den_ranks : Den := runF 1 2 b_ranks
abbrev s_page : Stmt := top 57
theorem sc_page : FnScope ["tin", "most_so"] ["tin", "most_so"] (defScope s_page) := ⟨rfl, rfl, rfl, by decide +kernel, rfl, by decide +kernel, by decide +kernel⟩
def b_page : Dn Fl := (sRet (dFn (den_leaf) (aLend 0 (aCons (ofD (dC (.int 3))) (aCons (ofD (frz (dBin addD (dC (.int 3)) (frz (dFn (den_take) (aLend 0 (aCons (ofD (dC (.int 3))) aNil))))))) (aCons (ofD (dName 1)) aNil))))))
def den_page : Den := runF 2 2 b_page
abbrev s_is_road : Stmt := top 58
theorem sc_is_road : FnScope ["leaf", "road_so", "hour_so", "start_so", "k", "next_so", "stays", "deed_so", "here"] ["leaf", "road_so", "hour_so", "start_so"] (defScope s_is_road) := ⟨rfl, rfl, rfl, by decide +kernel, rfl, by decide +kernel, by decide +kernel⟩
def b_is_road : Dn Fl := (sSeq (sIf (dOrT (dNotT (dTru (dUn (isiD .tup) (dName 1)))) (dCmpT neD (dLenP 1) (frz (dBin addD (frz (dBin subD (dName 2) (dName 3))) (dC (.int 1)))))) (sRet (ofD (dC (.bool false)))) sNx)
  (sSeq (sFor (iRg1 (dCons (frz (dBin subD (dLenP 1) (dC (.int 1)))) dNil)) (hName 4) (sSeq (sPar [7, 8] (dCons (frz (dBin ixD (dPeek 0 (dC (.int 2))) (frz (dBin addD (dName 3) (dName 4))))) (dCons (dPeek 1 (dName 4)) dNil)))
  (sSeq (sSet 5 (ofD (dPeek 1 (frz (dBin addD (dName 4) (dC (.int 1)))))))
  (sSeq (sSet 6 (ofD (dAnd (frz (dBin eqD (dName 8) (dName 5))) (dNot (dAnd (frz (dBin eqD (dPeek 7 (dC (.int 0))) (dC (.str "lose")))) (frz (dBin eqD (dPeek 7 (dC (.int 2))) (dName 8))))))))
  (sIf (dAndT (dNotT (dTru (dName 6))) (dCmpT neD (frz (dBin addD (frz (dSl (dName 7) dOff (dOn (dC (.int 1))))) (frz (dSl (dName 7) (dOn (dC (.int 2))) dOff)))) (dTup (dCons (dC (.str "copy")) (dCons (dName 8) (dCons (dName 5) dNil)))))) (sRet (ofD (dC (.bool false)))) sNx)))))
  (sRet (ofD (dC (.bool true))))))
def den_is_road : Den := runF 4 9 b_is_road
abbrev s_first_full : Stmt := top 59
theorem sc_first_full : FnScope ["leaf", "crew", "rank_so", "trail_so", "n"] ["leaf", "crew", "rank_so"] (defScope s_first_full) := ⟨rfl, rfl, rfl, by decide +kernel, rfl, by decide +kernel, by decide +kernel⟩
def b_first_full : Dn Fl := (sSeq (sSet 3 (dFn (den_past) (aCons (ofD (dName 0)) (aCons (ofD (dName 1)) (aCons (ofD (frz (dCall lenD (dCons (dPeek 0 (dC (.int 2))) dNil)))) aNil)))))
  (sSeq (sFor (iSeq (frz (dFn (den_writes) (aCons (ofD (dName 0)) aNil)))) (hName 4) (sIf (dAndT (dCmpT geD (frz (dBin ixD (frz (dBin ixD (dPeek 0 (dC (.int 2))) (dName 4))) (dC (.int 2)))) (dName 2)) (dNotT (dTru (frz (dFn (den_room) (aCons (ofD (frz (dBin ixD (frz (dBin ixD (dPeek 0 (dC (.int 2))) (dName 4))) (dC (.int 4))))) (aCons (ofD (dPeek 3 (frz (dBin addD (dName 4) (dC (.int 1)))))) aNil))))))) (sRet (dMove 4)) sNx))
  (sRet (ofD (dC .none)))))
def den_first_full : Den := runF 3 5 b_first_full
abbrev s_stays : Stmt := top 60
theorem sc_stays : FnScope ["leaf", "crew", "spot_so", "start_so", "n", "trail_so", "found"] ["leaf", "crew", "spot_so", "start_so"] (defScope s_stays) := ⟨rfl, rfl, rfl, by decide +kernel, rfl, by decide +kernel, by decide +kernel⟩
def b_stays : Dn Fl := (sSeq (sParA 5 6 (aCons (dFn (den_past) (aCons (ofD (dName 0)) (aCons (ofD (dName 1)) (aCons (ofD (frz (dCall lenD (dCons (dPeek 0 (dC (.int 2))) dNil)))) aNil)))) (aCons (dLst (dCons (dName 2) dNil)) aNil)))
  (sSeq (sFor (iRg2 (dCons (dName 3) (dCons (frz (dCall lenD (dCons (dPeek 0 (dC (.int 2))) dNil))) dNil))) (hName 4) (sApp 6 (dIf (dCmpT inD (dPeek 6 (dUn negD (dC (.int 1)))) (dPeek 5 (frz (dBin addD (dName 4) (dC (.int 1)))))) (dPeek 6 (dUn negD (dC (.int 1)))) (frz (dBin ixD (frz (dBin ixD (dPeek 0 (dC (.int 2))) (dName 4))) (dC (.int 3)))))))
  (sRet (dCall tupleD (dCons (dName 6) dNil)))))
def den_stays : Den := runF 4 7 b_stays
abbrev s_paper_right : Stmt := top 61
theorem sc_paper_right : FnScope ["leaf", "crew", "rank_so", "soft", "held_so", "due", "walked", "told_so", "n", "j", "own"] ["leaf", "crew", "rank_so"] (defScope s_paper_right) := ⟨rfl, rfl, rfl, by decide +kernel, rfl, by decide +kernel, by decide +kernel⟩
def b_paper_right : Dn Fl := (sSeq (sAsg (dTup (dCons (frz (dFn (den_hold_paper) (aCons (ofD (dName 0)) (aCons (ofD (dName 1)) (aCons (ofD (dName 2)) aNil))))) (dCons (frz (dFn (den_first_full) (aCons (ofD (dName 0)) (aCons (ofD (dName 1)) (aCons (ofD (dName 2)) aNil))))) dNil))) (hTup 2 (hCons (hName 7) (hCons (hName 8) hNil))))
  (sSeq (sSet 3 (dFn (den_lists 8) (aCons (ofD (frz (dLst (dCons (dName 0) (dCons (dName 1) dNil))))) aNil)))
  (sSeq (sIf (dNotT (dTru (frz (dFn (den_same 6) (aCons (ofD (frz (dFn (den_hold_paper) (dArP [2, 1, 0] (dCons (dName 2) (dCons (dPeek 3 (dC (.int 1))) (dCons (dPeek 3 (dC (.int 0))) dNil))))))) (aCons (ofD (dName 7)) aNil)))))) (sRet (ofD (dC (.bool false)))) sNx)
  (sSeq (sIf (dCmpT isND (dName 8) (dC .none)) (sRet (dBin isND (dName 7) (dC .none))) sNx)
  (sSeq (sSet 4 (dComp (iSeq (frz (dBin ixD (frz (dBin ixD (dPeek 0 (dC (.int 2))) (dName 8))) (dC (.int 3))))) (hName 9) (dCmpT inD (dName 9) (frz (dBin ixD (frz (dFn (den_past) (aCons (ofD (dName 0)) (aCons (ofD (dName 1)) (aCons (ofD (frz (dCall lenD (dCons (dPeek 0 (dC (.int 2))) dNil)))) aNil))))) (frz (dBin addD (dName 8) (dC (.int 1))))))) (dName 9) [9]))
  (sSeq (sSet 5 (dCall tupleD (dCons (frz (dComp (iSeq (dName 4)) (hName 9) yesT (frz (dFn (den_stays) (aCons (ofD (dName 0)) (aCons (ofD (dName 1)) (aCons (ofD (dName 9)) (aCons (ofD (frz (dBin addD (dName 8) (dC (.int 1))))) aNil)))))) [9])) dNil)))
  (sSeq (sSet 6 (dComp (iSeq (dName 5)) (hName 10) (dOrT (dNotT (dTru (frz (dFn (den_is_road) (aCons (ofD (dName 0)) (aCons (ofD (dName 10)) (aCons (ofD (frz (dCall lenD (dCons (dPeek 0 (dC (.int 2))) dNil)))) (aCons (ofD (frz (dBin addD (dName 8) (dC (.int 1))))) aNil)))))))) (dCmpT notInD (dPeek 10 (dUn negD (dC (.int 1)))) (dName 1))) (dName 10) [10]))
  (sRet (ofD (dAnd (frz (dBin eqD (dName 6) (frz (dLst dNil)))) (frz (dFn (den_same 6) (aCons (ofD (dName 7)) (aCons (ofD (dTup (dCons (dName 8) (dCons (dName 5) dNil)))) aNil))))))))))))))
def den_paper_right : Den := runF 3 11 b_paper_right
abbrev s_versions_right : Stmt := top 62
theorem sc_versions_right : FnScope ["leaf", "owners_so", "asked_so", "lots_so", "due", "soft", "got", "crew", "own"] ["leaf", "owners_so", "asked_so"] (defScope s_versions_right) := ⟨rfl, rfl, rfl, by decide +kernel, rfl, by decide +kernel, by decide +kernel⟩
def b_versions_right : Dn Fl := (sSeq (sAsg (frz (dComp (iSeq (frz (dFn (den_lots) (aCons (ofD (dName 1)) aNil)))) (hName 7) (dCmpT eqD (dLenP 7) (dName 2)) (dName 7) [7])) (hName 3))
  (sSeq (sSet 4 (dComp (iSeq (frz (dFn (den_ranks) (aCons (ofD (dName 0)) aNil)))) (hName 8) (dCmpT neD (frz (dComp (iSeq (dName 3)) (hName 7) (dTru (frz (dFn (den_misses) (aCons (ofD (dName 0)) (aCons (ofD (dName 7)) (aCons (ofD (dName 8)) aNil)))))) (dC (.int 1)) [7])) (frz (dLst dNil))) (dName 8) [8]))
  (sSeq (sSet 5 (dFn (den_lists 8) (aCons (ofD (frz (dLst (dCons (dName 0) (dCons (dName 1) dNil))))) aNil)))
  (sSeq (sSet 6 (dLst (dCons (frz (dFn (den_missed_versions) (aCons (ofD (dName 0)) (aCons (ofD (dName 1)) (aCons (ofD (dName 2)) aNil))))) (dCons (frz (dFn (den_missed_versions) (dArP [2, 1, 0] (dCons (dName 2) (dCons (dPeek 5 (dC (.int 1))) (dCons (dPeek 5 (dC (.int 0))) dNil)))))) dNil))))
  (sRet (dFn (den_same 6) (aCons (ofD (dName 6)) (aCons (ofD (frz (dBin mulD (frz (dLst (dCons (frz (dCall tupleD (dCons (dName 4) dNil))) dNil))) (dC (.int 2))))) aNil))))))))
def den_versions_right : Den := runF 3 9 b_versions_right
abbrev s_by_hand_right : Stmt := top 63
theorem sc_by_hand_right : FnScope ["got", "due", "plain_so", "fallen_so", "over_so", "k"] [] (defScope s_by_hand_right) := ⟨rfl, rfl, rfl, by decide +kernel, rfl, by decide +kernel, by decide +kernel⟩
@[irreducible] def b_by_hand_right : Dn Fl := (sSeq (sAsg (dTup (dCons (frz (dFn0 (den_plain_one))) (dCons (frz (dFn0 (den_fallen))) (dCons (frz (dFn (den_taken_over) (aCons (ofD (dC (.int 2))) aNil))) dNil)))) (hTup 3 (hCons (hName 2) (hCons (hName 3) (hCons (hName 4) hNil)))))
  (sSeq (sSet 0 (dLst (dCons (frz (dFn (den_hold_paper) (aCons (ofD (dName 2)) (aCons (ofD (dTup (dCons (dC (.int 0)) (dCons (dC (.int 1)) dNil)))) (aCons (ofD (dC (.int 1))) aNil))))) (dCons (frz (dFn (den_hold_paper) (aCons (ofD (dName 2)) (aCons (ofD (dTup (dCons (dC (.int 0)) dNil))) (aCons (ofD (dC (.int 1))) aNil))))) (dCons (frz (dFn (den_hold_paper) (aCons (ofD (dName 4)) (aCons (ofD (dTup (dCons (dC (.int 0)) (dCons (dC (.int 3)) dNil)))) (aCons (ofD (dC (.int 1))) aNil))))) dNil)))))
  (sSeq (sSet 1 (dLst (dCons (dTup (dCons (dC (.int 0)) (dCons (dTup (dCons (dTup (dCons (dC (.int 0)) dNil)) (dCons (dTup (dCons (dC (.int 1)) dNil)) dNil))) dNil))) (dCons (dC .none) (dCons (dTup (dCons (dC (.int 0)) (dCons (dTup (dCons (dTup (dCons (dC (.int 0)) (dCons (dC (.int 0)) dNil))) (dCons (dTup (dCons (dC (.int 2)) (dCons (dC (.int 3)) dNil))) dNil))) dNil))) dNil)))))
  (sSeq (sSet 0 (dBin addD (dName 0) (frz (dLst (dCons (frz (dFn (den_hold_paper) (aCons (ofD (dName 3)) (aCons (ofD (dTup (dCons (dC (.int 1)) (dCons (dC (.int 2)) dNil)))) (aCons (ofD (dC (.int 1))) aNil))))) (dCons (frz (dFn (den_hold_paper) (aCons (ofD (dName 3)) (aCons (ofD (dTup (dCons (dC (.int 0)) (dCons (dC (.int 1)) (dCons (dC (.int 2)) dNil))))) (aCons (ofD (dC (.int 2))) aNil))))) (dCons (frz (dFn (den_hold_paper) (aCons (ofD (frz (dFn (den_covered) (aCons (ofD (dC (.bool false))) aNil)))) (aCons (ofD (dTup (dCons (dC (.int 0)) (dCons (dC (.int 1)) dNil)))) (aCons (ofD (dC (.int 1))) aNil))))) dNil)))))))
  (sSeq (sSet 1 (dBin addD (dName 1) (frz (dLst (dCons (dTup (dCons (dC (.int 0)) (dCons (dTup (dCons (dTup (dCons (dC (.int 1)) (dCons (dC (.int 1)) dNil))) (dCons (dTup (dCons (dC (.int 2)) (dCons (dC (.int 2)) dNil))) dNil))) dNil))) (dCons (dC .none) (dCons (dTup (dCons (dC (.int 1)) (dCons (dTup (dCons (dTup (dCons (dC (.int 1)) (dCons (dC (.int 1)) dNil))) dNil)) dNil))) dNil)))))))
  (sSeq (sSet 0 (dBin addD (dName 0) (frz (dComp (iSeq (dTup (dCons (dC (.int 0)) (dCons (dC (.int 1)) (dCons (dC (.int 2)) (dCons (dC (.int 3)) (dCons (dC (.int 4)) dNil))))))) (hName 5) yesT (frz (dFn (den_missed_versions) (aCons (ofD (dName 3)) (aCons (ofD (dTup (dCons (dC (.int 0)) (dCons (dC (.int 1)) (dCons (dC (.int 2)) dNil))))) (aCons (ofD (dName 5)) aNil))))) [5]))))
  (sSeq (sSet 1 (dBin addD (dName 1) (frz (dLst (dCons (dTup (dCons (dC (.int 1)) dNil)) (dCons (dTup (dCons (dC (.int 1)) dNil)) (dCons (dTup (dCons (dC (.int 1)) dNil)) (dCons (dTup dNil) (dCons (dTup dNil) dNil)))))))))
  (sSeq (sSet 0 (dBin addD (dName 0) (frz (dLst (dCons (frz (dFn (den_missed_versions) (aCons (ofD (dName 2)) (aCons (ofD (dTup (dCons (dC (.int 0)) (dCons (dC (.int 1)) (dCons (dC (.int 2)) dNil))))) (aCons (ofD (dC (.int 2))) aNil))))) (dCons (frz (dFn (den_missed_versions) (aCons (ofD (dTup (dCons (dC (.int 2)) (dCons (dC (.int 0)) (dCons (dTup dNil) dNil))))) (aCons (ofD (dTup (dCons (dC (.int 0)) (dCons (dC (.int 1)) dNil)))) (aCons (ofD (dC (.int 1))) aNil))))) dNil))))))
  (sSeq (sSet 1 (dBin addD (dName 1) (frz (dLst (dCons (dTup dNil) (dCons (dTup dNil) dNil))))))
  (sSeq (sSet 0 (dBin addD (dName 0) (frz (dLst (dCons (frz (dFn (den_missed_versions) (aCons (ofD (frz (dFn (den_covered) (aCons (ofD (dC (.bool false))) aNil)))) (aCons (ofD (dTup (dCons (dC (.int 0)) (dCons (dC (.int 1)) dNil)))) (aCons (ofD (dC (.int 1))) aNil))))) (dCons (frz (dFn (den_missed_versions) (aCons (ofD (frz (dFn (den_covered) (aCons (ofD (dC (.bool false))) aNil)))) (aCons (ofD (dTup (dCons (dC (.int 1)) (dCons (dC (.int 2)) dNil)))) (aCons (ofD (dC (.int 1))) aNil))))) dNil))))))
  (sRet (dFn (den_same 6) (aCons (ofD (dName 0)) (aCons (ofD (frz (dBin addD (dName 1) (frz (dLst (dCons (dTup (dCons (dC (.int 1)) (dCons (dC (.int 2)) dNil))) (dCons (dTup dNil) dNil))))))) aNil))))))))))))))
theorem eq_by_hand_right : b_by_hand_right = (sSeq (sAsg (dTup (dCons (frz (dFn0 (den_plain_one))) (dCons (frz (dFn0 (den_fallen))) (dCons (frz (dFn (den_taken_over) (aCons (ofD (dC (.int 2))) aNil))) dNil)))) (hTup 3 (hCons (hName 2) (hCons (hName 3) (hCons (hName 4) hNil)))))
  (sSeq (sSet 0 (dLst (dCons (frz (dFn (den_hold_paper) (aCons (ofD (dName 2)) (aCons (ofD (dTup (dCons (dC (.int 0)) (dCons (dC (.int 1)) dNil)))) (aCons (ofD (dC (.int 1))) aNil))))) (dCons (frz (dFn (den_hold_paper) (aCons (ofD (dName 2)) (aCons (ofD (dTup (dCons (dC (.int 0)) dNil))) (aCons (ofD (dC (.int 1))) aNil))))) (dCons (frz (dFn (den_hold_paper) (aCons (ofD (dName 4)) (aCons (ofD (dTup (dCons (dC (.int 0)) (dCons (dC (.int 3)) dNil)))) (aCons (ofD (dC (.int 1))) aNil))))) dNil)))))
  (sSeq (sSet 1 (dLst (dCons (dTup (dCons (dC (.int 0)) (dCons (dTup (dCons (dTup (dCons (dC (.int 0)) dNil)) (dCons (dTup (dCons (dC (.int 1)) dNil)) dNil))) dNil))) (dCons (dC .none) (dCons (dTup (dCons (dC (.int 0)) (dCons (dTup (dCons (dTup (dCons (dC (.int 0)) (dCons (dC (.int 0)) dNil))) (dCons (dTup (dCons (dC (.int 2)) (dCons (dC (.int 3)) dNil))) dNil))) dNil))) dNil)))))
  (sSeq (sSet 0 (dBin addD (dName 0) (frz (dLst (dCons (frz (dFn (den_hold_paper) (aCons (ofD (dName 3)) (aCons (ofD (dTup (dCons (dC (.int 1)) (dCons (dC (.int 2)) dNil)))) (aCons (ofD (dC (.int 1))) aNil))))) (dCons (frz (dFn (den_hold_paper) (aCons (ofD (dName 3)) (aCons (ofD (dTup (dCons (dC (.int 0)) (dCons (dC (.int 1)) (dCons (dC (.int 2)) dNil))))) (aCons (ofD (dC (.int 2))) aNil))))) (dCons (frz (dFn (den_hold_paper) (aCons (ofD (frz (dFn (den_covered) (aCons (ofD (dC (.bool false))) aNil)))) (aCons (ofD (dTup (dCons (dC (.int 0)) (dCons (dC (.int 1)) dNil)))) (aCons (ofD (dC (.int 1))) aNil))))) dNil)))))))
  (sSeq (sSet 1 (dBin addD (dName 1) (frz (dLst (dCons (dTup (dCons (dC (.int 0)) (dCons (dTup (dCons (dTup (dCons (dC (.int 1)) (dCons (dC (.int 1)) dNil))) (dCons (dTup (dCons (dC (.int 2)) (dCons (dC (.int 2)) dNil))) dNil))) dNil))) (dCons (dC .none) (dCons (dTup (dCons (dC (.int 1)) (dCons (dTup (dCons (dTup (dCons (dC (.int 1)) (dCons (dC (.int 1)) dNil))) dNil)) dNil))) dNil)))))))
  (sSeq (sSet 0 (dBin addD (dName 0) (frz (dComp (iSeq (dTup (dCons (dC (.int 0)) (dCons (dC (.int 1)) (dCons (dC (.int 2)) (dCons (dC (.int 3)) (dCons (dC (.int 4)) dNil))))))) (hName 5) yesT (frz (dFn (den_missed_versions) (aCons (ofD (dName 3)) (aCons (ofD (dTup (dCons (dC (.int 0)) (dCons (dC (.int 1)) (dCons (dC (.int 2)) dNil))))) (aCons (ofD (dName 5)) aNil))))) [5]))))
  (sSeq (sSet 1 (dBin addD (dName 1) (frz (dLst (dCons (dTup (dCons (dC (.int 1)) dNil)) (dCons (dTup (dCons (dC (.int 1)) dNil)) (dCons (dTup (dCons (dC (.int 1)) dNil)) (dCons (dTup dNil) (dCons (dTup dNil) dNil)))))))))
  (sSeq (sSet 0 (dBin addD (dName 0) (frz (dLst (dCons (frz (dFn (den_missed_versions) (aCons (ofD (dName 2)) (aCons (ofD (dTup (dCons (dC (.int 0)) (dCons (dC (.int 1)) (dCons (dC (.int 2)) dNil))))) (aCons (ofD (dC (.int 2))) aNil))))) (dCons (frz (dFn (den_missed_versions) (aCons (ofD (dTup (dCons (dC (.int 2)) (dCons (dC (.int 0)) (dCons (dTup dNil) dNil))))) (aCons (ofD (dTup (dCons (dC (.int 0)) (dCons (dC (.int 1)) dNil)))) (aCons (ofD (dC (.int 1))) aNil))))) dNil))))))
  (sSeq (sSet 1 (dBin addD (dName 1) (frz (dLst (dCons (dTup dNil) (dCons (dTup dNil) dNil))))))
  (sSeq (sSet 0 (dBin addD (dName 0) (frz (dLst (dCons (frz (dFn (den_missed_versions) (aCons (ofD (frz (dFn (den_covered) (aCons (ofD (dC (.bool false))) aNil)))) (aCons (ofD (dTup (dCons (dC (.int 0)) (dCons (dC (.int 1)) dNil)))) (aCons (ofD (dC (.int 1))) aNil))))) (dCons (frz (dFn (den_missed_versions) (aCons (ofD (frz (dFn (den_covered) (aCons (ofD (dC (.bool false))) aNil)))) (aCons (ofD (dTup (dCons (dC (.int 1)) (dCons (dC (.int 2)) dNil)))) (aCons (ofD (dC (.int 1))) aNil))))) dNil))))))
  (sRet (dFn (den_same 6) (aCons (ofD (dName 0)) (aCons (ofD (frz (dBin addD (dName 1) (frz (dLst (dCons (dTup (dCons (dC (.int 1)) (dCons (dC (.int 2)) dNil))) (dCons (dTup dNil) dNil))))))) aNil)))))))))))))) := by delta b_by_hand_right; rfl
def den_by_hand_right : Den := runF 0 6 b_by_hand_right
abbrev s_right : Stmt := top 64
theorem sc_right : FnScope ["tin", "leaf", "crew", "owners_so", "rank_so"] ["tin"] (defScope s_right) := ⟨rfl, rfl, rfl, by decide +kernel, rfl, by decide +kernel, by decide +kernel⟩
def b_right : Dn Fl := (sSeq (sSet 1 (dFn (den_page) (aLend 0 (aCons (ofD (dTup (dCons (dC (.int 3)) (dCons (dC (.int 1)) dNil)))) aNil))))
  (sSeq (sFor (iSeq (frz (dFn (den_pick) (aLend 0 (aCons (ofD (frz (dFn (den_lots) (aCons (ofD (frz (dLst (dCons (dC (.int 0)) (dCons (dC (.int 1)) (dCons (dC (.int 2)) dNil)))))) aNil)))) (aCons (ofD (dC (.int 4))) aNil)))))) (hName 2) (sFor (iSeq (frz (dBin addD (frz (dLst (dCons (dC (.int 1)) dNil))) (frz (dFn (den_pick) (aLend 0 (aCons (ofD (frz (dFn (den_ranks) (aCons (ofD (dName 1)) aNil)))) (aCons (ofD (dC (.int 2))) aNil)))))))) (hName 4) (sIf (dNotT (dTru (frz (dFn (den_paper_right) (aCons (ofD (dName 1)) (aCons (ofD (dName 2)) (aCons (ofD (dName 4)) aNil))))))) (sRet (ofD (dC (.bool false)))) sNx)))
  (sSeq (sSet 3 (dFn (den_of) (aLend 0 (aCons (ofD (frz (dLst (dCons (dTup (dCons (dC (.int 0)) (dCons (dC (.int 1)) (dCons (dC (.int 2)) dNil)))) (dCons (dTup (dCons (dC (.int 0)) (dCons (dC (.int 1)) dNil))) (dCons (dTup (dCons (dC (.int 1)) (dCons (dC (.int 2)) dNil))) (dCons (dTup (dCons (dC (.int 0)) (dCons (dC (.int 2)) dNil))) dNil))))))) aNil))))
  (sRet (dFn (den_versions_right) (aCons (ofD (dName 1)) (aCons (ofD (dName 3)) (aCons (ofD (frz (dFn (den_take) (aLend 0 (aCons (ofD (dC (.int 4))) aNil))))) aNil))))))))
def den_right : Den := runF 1 5 b_right
abbrev s_law : Stmt := top 65
theorem sc_law : FnScope ["script", "cells_so", "k"] ["script"] (defScope s_law) := ⟨rfl, rfl, rfl, by decide +kernel, rfl, by decide +kernel, by decide +kernel⟩
def b_law : Dn Fl := (sSeq (sIf (dNotT (dTru (frz (dFn0 (den_by_hand_right))))) (sRet (ofD (dC (.bool false)))) sNx)
  (sSeq (sSet 1 (dFn (den_cells) (aLend 0 (aCons (ofD (dC (.int 2))) aNil))))
  (sRet (dCall allD (dCons (frz (dComp (iRg1 (dCons (dLenP 1) dNil)) (hName 2) yesT (frz (dFn (den_right) (aCons (dFn (den_box) (aCons (ofD (dName 1)) (aCons (ofD (dName 2)) aNil))) aNil))) [2])) dNil)))))
def den_law : Den := runF 1 3 b_law
structure Txt (K : PySem.W.Frag) (mg : Str → Option Value) : Prop where
  bt : Bt mg
  d_refuse : DefD K mg "refuse" s_refuse ["book", "places", "moments", "numbers", "ages"] 4
  d_is_write : DefAt K mg "is_write" s_is_write ["deed"]
  d_write_numbers : DefAt K mg "write_numbers" s_write_numbers ["deeds"]
  d_writes_from : DefAt K mg "writes_from" s_writes_from ["deeds", "version"]
  d_mask_of : DefAt K mg "mask_of" s_mask_of ["lot"]
  d_masks_of : DefAt K mg "masks_of" s_masks_of ["family"]
  d_has_place : DefAt K mg "has_place" s_has_place ["mask", "place"]
  d_frozen : DefAt K mg "frozen" s_frozen ["value"]
  d_choices : DefAt K mg "choices" s_choices ["items", "many"]
  d_mask_ahead : DefAt K mg "mask_ahead" s_mask_ahead ["deed", "mask"]
  d_past_masks : DefAt K mg "past_masks" s_past_masks ["deeds", "mask", "moment"]
  d_road_in : DefAt K mg "road_in" s_road_in ["deeds", "masks", "place", "start"]
  d_masks_behind : DefAt K mg "masks_behind" s_masks_behind ["book", "some"]
  d_first_free : DefAt K mg "first_free" s_first_free ["lots", "mask"]
  d_offers_from : DefAt K mg "offers_from" s_offers_from ["deeds", "version"]
  d_first_held : DefAt K mg "first_held" s_first_held ["offers", "masks"]
  d_hold_paper : DefAt K mg "hold_paper" s_hold_paper ["book", "some", "version"]
  d_held_by : DefAt K mg "held_by" s_held_by ["book", "offers", "some"]
  d_missed_versions : DefAt K mg "missed_versions" s_missed_versions ["book", "owners", "asked"]
  d_box : DefAt K mg "_law_box" s_box ["script", "k"]
  d_take : DefAt K mg "_law_take" s_take ["tin", "below_so"]
  d_cells : DefAt K mg "_law_cells" s_cells ["script", "most_so"]
  d_of : DefAt K mg "_law_of" s_of ["tin", "goods_so"]
  d_pick : DefAt K mg "_law_pick" s_pick ["tin", "goods_so", "count_so"]
  d_lists : DefAt K mg "_law_lists" s_lists ["matter"]
  d_same : DefAt K mg "_law_same" s_same ["got", "due"]
  d_lots : DefAt K mg "_law_lots" s_lots ["goods_so"]
  d_counted : DefAt K mg "_law_counted" s_counted ["goods_so", "need_so"]
  d_within : DefAt K mg "_law_within" s_within ["crew", "wide_so"]
  d_apart : DefAt K mg "_law_apart" s_apart ["crew", "wide_so"]
  d_least : DefAt K mg "_law_least" s_least ["lots_so"]
  d_room : DefAt K mg "_law_room" s_room ["kin_so", "crew"]
  d_kin : DefAt K mg "_law_kin" s_kin ["tin", "homes_so"]
  d_deed : DefAt K mg "_law_deed" s_deed ["tin", "many_so", "word_so", "tick_so", "rank_so"]
  d_leaf : DefAt K mg "_law_leaf" s_leaf ["tin", "many_so", "size_so", "most_so"]
  d_law_is_write : DefAt K mg "_law_is_write" s_law_is_write ["deed_so"]
  d_writes : DefAt K mg "_law_writes" s_writes ["leaf"]
  d_past : DefAt K mg "_law_past" s_past ["leaf", "crew", "hour_so"]
  d_misses : DefAt K mg "_law_misses" s_misses ["leaf", "crew", "rank_so"]
  d_two_of : DefAt K mg "_law_two_of" s_two_of []
  d_plain_one : DefAt K mg "_law_plain_one" s_plain_one []
  d_fallen : DefAt K mg "_law_fallen" s_fallen []
  d_taken_over : DefAt K mg "_law_taken_over" s_taken_over ["from_so"]
  d_covered : DefAt K mg "_law_covered" s_covered ["sooner_so"]
  d_ranks : DefAt K mg "_law_ranks" s_ranks ["leaf"]
  d_page : DefAt K mg "_law_page" s_page ["tin", "most_so"]
  d_is_road : DefAt K mg "_law_is_road" s_is_road ["leaf", "road_so", "hour_so", "start_so"]
  d_first_full : DefAt K mg "_law_first_full" s_first_full ["leaf", "crew", "rank_so"]
  d_stays : DefAt K mg "_law_stays" s_stays ["leaf", "crew", "spot_so", "start_so"]
  d_paper_right : DefAt K mg "_law_paper_right" s_paper_right ["leaf", "crew", "rank_so"]
  d_versions_right : DefAt K mg "_law_versions_right" s_versions_right ["leaf", "owners_so", "asked_so"]
  d_by_hand_right : DefAt K mg "_law_by_hand_right" s_by_hand_right []
  d_right : DefAt K mg "_law_right" s_right ["tin"]
  d_law : DefAt K mg "law" s_law ["script"]
  w_WRITES : WordsAt K mg "WRITES" w_WRITES

section
variable {P : Program} {w : World} {K : PySem.W.Frag} {mg : Str → Option Value} {base : Heap}
theorem ok_refuse (T : Txt K mg) (f : Addr) (fd : FuncData) (dvs : List V) (Fn : FunD K "refuse" "refuse" (defArgs s_refuse) (defBody s_refuse) (defScope s_refuse) dvs [] f fd) : FnOk P w K mg base (L2.CX P w) 5 f fd ["book", "places", "moments", "numbers", "ages"] (spD K mg 5 den_refuse) := ok_defD (k := 4) Fn sc_refuse fun cdv A outer s H E hr => have B := T.bt; (gss_cons (gs_for (passes_of rfl) rfl (gi_arg 1) (gg_name 5 sc_refuse.nd) (gss_one (gs_if (g_notT (g_chainT op_leD op_ltD ci_bool g_int (g_name 5) (g_peek 0 g_int))) (gss_one gs_never) gss_nil)))
    (gss_cons (gs_for (passes_of rfl) rfl (gi_arg 2) (gg_name 6 sc_refuse.nd) (gss_one (gs_if (g_notT (g_chainT op_leD op_leD ci_bool g_int (g_name 6) (toD (g_callB call_lenDD (by rfl) B.len PyProof.Rows.Boot.len (gs_cons (g_peek 0 g_int) gs_nil))))) (gss_one gs_never) gss_nil)))
    (gss_cons (gs_for (passes_of rfl) rfl (gi_arg 3) (gg_name 7 sc_refuse.nd) (gss_one (gs_if (g_notT (g_chainT op_leD op_ltD ci_bool g_int (g_name 7) (toD (g_callB call_lenDD (by rfl) B.len PyProof.Rows.Boot.len (gs_cons (g_peek 0 g_int) gs_nil))))) (gss_one gs_never) gss_nil)))
    (gss_one (gs_for (passes_of rfl) rfl (gi_arg 4) (gg_name 8 sc_refuse.nd) (gss_one (gs_if (g_cmpT op_ltD (g_name 8) g_int (nomark _)) (gss_one gs_never) gss_nil)))))))
theorem ok_is_write (T : Txt K mg) (f : Addr) (fd : FuncData) (Fn : Fun K "is_write" "is_write" s_is_write f fd) : FnOk P w K mg base (L2.CX P w) 5 f fd ["deed"] (spD K mg 1 den_is_write) := ok_def (k := 4) Fn sc_is_write fun cdv A outer s H E hr => have B := T.bt; (gss_one (gs_ret (toE (g_inGlob T.w_WRITES (by rfl) (g_peek 0 g_int) (by rfl)))))
theorem cal_is_write (T : Txt K mg) : Cal P w K mg base 5 "is_write" 1 den_is_write := calOf T.d_is_write (ok_is_write T)
theorem ok_write_numbers (T : Txt K mg) (f : Addr) (fd : FuncData) (Fn : Fun K "write_numbers" "write_numbers" s_write_numbers f fd) : FnOk P w K mg base (L2.CX P w) 6 f fd ["deeds"] (spD K mg 1 den_write_numbers) := ok_def (k := 5) Fn sc_write_numbers fun cdv A outer s H E hr => have B := T.bt; (gss_one (gs_ret (g_callTy call_tupleD (by rfl) B.tuple PyProof.Rows.Boot.tuple (gs_cons (toD (g_comp rfl sc_write_numbers.nd (gi_enumB (by rfl) B.enumerate (gs_cons (g_name 0) gs_nil)) (own := [("number", 1), ("deed", 2)]) (blkOk_by (by kernel_rfl)) (by decide) (fun s H C cl fp => (gg_tup rfl (ggs_cons (gg_name 1 sc_write_numbers.nd) (ggs_cons (gg_name 2 sc_write_numbers.nd) ggs_nil)))) (fun s H C cl fp => (gt_one (g_tru (toD (g_call (cal_is_write T) hr (by decide) (by rfl) passL (ga_cons (toE (g_name 2)) ga_nil) (arl_cons arl_nil)))))) (fun s H C cl fp => (g_name 1)))) gs_nil))))
theorem cal_write_numbers (T : Txt K mg) : Cal P w K mg base 6 "write_numbers" 1 den_write_numbers := calOf T.d_write_numbers (ok_write_numbers T)
theorem ok_writes_from (T : Txt K mg) (f : Addr) (fd : FuncData) (Fn : Fun K "writes_from" "writes_from" s_writes_from f fd) : FnOk P w K mg base (L2.CX P w) 7 f fd ["deeds", "version"] (spD K mg 2 den_writes_from) := ok_def (k := 6) Fn sc_writes_from fun cdv A outer s H E hr => have B := T.bt; (gss_one (gs_ret (g_callTy call_tupleD (by rfl) B.tuple PyProof.Rows.Boot.tuple (gs_cons (toD (g_comp rfl sc_writes_from.nd (gi_seq (toD (g_call (cal_write_numbers T) hr (by decide) (by rfl) (passes_call (takes_of rfl rfl rfl rfl) (fun _ _ _ _ h => h)) (ga_cons (toE (g_name 0)) ga_nil) (arl_cons arl_nil)))) (own := [("number", 2)]) (blkOk_by (by kernel_rfl)) (by decide) (fun s H C cl fp => (gg_name 2 sc_writes_from.nd)) (fun s H C cl fp => (gt_one (g_cmpT op_geD (toD (g_ix ix_D (g_peek 0 (g_name 2)) g_int)) (g_name 1) (nomark _)))) (fun s H C cl fp => (g_name 2)))) gs_nil))))
theorem cal_writes_from (T : Txt K mg) : Cal P w K mg base 7 "writes_from" 2 den_writes_from := calOf T.d_writes_from (ok_writes_from T)
theorem ok_mask_of (T : Txt K mg) (f : Addr) (fd : FuncData) (Fn : Fun K "mask_of" "mask_of" s_mask_of f fd) : FnOk P w K mg base (L2.CX P w) 5 f fd ["lot"] (spD K mg 1 den_mask_of) := ok_def (k := 4) Fn sc_mask_of fun cdv A outer s H E hr => have B := T.bt; (gss_cons (gs_set 1 sc_mask_of.nd (toE g_int))
    (gss_cons (gs_for (passes_of rfl) rfl (gi_seq (g_name 0)) (gg_name 2 sc_mask_of.nd) (gss_one (gs_set 1 sc_mask_of.nd (g_bin op_borD (g_name 1) (toD (g_bin op_shlD g_int (g_name 2)))))))
    (gss_one (gs_ret (g_move 1)))))
theorem cal_mask_of (T : Txt K mg) : Cal P w K mg base 5 "mask_of" 1 den_mask_of := calOf T.d_mask_of (ok_mask_of T)
theorem ok_masks_of (T : Txt K mg) (f : Addr) (fd : FuncData) (Fn : Fun K "masks_of" "masks_of" s_masks_of f fd) : FnOk P w K mg base (L2.CX P w) 6 f fd ["family"] (spD K mg 1 den_masks_of) := ok_def (k := 5) Fn sc_masks_of fun cdv A outer s H E hr => have B := T.bt; (gss_one (gs_ret (g_comp rfl sc_masks_of.nd (gi_seq (g_name 0)) (own := [("lot", 1)]) (blkOk_by (by kernel_rfl)) (by decide) (fun s H C cl fp => (gg_name 1 sc_masks_of.nd)) (fun s H C cl fp => gt_yes) (fun s H C cl fp => (toD (g_call (cal_mask_of T) hr (by decide) (by rfl) passL (ga_cons (toE (g_name 1)) ga_nil) (arl_cons arl_nil)))))))
theorem cal_masks_of (T : Txt K mg) : Cal P w K mg base 6 "masks_of" 1 den_masks_of := calOf T.d_masks_of (ok_masks_of T)
theorem ok_has_place (T : Txt K mg) (f : Addr) (fd : FuncData) (Fn : Fun K "has_place" "has_place" s_has_place f fd) : FnOk P w K mg base (L2.CX P w) 5 f fd ["mask", "place"] (spD K mg 2 den_has_place) := ok_def (k := 4) Fn sc_has_place fun cdv A outer s H E hr => have B := T.bt; (gss_one (gs_ret (g_cmp (op_eqDD (room_u hr)) (toD (g_bin op_bandD (toD (g_bin op_shrD (g_name 0) (g_name 1))) g_int)) g_int (nomark _))))
theorem cal_has_place (T : Txt K mg) : Cal P w K mg base 5 "has_place" 2 den_has_place := calOf T.d_has_place (ok_has_place T)
theorem cal_frozen (T : Txt K mg) : ∀ n : Nat, Cal P w K mg base (5 + n) "frozen" 1 (den_frozen n)
  | 0 => calOf T.d_frozen fun f fd Fn => ok_none
  | n + 1 => calOf T.d_frozen fun f fd Fn => ok_def (k := 5 + n) Fn sc_frozen fun cdv A outer s H E hr => have cs := cal_frozen T n; have B := T.bt; (gss_cons (gs_if (g_tru (g_isi2 .lst .tup (by rfl) B.isinstance (by rfl) B.list PyProof.Rows.Boot.list (by rfl) B.tuple PyProof.Rows.Boot.tuple (g_name 0))) (gss_one (gs_ret (g_callTy call_tupleD (by rfl) B.tuple PyProof.Rows.Boot.tuple (gs_cons (toD (g_comp rfl sc_frozen.nd (gi_seq (g_name 0)) (own := [("part", 1)]) (blkOk_by (by kernel_rfl)) (by decide) (fun s H C cl fp => (gg_name 1 sc_frozen.nd)) (fun s H C cl fp => gt_yes) (fun s H C cl fp => (toD (g_call cs hr (by omega) (by rfl) passL (ga_cons (toE (g_name 1)) ga_nil) (arl_cons arl_nil)))))) gs_nil)))) gss_nil)
    (gss_one (gs_ret (g_move 0))))
theorem cal_choices (T : Txt K mg) : ∀ n : Nat, Cal P w K mg base (5 + n) "choices" 2 (den_choices n)
  | 0 => calOf T.d_choices fun f fd Fn => ok_none
  | n + 1 => calOf T.d_choices fun f fd Fn => ok_def (k := 5 + n) Fn sc_choices fun cdv A outer s H E hr => have cs := cal_choices T n; have B := T.bt; (gss_cons (gs_if (g_cmpT (op_eqDD (room_u hr)) (g_name 1) g_int (nomark _)) (gss_one (gs_ret (g_lst (gs_cons (g_tup gs_nil) gs_nil)))) gss_nil)
    (gss_cons (gs_set 2 sc_choices.nd (g_lst gs_nil))
    (gss_cons (gs_if (g_chainT op_ltD op_leD ci_bool g_int (g_name 1) (g_lenP 0 (by rfl) B.len)) (gss_one (gs_for (passes_of rfl) rfl (gi_range1 (by rfl) B.range (gs_cons (toD (g_bin op_addD (toD (g_bin op_subD (g_lenP 0 (by rfl) B.len) (g_name 1))) g_int)) gs_nil)) (gg_name 3 sc_choices.nd) (gss_one (gs_for (passes_of rfl) rfl (gi_seq (toD (g_call cs hr (by omega) (by rfl) (passes_call (takes_of rfl rfl rfl rfl) (fun _ _ _ _ h => h)) (ga_cons (toE (toD (g_slice (g_name 0) (go_some (toD (g_bin op_addD (g_name 3) g_int))) go_none))) (ga_cons (toE (toD (g_bin op_subD (g_name 1) g_int))) ga_nil)) (arl_cons (arl_cons arl_nil))))) (gg_name 4 sc_choices.nd) (gss_one (ps_wk (ps_expr (pe_bm PySem.F.plainAttrs_list PySem.F.slot_list_append PySem.F.type_list_append mt_append (pv 2) (pa_cons (toD (g_bin op_addD (g_tup (gs_cons (g_peek 0 (g_name 3)) gs_nil)) (g_name 4))) pa_nil))) app_wk)))))) gss_nil)
    (gss_one (gs_ret (g_move 2))))))
theorem ok_mask_ahead (T : Txt K mg) (f : Addr) (fd : FuncData) (Fn : Fun K "mask_ahead" "mask_ahead" s_mask_ahead f fd) : FnOk P w K mg base (L2.CX P w) 6 f fd ["deed", "mask"] (spD K mg 2 den_mask_ahead) := ok_def (k := 5) Fn sc_mask_ahead fun cdv A outer s H E hr => have B := T.bt; (gss_cons (gs_if (g_wT (g_andT (g_cmpT (op_eqDD (room_u hr)) (g_peek 0 g_int) g_str (nomark _)) (g_and1 (g_tru (toD (g_call (cal_has_place T) hr (by decide) (by rfl) (passes_call (takes_of rfl rfl rfl rfl) (fun _ _ _ _ h => h)) (ga_cons (toE (g_name 1)) (ga_cons (toE (g_peek 0 g_int)) ga_nil)) (arl_cons (arl_cons arl_nil)))))))) (gss_one (gs_ret (g_bin op_borD (g_name 1) (toD (g_bin op_shlD g_int (g_peek 0 g_int)))))) gss_nil)
    (gss_cons (gs_if (g_cmpT (op_eqDD (room_u hr)) (g_peek 0 g_int) g_str (nomark _)) (gss_one (gs_ret (g_bin op_bandD (g_name 1) (g_un un_invD (toD (g_bin op_shlD g_int (g_peek 0 g_int))))))) gss_nil)
    (gss_one (gs_ret (g_move 1)))))
theorem cal_mask_ahead (T : Txt K mg) : Cal P w K mg base 6 "mask_ahead" 2 den_mask_ahead := calOf T.d_mask_ahead (ok_mask_ahead T)
theorem ok_past_masks (T : Txt K mg) (f : Addr) (fd : FuncData) (Fn : Fun K "past_masks" "past_masks" s_past_masks f fd) : FnOk P w K mg base (L2.CX P w) 7 f fd ["deeds", "mask", "moment"] (spD K mg 3 den_past_masks) := ok_def (k := 6) Fn sc_past_masks fun cdv A outer s H E hr => have B := T.bt; (gss_cons (gs_set 3 sc_past_masks.nd (g_lst (gs_cons (g_name 1) gs_nil)))
    (gss_cons (gs_for (passes_of rfl) rfl (gi_rev1 (by rfl) B.reversed (by rfl) B.range (g_name 2)) (gg_name 4 sc_past_masks.nd) (gss_one (ps_wk (ps_expr (pe_bm PySem.F.plainAttrs_list PySem.F.slot_list_append PySem.F.type_list_append mt_append (pv 3) (pa_cons (toD (g_call (cal_mask_ahead T) hr (by decide) (by rfl) (passes_call (takes_of rfl rfl rfl rfl) (fun _ _ _ _ h => h)) (ga_cons (toE (g_peek 0 (g_name 4))) (ga_cons (toE (g_peek 3 (g_un un_negD g_int))) ga_nil)) (arl_cons (arl_cons arl_nil)))) pa_nil))) app_wk)))
    (gss_one (gs_ret (g_revL (g_name 3))))))
theorem cal_past_masks (T : Txt K mg) : Cal P w K mg base 7 "past_masks" 3 den_past_masks := calOf T.d_past_masks (ok_past_masks T)
theorem ok_road_in (T : Txt K mg) (f : Addr) (fd : FuncData) (Fn : Fun K "road_in" "road_in" s_road_in f fd) : FnOk P w K mg base (L2.CX P w) 6 f fd ["deeds", "masks", "place", "start"] (spD K mg 4 den_road_in) := ok_def (k := 5) Fn sc_road_in fun cdv A outer s H E hr => have B := T.bt; (gss_cons (gs_set 4 sc_road_in.nd (g_lst (gs_cons (g_name 2) gs_nil)))
    (gss_cons (gs_for (passes_of rfl) rfl (gi_range2 (by rfl) B.range (gs_cons (g_name 3) (gs_cons (toD (g_bin op_subD (g_lenP 1 (by rfl) B.len) g_int)) gs_nil))) (gg_name 5 sc_road_in.nd) (gss_one (gs_if (g_notT (g_tru (toD (g_call (cal_has_place T) hr (by decide) (by rfl) (passes_call (takes_of rfl rfl rfl rfl) (fun _ _ _ _ h => h)) (ga_cons (toE (g_peek 1 (toD (g_bin op_addD (g_name 5) g_int)))) (ga_cons (toE (g_peek 4 (g_un un_negD g_int))) ga_nil)) (arl_cons (arl_cons arl_nil)))))) (gss_one (ps_wk (ps_expr (pe_bm PySem.F.plainAttrs_list PySem.F.slot_list_append PySem.F.type_list_append mt_append (pv 4) (pa_cons (toD (g_ix ix_D (g_peek 0 (g_name 5)) g_int)) pa_nil))) app_wk)) (gss_one (ps_wk (ps_expr (pe_bm PySem.F.plainAttrs_list PySem.F.slot_list_append PySem.F.type_list_append mt_append (pv 4) (pa_cons (g_peek 4 (g_un un_negD g_int)) pa_nil))) app_wk)))))
    (gss_one (gs_ret (g_callTy call_tupleD (by rfl) B.tuple PyProof.Rows.Boot.tuple (gs_cons (g_name 4) gs_nil))))))
theorem cal_road_in (T : Txt K mg) : Cal P w K mg base 6 "road_in" 4 den_road_in := calOf T.d_road_in (ok_road_in T)
theorem ok_masks_behind (T : Txt K mg) (f : Addr) (fd : FuncData) (Fn : Fun K "masks_behind" "masks_behind" s_masks_behind f fd) : FnOk P w K mg base (L2.CX P w) 8 f fd ["book", "some"] (spD K mg 2 den_masks_behind) := ok_def (k := 7) Fn sc_masks_behind fun cdv A outer s H E hr => have B := T.bt; (gss_one (gs_ret (g_call (cal_past_masks T) hr (by decide) (by rfl) (passes_call (takes_of rfl rfl rfl rfl) (fun _ _ _ _ h => h)) (ga_cons (toE (g_peek 0 g_int)) (ga_cons (toE (toD (g_call (cal_mask_of T) hr (by decide) (by rfl) (passes_call (takes_of rfl rfl rfl rfl) (fun _ _ _ _ h => h)) (ga_cons (toE (g_name 1)) ga_nil) (arl_cons arl_nil)))) (ga_cons (toE (toD (g_callB call_lenDD (by rfl) B.len PyProof.Rows.Boot.len (gs_cons (g_peek 0 g_int) gs_nil)))) ga_nil))) (arl_cons (arl_cons (arl_cons arl_nil))))))
theorem cal_masks_behind (T : Txt K mg) : Cal P w K mg base 8 "masks_behind" 2 den_masks_behind := calOf T.d_masks_behind (ok_masks_behind T)
theorem ok_first_free (T : Txt K mg) (f : Addr) (fd : FuncData) (Fn : Fun K "first_free" "first_free" s_first_free f fd) : FnOk P w K mg base (L2.CX P w) 5 f fd ["lots", "mask"] (spD K mg 2 den_first_free) := ok_def (k := 4) Fn sc_first_free fun cdv A outer s H E hr => have B := T.bt; (gss_cons (gs_for (passes_of rfl) rfl (gi_enumB (by rfl) B.enumerate (gs_cons (g_name 0) gs_nil)) (gg_tup rfl (ggs_cons (gg_name 2 sc_first_free.nd) (ggs_cons (gg_name 3 sc_first_free.nd) ggs_nil))) (gss_one (gs_if (g_cmpT (op_eqDD (room_u hr)) (toD (g_bin op_bandD (g_name 3) (g_name 1))) g_int (nomark _)) (gss_one (gs_ret (g_move 2))) gss_nil)))
    (gss_one (gs_ret (toE g_non))))
theorem cal_first_free (T : Txt K mg) : Cal P w K mg base 5 "first_free" 2 den_first_free := calOf T.d_first_free (ok_first_free T)
theorem ok_offers_from (T : Txt K mg) (f : Addr) (fd : FuncData) (Fn : Fun K "offers_from" "offers_from" s_offers_from f fd) : FnOk P w K mg base (L2.CX P w) 8 f fd ["deeds", "version"] (spD K mg 2 den_offers_from) := ok_def (k := 7) Fn sc_offers_from fun cdv A outer s H E hr => have B := T.bt; (gss_one (gs_ret (g_comp rfl sc_offers_from.nd (gi_seq (toD (g_call (cal_writes_from T) hr (by decide) (by rfl) (passes_call (takes_of rfl rfl rfl rfl) (fun _ _ _ _ h => h)) (ga_cons (toE (g_name 0)) (ga_cons (toE (g_name 1)) ga_nil)) (arl_cons (arl_cons arl_nil))))) (own := [("number", 2)]) (blkOk_by (by kernel_rfl)) (by decide) (fun s H C cl fp => (gg_name 2 sc_offers_from.nd)) (fun s H C cl fp => gt_yes) (fun s H C cl fp => (g_tup (gs_cons (g_name 2) (gs_cons (toD (g_call (cal_masks_of T) hr (by decide) (by rfl) passL (ga_cons (toE (toD (g_ix ix_D (g_peek 0 (g_name 2)) g_int))) ga_nil) (arl_cons arl_nil))) gs_nil)))))))
theorem cal_offers_from (T : Txt K mg) : Cal P w K mg base 8 "offers_from" 2 den_offers_from := calOf T.d_offers_from (ok_offers_from T)
theorem ok_first_held (T : Txt K mg) (f : Addr) (fd : FuncData) (Fn : Fun K "first_held" "first_held" s_first_held f fd) : FnOk P w K mg base (L2.CX P w) 6 f fd ["offers", "masks"] (spD K mg 2 den_first_held) := ok_def (k := 5) Fn sc_first_held fun cdv A outer s H E hr => have B := T.bt; (gss_cons (gs_for (passes_of rfl) rfl (gi_seq (g_name 0)) (gg_tup rfl (ggs_cons (gg_name 2 sc_first_held.nd) (ggs_cons (gg_name 3 sc_first_held.nd) ggs_nil))) (gss_one (gs_if (g_cmpT op_isND (toD (g_call (cal_first_free T) hr (by decide) (by rfl) (passes_call (takes_of rfl rfl rfl rfl) (fun _ _ _ _ h => h)) (ga_cons (toE (g_name 3)) (ga_cons (toE (g_peek 1 (toD (g_bin op_addD (g_name 2) g_int)))) ga_nil)) (arl_cons (arl_cons arl_nil)))) g_non (nomark _)) (gss_one (gs_ret (g_move 2))) gss_nil)))
    (gss_one (gs_ret (toE g_non))))
theorem cal_first_held (T : Txt K mg) : Cal P w K mg base 6 "first_held" 2 den_first_held := calOf T.d_first_held (ok_first_held T)
theorem ok_hold_paper (T : Txt K mg) (f : Addr) (fd : FuncData) (Fn : Fun K "hold_paper" "hold_paper" s_hold_paper f fd) : FnOk P w K mg base (L2.CX P w) 13 f fd ["book", "some", "version"] (spD K mg 3 den_hold_paper) := ok_def (k := 12) Fn sc_hold_paper fun cdv A outer s H E hr => have B := T.bt; (gss_cons (gs_asg (g_tup (gs_cons (toD (g_call (cal_frozen T 7) hr (by decide) (by rfl) (passes_call (takes_of rfl rfl rfl rfl) (fun _ _ _ _ h => h)) (ga_cons (toE (g_name 0)) ga_nil) (arl_cons arl_nil))) (gs_cons (toD (g_call (cal_frozen T 7) hr (by decide) (by rfl) (passes_call (takes_of rfl rfl rfl rfl) (fun _ _ _ _ h => h)) (ga_cons (toE (g_name 1)) ga_nil) (arl_cons arl_nil))) gs_nil))) (gg_tup rfl (ggs_cons (gg_name 0 sc_hold_paper.nd) (ggs_cons (gg_name 1 sc_hold_paper.nd) ggs_nil))))
    (gss_cons (gs_expr (toD (g_callD (ks := ["places", "ages"]) (n := 1) (m := 4) [(true, 0), (true, 1), (false, 1), (false, 2), (true, 2)] T.d_refuse (ok_refuse T) hr (by decide) (by rfl) (passes_call (takes_of rfl rfl rfl rfl) (fun _ _ _ _ h => h)) (fun _ _ _ _ _ _ _ us its ws h1 h2 h3 => match us, its, ws, h1, h2, h3 with | [_], [_, _, _, _], [_, _], _, _, _ => ⟨_, rfl, rfl⟩) (gs_cons (g_name 0) gs_nil) (gk_cons (g_name 1) (gk_cons (g_tup (gs_cons (g_name 2) gs_nil)) gk_nil)) (dsl_cons dsl_nil) (dsl_cons (dsl_cons dsl_nil)) (okMp_by (by kernel_rfl)) rfl (by decide))))
    (gss_cons (gs_set 3 sc_hold_paper.nd (g_call (cal_masks_behind T) hr (by decide) (by rfl) (passes_call (takes_of rfl rfl rfl rfl) (fun _ _ _ _ h => h)) (ga_cons (toE (g_name 0)) (ga_cons (toE (g_name 1)) ga_nil)) (arl_cons (arl_cons arl_nil))))
    (gss_cons (gs_set 4 sc_hold_paper.nd (g_call (cal_first_held T) hr (by decide) (by rfl) (passes_call (takes_of rfl rfl rfl rfl) (fun _ _ _ _ h => h)) (ga_cons (toE (toD (g_call (cal_offers_from T) hr (by decide) (by rfl) (passes_call (takes_of rfl rfl rfl rfl) (fun _ _ _ _ h => h)) (ga_cons (toE (g_peek 0 g_int)) (ga_cons (toE (g_name 2)) ga_nil)) (arl_cons (arl_cons arl_nil))))) (ga_cons (toE (g_name 3)) ga_nil)) (arl_cons (arl_cons arl_nil))))
    (gss_cons (gs_if (g_cmpT op_isND (g_name 4) g_non (nomark _)) (gss_one (gs_ret (toE g_non))) gss_nil)
    (gss_cons (gs_setComp (i := 5) rfl sc_hold_paper.nd rfl rfl rfl (gi_seq (toD (g_ix ix_D (toD (g_ix ix_D (g_peek 0 g_int) (g_name 4))) g_int))) (own := [("place", 6)]) (blkOk_by (by kernel_rfl)) (by decide) (fun s H C cl fp => (gg_name 6 sc_hold_paper.nd)) (fun s H C cl fp => (gt_one (g_tru (toD (g_call (cal_has_place T) hr (by decide) (by rfl) passL (ga_cons (toE (g_peek 3 (toD (g_bin op_addD (g_name 4) g_int)))) (ga_cons (toE (g_name 6)) ga_nil)) (arl_cons (arl_cons arl_nil))))))) (fun s H C cl fp => (g_name 6)))
    (gss_one (gs_ret (toE (g_tup (gs_cons (g_name 4) (gs_cons (toD (g_callTy call_tupleD (by rfl) B.tuple PyProof.Rows.Boot.tuple (gs_cons (toD (g_comp rfl sc_hold_paper.nd (gi_seq (g_name 5)) (own := [("place", 6)]) (blkOk_by (by kernel_rfl)) (by decide) (fun s H C cl fp => (gg_name 6 sc_hold_paper.nd)) (fun s H C cl fp => gt_yes) (fun s H C cl fp => (toD (g_call (cal_road_in T) hr (by decide) (by rfl) passL (ga_cons (toE (g_peek 0 g_int)) (ga_cons (toE (g_name 3)) (ga_cons (toE (g_name 6)) (ga_cons (toE (toD (g_bin op_addD (g_name 4) g_int))) ga_nil)))) (arl_cons (arl_cons (arl_cons (arl_cons arl_nil))))))))) gs_nil))) gs_nil))))))))))))
theorem cal_hold_paper (T : Txt K mg) : Cal P w K mg base 13 "hold_paper" 3 den_hold_paper := calOf T.d_hold_paper (ok_hold_paper T)
theorem ok_held_by (T : Txt K mg) (f : Addr) (fd : FuncData) (Fn : Fun K "held_by" "held_by" s_held_by f fd) : FnOk P w K mg base (L2.CX P w) 9 f fd ["book", "offers", "some"] (spD K mg 3 den_held_by) := ok_def (k := 8) Fn sc_held_by fun cdv A outer s H E hr => have B := T.bt; (gss_cons (gs_set 3 sc_held_by.nd (g_call (cal_masks_behind T) hr (by decide) (by rfl) (passes_call (takes_of rfl rfl rfl rfl) (fun _ _ _ _ h => h)) (ga_cons (toE (g_name 0)) (ga_cons (toE (g_name 2)) ga_nil)) (arl_cons (arl_cons arl_nil))))
    (gss_cons (gs_set 4 sc_held_by.nd (toE g_int))
    (gss_cons (gs_for (passes_of rfl) rfl (gi_seq (g_name 1)) (gg_tup rfl (ggs_cons (gg_name 5 sc_held_by.nd) (ggs_cons (gg_name 6 sc_held_by.nd) ggs_nil))) (gss_one (gs_if (g_cmpT op_isND (toD (g_call (cal_first_free T) hr (by decide) (by rfl) (passes_call (takes_of rfl rfl rfl rfl) (fun _ _ _ _ h => h)) (ga_cons (toE (g_name 6)) (ga_cons (toE (g_peek 3 (toD (g_bin op_addD (g_name 5) g_int)))) ga_nil)) (arl_cons (arl_cons arl_nil)))) g_non (nomark _)) (gss_one (gs_set 4 sc_held_by.nd (g_ix ix_D (toD (g_ix ix_D (g_peek 0 g_int) (g_name 5))) g_int))) gss_nil)))
    (gss_one (gs_ret (g_move 4))))))
theorem cal_held_by (T : Txt K mg) : Cal P w K mg base 9 "held_by" 3 den_held_by := calOf T.d_held_by (ok_held_by T)
theorem ok_missed_versions (T : Txt K mg) (f : Addr) (fd : FuncData) (Fn : Fun K "missed_versions" "missed_versions" s_missed_versions f fd) : FnOk P w K mg base (L2.CX P w) 14 f fd ["book", "owners", "asked"] (spD K mg 3 den_missed_versions) := ok_def (k := 13) Fn sc_missed_versions fun cdv A outer s H E hr => have B := T.bt; (gss_cons (gs_asg (g_tup (gs_cons (toD (g_call (cal_frozen T 7) hr (by decide) (by rfl) (passes_call (takes_of rfl rfl rfl rfl) (fun _ _ _ _ h => h)) (ga_cons (toE (g_name 0)) ga_nil) (arl_cons arl_nil))) (gs_cons (toD (g_call (cal_frozen T 7) hr (by decide) (by rfl) (passes_call (takes_of rfl rfl rfl rfl) (fun _ _ _ _ h => h)) (ga_cons (toE (g_name 1)) ga_nil) (arl_cons arl_nil))) gs_nil))) (gg_tup rfl (ggs_cons (gg_name 0 sc_missed_versions.nd) (ggs_cons (gg_name 1 sc_missed_versions.nd) ggs_nil))))
    (gss_cons (gs_expr (toD (g_callD (ks := ["places"]) (n := 1) (m := 4) [(true, 0), (true, 1), (false, 1), (false, 2), (false, 3)] T.d_refuse (ok_refuse T) hr (by decide) (by rfl) (passes_call (takes_of rfl rfl rfl rfl) (fun _ _ _ _ h => h)) (fun _ _ _ _ _ _ _ us its ws h1 h2 h3 => match us, its, ws, h1, h2, h3 with | [_], [_, _, _, _], [_], _, _, _ => ⟨_, rfl, rfl⟩) (gs_cons (g_name 0) gs_nil) (gk_cons (g_name 1) gk_nil) (dsl_cons dsl_nil) (dsl_cons dsl_nil) (okMp_by (by kernel_rfl)) rfl (by decide))))
    (gss_cons (gs_set 3 sc_missed_versions.nd (toE (toD (g_call (cal_offers_from T) hr (by decide) (by rfl) (passes_call (takes_of rfl rfl rfl rfl) (fun _ _ _ _ h => h)) (ga_cons (toE (g_peek 0 g_int)) (ga_cons (toE g_int) ga_nil)) (arl_cons (arl_cons arl_nil))))))
    (gss_cons (gs_asg (toD (g_comp rfl sc_missed_versions.nd (gi_seq (toD (g_call (cal_choices T 8) hr (by decide) (by rfl) (passes_call (takes_of rfl rfl rfl rfl) (fun _ _ _ _ h => h)) (ga_cons (toE (g_name 1)) (ga_cons (toE (g_name 2)) ga_nil)) (arl_cons (arl_cons arl_nil))))) (own := [("some", 5)]) (blkOk_by (by kernel_rfl)) (by decide) (fun s H C cl fp => (gg_name 5 sc_missed_versions.nd)) (fun s H C cl fp => gt_yes) (fun s H C cl fp => (toD (g_call (cal_held_by T) hr (by decide) (by rfl) passL (ga_cons (toE (g_name 0)) (ga_cons (toE (g_name 3)) (ga_cons (toE (g_name 5)) ga_nil))) (arl_cons (arl_cons (arl_cons arl_nil)))))))) (gg_name 4 sc_missed_versions.nd))
    (gss_cons (gs_if (g_cmpT (op_eqDD (room_u hr)) (g_lenP 4 (by rfl) B.len) g_int (nomark _)) (gss_one (gs_ret (toE (g_tup gs_nil)))) gss_nil)
    (gss_one (gs_ret (g_callTy call_tupleD (by rfl) B.tuple PyProof.Rows.Boot.tuple (gs_cons (toD (g_comp rfl sc_missed_versions.nd (gi_seq (g_peek 0 g_int)) (own := [("deed", 6)]) (blkOk_by (by kernel_rfl)) (by decide) (fun s H C cl fp => (gg_name 6 sc_missed_versions.nd)) (fun s H C cl fp => (gt_one (g_wT (g_andT (g_tru (toD (g_call (cal_is_write T) hr (by decide) (by rfl) passL (ga_cons (toE (g_name 6)) ga_nil) (arl_cons arl_nil)))) (g_and1 (g_cmpT op_gtD (g_peek 6 g_int) (toD (g_callB (call_minD rfl) (by rfl) B.min PyProof.Rows.Boot.min (gs_cons (g_name 4) gs_nil))) (nomark _))))))) (fun s H C cl fp => (g_peek 6 g_int)))) gs_nil)))))))))
theorem cal_missed_versions (T : Txt K mg) : Cal P w K mg base 14 "missed_versions" 3 den_missed_versions := calOf T.d_missed_versions (ok_missed_versions T)
theorem ok_box (T : Txt K mg) (f : Addr) (fd : FuncData) (Fn : Fun K "_law_box" "_law_box" s_box f fd) : FnOk P w K mg base (L2.CX P w) 5 f fd ["script", "k"] (spD K mg 2 den_box) := ok_def (k := 4) Fn sc_box fun cdv A outer s H E hr => have B := T.bt; (gss_cons (gs_set 2 sc_box.nd (toE (g_if (g_cmpT op_ltD (g_name 1) (g_lenP 0 (by rfl) B.len) (nomark _)) (g_peek 0 (g_name 1)) g_int)))
    (gss_one (gs_ret (g_lst (gs_cons (toD (g_bin op_mulD (toD (g_callB call_absD (by rfl) B.abs PyProof.Rows.Boot.abs (gs_cons (g_name 2) gs_nil))) (toD (g_callTy call_intD (by rfl) B.int PyProof.Rows.Boot.int (gs_cons (toD (g_cmp op_geD (toD (g_callB call_absD (by rfl) B.abs PyProof.Rows.Boot.abs (gs_cons (g_name 2) gs_nil))) (toD (g_bin op_powD g_int g_int)) (nomark _))) gs_nil))))) (gs_cons (toD (g_bin op_addD (toD (g_bin op_addD (toD (g_bin op_modD (toD (g_callTy call_intD (by rfl) B.int PyProof.Rows.Boot.int (gs_cons (g_name 2) gs_nil))) g_int)) (toD (g_bin op_mulD g_int (g_name 1))))) g_int)) (gs_cons g_int gs_nil)))))))
theorem cal_box (T : Txt K mg) : Cal P w K mg base 5 "_law_box" 2 den_box := calOf T.d_box (ok_box T)
theorem ok_take (T : Txt K mg) (f : Addr) (fd : FuncData) (Fn : Fun K "_law_take" "_law_take" s_take f fd) : FnOk P w K mg base (L2.CX P w) 5 f fd ["tin", "below_so"] (spD K mg 2 den_take) := ok_def (k := 4) Fn sc_take fun cdv A outer s H E hr => have B := T.bt; (gss_cons (gs_if (g_cmpT op_gtD (g_peek 0 g_int) g_int (nomark _)) (gss_cons (gs_set 5 sc_take.nd (g_bin op_modD (toD (g_callTy call_intD (by rfl) B.int PyProof.Rows.Boot.int (gs_cons (g_peek 0 g_int) gs_nil))) (g_name 1)))
    (gss_cons (gs_setIx 0 (toD (g_bin op_fdivD (g_peek 0 g_int) (g_name 1))) g_int)
    (gss_one (gs_ret (g_move 5))))) gss_nil)
    (gss_cons (gs_setIx 0 (toD (g_bin op_addD (g_peek 0 g_int) g_int)) g_int)
    (gss_cons (gs_set 2 sc_take.nd (g_bin op_modD (toD (g_callTy call_intD (by rfl) B.int PyProof.Rows.Boot.int (gs_cons (toD (g_bin op_mulD (toD (g_bin op_addD (g_peek 0 g_int) (toD (g_bin op_mulD g_int (g_peek 0 g_int))))) (toD (g_bin op_addD g_int (g_peek 0 g_int))))) gs_nil))) g_int))
    (gss_cons (gs_set 3 sc_take.nd (g_bin op_addD (toD (g_bin op_modD (toD (g_callTy call_intD (by rfl) B.int PyProof.Rows.Boot.int (gs_cons (g_name 2) gs_nil))) g_int)) g_int))
    (gss_cons (gs_set 4 sc_take.nd (g_bin op_modD (toD (g_callTy call_intD (by rfl) B.int PyProof.Rows.Boot.int (gs_cons (toD (g_bin op_mulD (toD (g_bin op_addD (toD (g_bin op_addD (g_name 2) (g_peek 0 g_int))) (toD (g_bin op_fdivD (g_peek 0 g_int) g_int)))) (g_name 3))) gs_nil))) g_int))
    (gss_one (gs_ret (g_bin op_modD (toD (g_callTy call_intD (by rfl) B.int PyProof.Rows.Boot.int (gs_cons (toD (g_bin op_fdivD (toD (g_bin op_modD (toD (g_callTy call_intD (by rfl) B.int PyProof.Rows.Boot.int (gs_cons (toD (g_bin op_addD (toD (g_bin op_mulD (g_name 4) g_int)) (g_name 2))) gs_nil))) g_int)) g_int)) gs_nil))) (g_name 1)))))))))
theorem cal_take (T : Txt K mg) : Cal P w K mg base 5 "_law_take" 2 den_take := calOf T.d_take (ok_take T)
theorem ok_cells (T : Txt K mg) (f : Addr) (fd : FuncData) (Fn : Fun K "_law_cells" "_law_cells" s_cells f fd) : FnOk P w K mg base (L2.CX P w) 5 f fd ["script", "most_so"] (spD K mg 2 den_cells) := ok_def (k := 4) Fn sc_cells fun cdv A outer s H E hr => have B := T.bt; (gss_cons (gs_set 2 sc_cells.nd (g_or (g_callTy call_listDD (by rfl) B.list PyProof.Rows.Boot.list (gs_cons (toD (g_slP 0 go_none (go_some (g_name 1)))) gs_nil)) (g_oneE (g_lst (gs_cons g_int gs_nil)))))
    (gss_cons (gs_for (passes_of rfl) rfl (gi_enumB (by rfl) B.enumerate (gs_cons (toD (g_slP 0 (go_some (g_name 1)) (go_some g_int))) gs_nil)) (gg_tup rfl (ggs_cons (gg_name 3 sc_cells.nd) (ggs_cons (gg_name 4 sc_cells.nd) ggs_nil))) (gss_cons (gs_set 5 sc_cells.nd (g_bin op_modD (toD (g_callTy call_intD (by rfl) B.int PyProof.Rows.Boot.int (gs_cons (g_name 3) gs_nil))) (g_name 1)))
    (gss_one (gs_setIx 2 (toD (g_bin op_addD (g_peek 2 (g_name 5)) (toD (g_bin op_mulD (g_name 4) (toD (g_bin op_addD (g_name 3) g_int)))))) (g_name 5)))))
    (gss_one (gs_ret (g_move 2)))))
theorem cal_cells (T : Txt K mg) : Cal P w K mg base 5 "_law_cells" 2 den_cells := calOf T.d_cells (ok_cells T)
theorem ok_of (T : Txt K mg) (f : Addr) (fd : FuncData) (Fn : Fun K "_law_of" "_law_of" s_of f fd) : FnOk P w K mg base (L2.CX P w) 6 f fd ["tin", "goods_so"] (spD K mg 2 den_of) := ok_def (k := 5) Fn sc_of fun cdv A outer s H E hr => have B := T.bt; (gss_one (gs_ret (toE (g_peek 1 (toD (g_call (cal_take T) hr (by decide) (by rfl) (passes_call (takes_of rfl rfl rfl rfl) (fun _ _ _ _ h => h)) (ga_lend 0 (ga_cons (toE (g_lenP 1 (by rfl) B.len)) ga_nil)) (arl_lend (arl_cons arl_nil))))))))
theorem cal_of (T : Txt K mg) : Cal P w K mg base 6 "_law_of" 2 den_of := calOf T.d_of (ok_of T)
theorem ok_pick (T : Txt K mg) (f : Addr) (fd : FuncData) (Fn : Fun K "_law_pick" "_law_pick" s_pick f fd) : FnOk P w K mg base (L2.CX P w) 6 f fd ["tin", "goods_so", "count_so"] (spD K mg 3 den_pick) := ok_def (k := 5) Fn sc_pick fun cdv A outer s H E hr => have B := T.bt; (gss_cons (gs_parA 4 5 rfl sc_pick.nd rfl rfl (by decide) (by kernel_rfl) (by kernel_rfl) (ga_cons (g_callTy call_listDD (by rfl) B.list PyProof.Rows.Boot.list (gs_cons (g_name 1) gs_nil)) (ga_cons (g_lst gs_nil) ga_nil)) (by kernel_rfl))
    (gss_cons (gs_for (passes_of rfl) rfl (gi_range1 (by rfl) B.range (gs_cons (toD (g_callB (call_minD rfl) (by rfl) B.min PyProof.Rows.Boot.min (gs_cons (toD (g_callTy call_intD (by rfl) B.int PyProof.Rows.Boot.int (gs_cons (g_name 2) gs_nil))) (gs_cons (g_lenP 4 (by rfl) B.len) gs_nil)))) gs_nil)) (gg_name 3 sc_pick.nd) (gss_one (ps_wk (ps_expr (pe_bm PySem.F.plainAttrs_list PySem.F.slot_list_append PySem.F.type_list_append mt_append (pv 5) (pa_cons (pe_wk (pe_bm PySem.F.plainAttrs_list PySem.F.slot_list_pop PySem.F.type_list_pop mt_popAt (pv 4) (pa_cons (toD (g_call (cal_take T) hr (by decide) (by rfl) (passes_call (takes_of rfl rfl rfl rfl) (fun _ _ _ _ h => h)) (ga_lend 0 (ga_cons (toE (g_lenP 4 (by rfl) B.len)) ga_nil)) (arl_lend (arl_cons arl_nil)))) pa_nil)) popAt_wk) pa_nil))) app_wk)))
    (gss_one (gs_ret (g_move 5)))))
theorem cal_pick (T : Txt K mg) : Cal P w K mg base 6 "_law_pick" 3 den_pick := calOf T.d_pick (ok_pick T)
theorem cal_lists (T : Txt K mg) : ∀ n : Nat, Cal P w K mg base (5 + n) "_law_lists" 1 (den_lists n)
  | 0 => calOf T.d_lists fun f fd Fn => ok_none
  | n + 1 => calOf T.d_lists fun f fd Fn => ok_def (k := 5 + n) Fn sc_lists fun cdv A outer s H E hr => have cs := cal_lists T n; have B := T.bt; (gss_one (gs_ret (toE (g_if (g_tru (g_isi2 .lst .tup (by rfl) B.isinstance (by rfl) B.list PyProof.Rows.Boot.list (by rfl) B.tuple PyProof.Rows.Boot.tuple (g_name 0))) (toD (g_comp rfl sc_lists.nd (gi_seq (g_name 0)) (own := [("bit", 1)]) (blkOk_by (by kernel_rfl)) (by decide) (fun s H C cl fp => (gg_name 1 sc_lists.nd)) (fun s H C cl fp => gt_yes) (fun s H C cl fp => (toD (g_call cs hr (by omega) (by rfl) passL (ga_cons (toE (g_name 1)) ga_nil) (arl_cons arl_nil)))))) (g_name 0)))))
theorem cal_same (T : Txt K mg) : ∀ n : Nat, Cal P w K mg base (5 + n) "_law_same" 2 (den_same n)
  | 0 => calOf T.d_same fun f fd Fn => ok_none
  | n + 1 => calOf T.d_same fun f fd Fn => ok_def (k := 5 + n) Fn sc_same fun cdv A outer s H E hr => have cs := cal_same T n; have B := T.bt; (gss_cons (gs_if (g_tru (g_isi2 .lst .tup (by rfl) B.isinstance (by rfl) B.list PyProof.Rows.Boot.list (by rfl) B.tuple PyProof.Rows.Boot.tuple (g_name 1))) (gss_cons (gs_if (g_wT (g_orT (g_cmpT (op_neDD (room_u hr)) (g_isi .lst (by rfl) B.isinstance (by rfl) B.list PyProof.Rows.Boot.list (g_name 0)) (g_isi .lst (by rfl) B.isinstance (by rfl) B.list PyProof.Rows.Boot.list (g_name 1)) (nomark _)) (g_or1 (g_cmpT (op_neDD (room_u hr)) (g_isi .tup (by rfl) B.isinstance (by rfl) B.tuple PyProof.Rows.Boot.tuple (g_name 0)) (g_isi .tup (by rfl) B.isinstance (by rfl) B.tuple PyProof.Rows.Boot.tuple (g_name 1)) (nomark _))))) (gss_one (gs_ret (toE g_bl))) gss_nil)
    (gss_one (gs_ret (toE (g_and (toD (g_cmp (op_eqDD (room_u hr)) (g_lenP 0 (by rfl) B.len) (g_lenP 1 (by rfl) B.len) (nomark _))) (g_one (toD (g_callB (call_allD rfl) (by rfl) B.all PyProof.Rows.Boot.all (gs_cons (toD (g_comp rfl sc_same.nd (gi_zip (by rfl) B.zip (gs_cons (g_name 0) (gs_cons (g_name 1) gs_nil))) (own := [("mine", 2), ("its", 3)]) (blkOk_by (by kernel_rfl)) (by decide) (fun s H C cl fp => (gg_tup rfl (ggs_cons (gg_name 2 sc_same.nd) (ggs_cons (gg_name 3 sc_same.nd) ggs_nil)))) (fun s H C cl fp => gt_yes) (fun s H C cl fp => (toD (g_call cs hr (by omega) (by rfl) passL (ga_cons (toE (g_name 2)) (ga_cons (toE (g_name 3)) ga_nil)) (arl_cons (arl_cons arl_nil))))))) gs_nil))))))))) gss_nil)
    (gss_cons (gs_if (g_wT (g_orT (g_cmpT op_isND (g_name 1) g_non (nomark _)) (g_or1 (g_tru (g_isi2 .bl .str (by rfl) B.isinstance (by rfl) B.bool PyProof.Rows.Boot.bool (by rfl) B.str PyProof.Rows.Boot.str (g_name 1)))))) (gss_one (gs_ret (toE (g_and (toD (g_cmp (op_eqDD (room_u hr)) (g_name 0) (g_name 1) (nomark _))) (g_and (toD (g_cmp (op_eqDD (room_u hr)) (g_isi .bl (by rfl) B.isinstance (by rfl) B.bool PyProof.Rows.Boot.bool (g_name 0)) (g_isi .bl (by rfl) B.isinstance (by rfl) B.bool PyProof.Rows.Boot.bool (g_name 1)) (nomark _))) (g_one (toD (g_cmp (op_eqDD (room_u hr)) (toD (g_cmp op_isND (g_name 0) g_non (nomark _))) (toD (g_cmp op_isND (g_name 1) g_non (nomark _))) (nomark _))))))))) gss_nil)
    (gss_one (gs_ret (toE (g_and (g_isi .int (by rfl) B.isinstance (by rfl) B.int PyProof.Rows.Boot.int (g_name 0)) (g_and (g_not (g_isi .bl (by rfl) B.isinstance (by rfl) B.bool PyProof.Rows.Boot.bool (g_name 0))) (g_one (toD (g_cmp (op_eqDD (room_u hr)) (g_name 0) (g_name 1) (nomark _)))))))))))
theorem ok_lots (T : Txt K mg) (f : Addr) (fd : FuncData) (Fn : Fun K "_law_lots" "_law_lots" s_lots f fd) : FnOk P w K mg base (L2.CX P w) 5 f fd ["goods_so"] (spD K mg 1 den_lots) := ok_def (k := 4) Fn sc_lots fun cdv A outer s H E hr => have B := T.bt; (gss_cons (gs_set 1 sc_lots.nd (g_lst (gs_cons (g_tup gs_nil) gs_nil)))
    (gss_cons (gs_for (passes_of rfl) rfl (gi_seq (g_name 0)) (gg_name 2 sc_lots.nd) (gss_one (gs_set 1 sc_lots.nd (g_bin op_addD (g_name 1) (toD (g_comp rfl sc_lots.nd (gi_seq (g_name 1)) (own := [("its", 3)]) (blkOk_by (by kernel_rfl)) (by decide) (fun s H C cl fp => (gg_name 3 sc_lots.nd)) (fun s H C cl fp => gt_yes) (fun s H C cl fp => (toD (g_bin op_addD (g_name 3) (g_tup (gs_cons (g_name 2) gs_nil)))))))))))
    (gss_one (gs_ret (g_callB (call_sort2D (room_u1 hr)) (by rfl) B.sorted PyProof.Rows.Boot.sorted (gs_cons (g_name 1) gs_nil))))))
theorem cal_lots (T : Txt K mg) : Cal P w K mg base 5 "_law_lots" 1 den_lots := calOf T.d_lots (ok_lots T)
theorem ok_counted (T : Txt K mg) (f : Addr) (fd : FuncData) (Fn : Fun K "_law_counted" "_law_counted" s_counted f fd) : FnOk P w K mg base (L2.CX P w) 6 f fd ["goods_so", "need_so"] (spD K mg 2 den_counted) := ok_def (k := 5) Fn sc_counted fun cdv A outer s H E hr => have B := T.bt; (gss_one (gs_ret (g_comp rfl sc_counted.nd (gi_seq (toD (g_call (cal_lots T) hr (by decide) (by rfl) (passes_call (takes_of rfl rfl rfl rfl) (fun _ _ _ _ h => h)) (ga_cons (toE (g_name 0)) ga_nil) (arl_cons arl_nil)))) (own := [("crew", 2)]) (blkOk_by (by kernel_rfl)) (by decide) (fun s H C cl fp => (gg_name 2 sc_counted.nd)) (fun s H C cl fp => (gt_one (g_cmpT (op_eqDD (room_u hr)) (g_lenP 2 (by rfl) B.len) (g_name 1) (nomark _)))) (fun s H C cl fp => (g_name 2)))))
theorem cal_counted (T : Txt K mg) : Cal P w K mg base 6 "_law_counted" 2 den_counted := calOf T.d_counted (ok_counted T)
theorem ok_within (T : Txt K mg) (f : Addr) (fd : FuncData) (Fn : Fun K "_law_within" "_law_within" s_within f fd) : FnOk P w K mg base (L2.CX P w) 5 f fd ["crew", "wide_so"] (spD K mg 2 den_within) := ok_def (k := 4) Fn sc_within fun cdv A outer s H E hr => have B := T.bt; (gss_one (gs_ret (g_cmp (op_eqDD (room_u hr)) (toD (g_comp rfl sc_within.nd (gi_seq (g_name 0)) (own := [("j", 2)]) (blkOk_by (by kernel_rfl)) (by decide) (fun s H C cl fp => (gg_name 2 sc_within.nd)) (fun s H C cl fp => (gt_one (g_cmpT (op_notInDD (room_u1 hr)) (g_name 2) (g_name 1) (by rfl)))) (fun s H C cl fp => (g_name 2)))) (toD (g_lst gs_nil)) (nomark _))))
theorem cal_within (T : Txt K mg) : Cal P w K mg base 5 "_law_within" 2 den_within := calOf T.d_within (ok_within T)
theorem ok_apart (T : Txt K mg) (f : Addr) (fd : FuncData) (Fn : Fun K "_law_apart" "_law_apart" s_apart f fd) : FnOk P w K mg base (L2.CX P w) 5 f fd ["crew", "wide_so"] (spD K mg 2 den_apart) := ok_def (k := 4) Fn sc_apart fun cdv A outer s H E hr => have B := T.bt; (gss_one (gs_ret (g_cmp (op_eqDD (room_u hr)) (toD (g_comp rfl sc_apart.nd (gi_seq (g_name 0)) (own := [("j", 2)]) (blkOk_by (by kernel_rfl)) (by decide) (fun s H C cl fp => (gg_name 2 sc_apart.nd)) (fun s H C cl fp => (gt_one (g_cmpT (op_inDD (room_u1 hr)) (g_name 2) (g_name 1) (by rfl)))) (fun s H C cl fp => (g_name 2)))) (toD (g_lst gs_nil)) (nomark _))))
theorem cal_apart (T : Txt K mg) : Cal P w K mg base 5 "_law_apart" 2 den_apart := calOf T.d_apart (ok_apart T)
theorem ok_least (T : Txt K mg) (f : Addr) (fd : FuncData) (Fn : Fun K "_law_least" "_law_least" s_least f fd) : FnOk P w K mg base (L2.CX P w) 6 f fd ["lots_so"] (spD K mg 1 den_least) := ok_def (k := 5) Fn sc_least fun cdv A outer s H E hr => have B := T.bt; (gss_cons (gs_set 1 sc_least.nd (g_lst gs_nil))
    (gss_cons (gs_for (passes_of rfl) rfl (gi_seq (toD (g_sortSet rfl (room_u1 hr) (by rfl) B.sorted PyProof.Rows.Boot.sorted (by rfl) B.set PyProof.Rows.Boot.set (gs_cons (g_name 0) gs_nil)))) (gg_name 2 sc_least.nd) (gss_one (gs_if (g_cmpT (op_eqDD (room_u hr)) (toD (g_comp rfl sc_least.nd (gi_seq (g_name 0)) (own := [("its", 3)]) (blkOk_by (by kernel_rfl)) (by decide) (fun s H C cl fp => (gg_name 3 sc_least.nd)) (fun s H C cl fp => (gt_one (g_wT (g_andT (g_cmpT (op_neDD (room_u hr)) (g_name 3) (g_name 2) (nomark _)) (g_and1 (g_tru (toD (g_call (cal_within T) hr (by decide) (by rfl) passL (ga_cons (toE (g_name 3)) (ga_cons (toE (g_name 2)) ga_nil)) (arl_cons (arl_cons arl_nil)))))))))) (fun s H C cl fp => g_int))) (toD (g_lst gs_nil)) (nomark _)) (gss_one (ps_wk (ps_expr (pe_bm PySem.F.plainAttrs_list PySem.F.slot_list_append PySem.F.type_list_append mt_append (pv 1) (pa_cons (g_name 2) pa_nil))) app_wk)) gss_nil)))
    (gss_one (gs_ret (g_callTy call_tupleD (by rfl) B.tuple PyProof.Rows.Boot.tuple (gs_cons (g_name 1) gs_nil))))))
theorem cal_least (T : Txt K mg) : Cal P w K mg base 6 "_law_least" 1 den_least := calOf T.d_least (ok_least T)
theorem ok_room (T : Txt K mg) (f : Addr) (fd : FuncData) (Fn : Fun K "_law_room" "_law_room" s_room f fd) : FnOk P w K mg base (L2.CX P w) 6 f fd ["kin_so", "crew"] (spD K mg 2 den_room) := ok_def (k := 5) Fn sc_room fun cdv A outer s H E hr => have B := T.bt; (gss_one (gs_ret (g_cmp (op_neDD (room_u hr)) (toD (g_comp rfl sc_room.nd (gi_seq (g_name 0)) (own := [("its", 2)]) (blkOk_by (by kernel_rfl)) (by decide) (fun s H C cl fp => (gg_name 2 sc_room.nd)) (fun s H C cl fp => (gt_one (g_tru (toD (g_call (cal_apart T) hr (by decide) (by rfl) passL (ga_cons (toE (g_name 2)) (ga_cons (toE (g_name 1)) ga_nil)) (arl_cons (arl_cons arl_nil))))))) (fun s H C cl fp => g_int))) (toD (g_lst gs_nil)) (nomark _))))
theorem cal_room (T : Txt K mg) : Cal P w K mg base 6 "_law_room" 2 den_room := calOf T.d_room (ok_room T)
theorem ok_kin (T : Txt K mg) (f : Addr) (fd : FuncData) (Fn : Fun K "_law_kin" "_law_kin" s_kin f fd) : FnOk P w K mg base (L2.CX P w) 7 f fd ["tin", "homes_so"] (spD K mg 2 den_kin) := ok_def (k := 6) Fn sc_kin fun cdv A outer s H E hr => have B := T.bt; (gss_cons (gs_par 3 4 rfl sc_kin.nd rfl rfl (by decide) (by kernel_rfl) (by kernel_rfl) (gs_cons (toD (g_call (cal_take T) hr (by decide) (by rfl) (passes_call (takes_of rfl rfl rfl rfl) (fun _ _ _ _ h => h)) (ga_lend 0 (ga_cons (toE g_int) ga_nil)) (arl_lend (arl_cons arl_nil)))) (gs_cons (toD (g_bin op_addD g_int (toD (g_call (cal_take T) hr (by decide) (by rfl) (passes_call (takes_of rfl rfl rfl rfl) (fun _ _ _ _ h => h)) (ga_lend 0 (ga_cons (toE (g_lenP 1 (by rfl) B.len)) ga_nil)) (arl_lend (arl_cons arl_nil)))))) gs_nil)) (by kernel_rfl))
    (gss_cons (gs_if (g_cmpT op_gtD (g_name 3) g_int (nomark _)) (gss_one (gs_ret (g_callTy call_tupleD (by rfl) B.tuple PyProof.Rows.Boot.tuple (gs_cons (toD (g_call (cal_counted T) hr (by decide) (by rfl) (passes_call (takes_of rfl rfl rfl rfl) (fun _ _ _ _ h => h)) (ga_cons (toE (g_name 1)) (ga_cons (toE (g_name 4)) ga_nil)) (arl_cons (arl_cons arl_nil)))) gs_nil)))) gss_nil)
    (gss_cons (gs_setComp (i := 2) rfl sc_kin.nd rfl rfl rfl (gi_seq (toD (g_call (cal_lots T) hr (by decide) (by rfl) (passes_call (takes_of rfl rfl rfl rfl) (fun _ _ _ _ h => h)) (ga_cons (toE (g_name 1)) ga_nil) (arl_cons arl_nil)))) (own := [("crew", 5)]) (blkOk_by (by kernel_rfl)) (by decide) (fun s H C cl fp => (gg_name 5 sc_kin.nd)) (fun s H C cl fp => (gt_one (g_cmpT (op_neDD (room_u hr)) (g_name 5) (g_tup gs_nil) (nomark _)))) (fun s H C cl fp => (g_name 5)))
    (gss_one (gs_ret (g_call (cal_least T) hr (by decide) (by rfl) (passes_call (takes_of rfl rfl rfl rfl) (fun _ _ _ _ h => h)) (ga_cons (toE (toD (g_call (cal_pick T) hr (by decide) (by rfl) (passes_call (takes_of rfl rfl rfl rfl) (fun _ _ _ _ h => h)) (ga_lend 0 (ga_cons (toE (g_name 2)) (ga_cons (toE (toD (g_bin op_addD g_int (toD (g_call (cal_take T) hr (by decide) (by rfl) (passes_call (takes_of rfl rfl rfl rfl) (fun _ _ _ _ h => h)) (ga_lend 0 (ga_cons (toE g_int) ga_nil)) (arl_lend (arl_cons arl_nil))))))) ga_nil))) (arl_lend (arl_cons (arl_cons arl_nil)))))) ga_nil) (arl_cons arl_nil)))))))
theorem cal_kin (T : Txt K mg) : Cal P w K mg base 7 "_law_kin" 2 den_kin := calOf T.d_kin (ok_kin T)
theorem ok_deed (T : Txt K mg) (f : Addr) (fd : FuncData) (Fn : Fun K "_law_deed" "_law_deed" s_deed f fd) : FnOk P w K mg base (L2.CX P w) 8 f fd ["tin", "many_so", "word_so", "tick_so", "rank_so"] (spD K mg 5 den_deed) := ok_def (k := 7) Fn sc_deed fun cdv A outer s H E hr => have B := T.bt; (gss_cons (gs_set 5 sc_deed.nd (g_lstRg1 rfl (by rfl) B.list (by rfl) B.range (g_name 1)))
    (gss_cons (gs_if (g_cmpT op_inW (g_name 2) (g_tup (gs_cons g_str (gs_cons g_str gs_nil))) (by rfl)) (gss_cons (gs_set 7 sc_deed.nd (g_callTy call_tupleD (by rfl) B.tuple PyProof.Rows.Boot.tuple (gs_cons (toD (g_callB (call_sort2D (room_u1 hr)) (by rfl) B.sorted PyProof.Rows.Boot.sorted (gs_cons (toD (g_call (cal_pick T) hr (by decide) (by rfl) (passes_call (takes_of rfl rfl rfl rfl) (fun _ _ _ _ h => h)) (ga_lend 0 (ga_cons (toE (g_name 5)) (ga_cons (toE (toD (g_bin op_addD g_int (toD (g_call (cal_take T) hr (by decide) (by rfl) (passes_call (takes_of rfl rfl rfl rfl) (fun _ _ _ _ h => h)) (ga_lend 0 (ga_cons (toE (g_name 1)) ga_nil)) (arl_lend (arl_cons arl_nil))))))) ga_nil))) (arl_lend (arl_cons (arl_cons arl_nil))))) gs_nil))) gs_nil)))
    (gss_one (gs_ret (toE (g_tup (gs_cons (g_name 2) (gs_cons (g_name 3) (gs_cons (g_name 4) (gs_cons (g_name 7) (gs_cons (toD (g_call (cal_kin T) hr (by decide) (by rfl) (passes_call (takes_of rfl rfl rfl rfl) (fun _ _ _ _ h => h)) (ga_lend 0 (ga_cons (toE (g_name 7)) ga_nil)) (arl_lend (arl_cons arl_nil)))) gs_nil)))))))))) gss_nil)
    (gss_cons (gs_if (g_cmpT (op_eqDD (room_u hr)) (g_name 2) g_str (nomark _)) (gss_one (gs_ret (toE (g_tup (gs_cons (g_name 2) (gs_cons (g_name 3) gs_nil)))))) gss_nil)
    (gss_cons (gs_set 6 sc_deed.nd (g_call (cal_pick T) hr (by decide) (by rfl) (passes_call (takes_of rfl rfl rfl rfl) (fun _ _ _ _ h => h)) (ga_lend 0 (ga_cons (toE (g_name 5)) (ga_cons (toE g_int) ga_nil))) (arl_lend (arl_cons (arl_cons arl_nil)))))
    (gss_cons (gs_if (g_cmpT (op_eqDD (room_u hr)) (g_name 2) g_str (nomark _)) (gss_one (gs_ret (toE (g_tup (gs_cons (g_name 2) (gs_cons (g_name 3) (gs_cons (g_peek 6 g_int) gs_nil))))))) gss_nil)
    (gss_one (gs_ret (toE (g_tup (gs_cons (g_name 2) (gs_cons (g_name 3) (gs_cons (g_peek 6 g_int) (gs_cons (g_peek 6 g_int) gs_nil)))))))))))))
theorem cal_deed (T : Txt K mg) : Cal P w K mg base 8 "_law_deed" 5 den_deed := calOf T.d_deed (ok_deed T)
theorem ok_leaf (T : Txt K mg) (f : Addr) (fd : FuncData) (Fn : Fun K "_law_leaf" "_law_leaf" s_leaf f fd) : FnOk P w K mg base (L2.CX P w) 9 f fd ["tin", "many_so", "size_so", "most_so"] (spD K mg 4 den_leaf) := ok_def (k := 8) Fn sc_leaf fun cdv A outer s H E hr => have B := T.bt; (gss_cons (gs_parA 5 6 rfl sc_leaf.nd rfl rfl (by decide) (by kernel_rfl) (by kernel_rfl) (ga_cons (g_lst (gs_cons g_str (gs_cons g_str (gs_cons g_str (gs_cons g_str (gs_cons g_str (gs_cons g_str (gs_cons g_str (gs_cons g_str (gs_cons g_str (gs_cons g_str (gs_cons g_str gs_nil)))))))))))) (ga_cons (g_lst gs_nil) ga_nil)) (by kernel_rfl))
    (gss_cons (gs_parL 7 8 9 rfl sc_leaf.nd rfl rfl rfl (by decide) (by decide) (by decide) (by kernel_rfl) (by kernel_rfl) (by kernel_rfl) (ga_cons (toE g_int) (ga_cons (toE g_int) (ga_cons (g_callTy call_listDD (by rfl) B.list PyProof.Rows.Boot.list (gs_cons (g_name 3) gs_nil)) ga_nil))) (by kernel_rfl))
    (gss_cons (gs_for (passes_of rfl) rfl (gi_range1 (by rfl) B.range (gs_cons (g_name 2) gs_nil)) (gg_name 4 sc_leaf.nd) (gss_cons (gs_set 10 sc_leaf.nd (toE (g_if (g_wT (g_orT (g_cmpT op_gtD (g_name 4) g_int (nomark _)) (g_or1 (g_cmpT (op_eqDD (room_u hr)) (toD (g_call (cal_take T) hr (by decide) (by rfl) (passes_call (takes_of rfl rfl rfl rfl) (fun _ _ _ _ h => h)) (ga_lend 0 (ga_cons (toE g_int) ga_nil)) (arl_lend (arl_cons arl_nil)))) g_int (nomark _))))) (toD (g_call (cal_of T) hr (by decide) (by rfl) (passes_call (takes_of rfl rfl rfl rfl) (fun _ _ _ _ h => h)) (ga_lend 0 (ga_cons (toE (g_name 5)) ga_nil)) (arl_lend (arl_cons arl_nil)))) g_str)))
    (gss_cons (gs_set 11 sc_leaf.nd (toE (g_if (g_cmpT op_inW (g_name 10) (g_tup (gs_cons g_str (gs_cons g_str gs_nil))) (by rfl)) g_int (g_if (g_cmpT (op_eqDD (room_u hr)) (g_name 10) g_str (nomark _)) g_int g_int))))
    (gss_cons (gs_if (g_wT (g_andT (g_cmpT op_ltD (g_name 11) g_int (nomark _)) (g_and1 (g_cmpT (op_eqDD (room_u hr)) (g_peek 9 (g_name 11)) g_int (nomark _))))) (gss_one (gs_set 10 sc_leaf.nd (toE g_str))) gss_nil)
    (gss_cons (gs_if (g_wT (g_andT (g_cmpT op_ltD (g_name 11) g_int (nomark _)) (g_and1 (g_cmpT op_gtD (g_peek 9 (g_name 11)) g_int (nomark _))))) (gss_one (gs_setIx 9 (toD (g_bin op_subD (g_peek 9 (g_name 11)) g_int)) (g_name 11))) gss_nil)
    (gss_cons (gs_set 7 sc_leaf.nd (g_bin op_addD (g_name 7) (toD (g_call (cal_of T) hr (by decide) (by rfl) (passes_call (takes_of rfl rfl rfl rfl) (fun _ _ _ _ h => h)) (ga_lend 0 (ga_cons (toE (toD (g_lst (gs_cons g_int (gs_cons g_int (gs_cons g_int (gs_cons g_int gs_nil))))))) ga_nil)) (arl_lend (arl_cons arl_nil))))))
    (gss_cons (gs_set 8 sc_leaf.nd (g_bin op_addD (toD (g_bin op_addD (g_name 8) g_int)) (toD (g_callTy call_intD (by rfl) B.int PyProof.Rows.Boot.int (gs_cons (toD (g_cmp (op_eqDD (room_u hr)) (toD (g_call (cal_take T) hr (by decide) (by rfl) (passes_call (takes_of rfl rfl rfl rfl) (fun _ _ _ _ h => h)) (ga_lend 0 (ga_cons (toE g_int) ga_nil)) (arl_lend (arl_cons arl_nil)))) g_int (nomark _))) gs_nil)))))
    (gss_one (ps_wk (ps_expr (pe_bm PySem.F.plainAttrs_list PySem.F.slot_list_append PySem.F.type_list_append mt_append (pv 6) (pa_cons (toD (g_call (cal_deed T) hr (by decide) (by rfl) (passes_call (takes_of rfl rfl rfl rfl) (fun _ _ _ _ h => h)) (ga_lend 0 (ga_cons (toE (g_name 1)) (ga_cons (toE (g_name 10)) (ga_cons (toE (g_name 7)) (ga_cons (toE (g_name 8)) ga_nil))))) (arl_lend (arl_cons (arl_cons (arl_cons (arl_cons arl_nil))))))) pa_nil))) app_wk)))))))))
    (gss_one (gs_ret (toE (g_tup (gs_cons (g_name 1) (gs_cons (toD (g_call (cal_of T) hr (by decide) (by rfl) (passes_call (takes_of rfl rfl rfl rfl) (fun _ _ _ _ h => h)) (ga_lend 0 (ga_cons (toE (toD (g_lst (gs_cons g_int (gs_cons g_int (gs_cons g_int (gs_cons g_int (gs_cons g_int gs_nil)))))))) ga_nil)) (arl_lend (arl_cons arl_nil)))) (gs_cons (toD (g_callTy call_tupleD (by rfl) B.tuple PyProof.Rows.Boot.tuple (gs_cons (g_name 6) gs_nil))) gs_nil))))))))))
theorem cal_leaf (T : Txt K mg) : Cal P w K mg base 9 "_law_leaf" 4 den_leaf := calOf T.d_leaf (ok_leaf T)
theorem ok_law_is_write (T : Txt K mg) (f : Addr) (fd : FuncData) (Fn : Fun K "_law_is_write" "_law_is_write" s_law_is_write f fd) : FnOk P w K mg base (L2.CX P w) 5 f fd ["deed_so"] (spD K mg 1 den_law_is_write) := ok_def (k := 4) Fn sc_law_is_write fun cdv A outer s H E hr => have B := T.bt; (gss_one (gs_ret (g_cmp op_inW (g_peek 0 g_int) (g_tup (gs_cons g_str (gs_cons g_str gs_nil))) (by rfl))))
theorem cal_law_is_write (T : Txt K mg) : Cal P w K mg base 5 "_law_is_write" 1 den_law_is_write := calOf T.d_law_is_write (ok_law_is_write T)
theorem ok_writes (T : Txt K mg) (f : Addr) (fd : FuncData) (Fn : Fun K "_law_writes" "_law_writes" s_writes f fd) : FnOk P w K mg base (L2.CX P w) 6 f fd ["leaf"] (spD K mg 1 den_writes) := ok_def (k := 5) Fn sc_writes fun cdv A outer s H E hr => have B := T.bt; (gss_one (gs_ret (g_comp rfl sc_writes.nd (gi_enumB (by rfl) B.enumerate (gs_cons (g_peek 0 g_int) gs_nil)) (own := [("n", 1), ("deed_so", 2)]) (blkOk_by (by kernel_rfl)) (by decide) (fun s H C cl fp => (gg_tup rfl (ggs_cons (gg_name 1 sc_writes.nd) (ggs_cons (gg_name 2 sc_writes.nd) ggs_nil)))) (fun s H C cl fp => (gt_one (g_tru (toD (g_call (cal_law_is_write T) hr (by decide) (by rfl) passL (ga_cons (toE (g_name 2)) ga_nil) (arl_cons arl_nil)))))) (fun s H C cl fp => (g_name 1)))))
theorem cal_writes (T : Txt K mg) : Cal P w K mg base 6 "_law_writes" 1 den_writes := calOf T.d_writes (ok_writes T)
theorem ok_past (T : Txt K mg) (f : Addr) (fd : FuncData) (Fn : Fun K "_law_past" "_law_past" s_past f fd) : FnOk P w K mg base (L2.CX P w) 5 f fd ["leaf", "crew", "hour_so"] (spD K mg 3 den_past) := ok_def (k := 4) Fn sc_past fun cdv A outer s H E hr => have B := T.bt; (gss_cons (gs_set 3 sc_past.nd (g_lst (gs_cons (toD (g_callTy call_tupleD (by rfl) B.tuple PyProof.Rows.Boot.tuple (gs_cons (g_name 1) gs_nil))) gs_nil)))
    (gss_cons (gs_for (passes_of rfl) rfl (gi_range3 (by rfl) B.range (gs_cons (toD (g_bin op_subD (g_name 2) g_int)) (gs_cons (g_un un_negD g_int) (gs_cons (g_un un_negD g_int) gs_nil)))) (gg_name 4 sc_past.nd) (gss_cons (gs_asg (g_tup (gs_cons (toD (g_ix ix_D (g_peek 0 g_int) (g_name 4))) (gs_cons (g_peek 3 g_int) gs_nil))) (gg_tup rfl (ggs_cons (gg_name 5 sc_past.nd) (ggs_cons (gg_name 6 sc_past.nd) ggs_nil))))
    (gss_cons (gs_if (g_wT (g_andT (g_cmpT (op_eqDD (room_u hr)) (g_peek 5 g_int) g_str (nomark _)) (g_and1 (g_cmpT (op_inDD (room_u1 hr)) (g_peek 5 g_int) (g_name 6) (by rfl))))) (gss_one (gs_set 6 sc_past.nd (g_callTy call_tupleD (by rfl) B.tuple PyProof.Rows.Boot.tuple (gs_cons (toD (g_sortSet rfl (room_u1 hr) (by rfl) B.sorted PyProof.Rows.Boot.sorted (by rfl) B.set PyProof.Rows.Boot.set (gs_cons (toD (g_bin op_addD (g_name 6) (g_tup (gs_cons (g_peek 5 g_int) gs_nil)))) gs_nil))) gs_nil)))) gss_nil)
    (gss_cons (gs_if (g_cmpT (op_eqDD (room_u hr)) (g_peek 5 g_int) g_str (nomark _)) (gss_one (gs_set 6 sc_past.nd (g_callTy call_tupleD (by rfl) B.tuple PyProof.Rows.Boot.tuple (gs_cons (toD (g_comp rfl sc_past.nd (gi_seq (g_name 6)) (own := [("j", 7)]) (blkOk_by (by kernel_rfl)) (by decide) (fun s H C cl fp => (gg_name 7 sc_past.nd)) (fun s H C cl fp => (gt_one (g_cmpT (op_neDD (room_u hr)) (g_name 7) (g_peek 5 g_int) (nomark _)))) (fun s H C cl fp => (g_name 7)))) gs_nil)))) gss_nil)
    (gss_one (gs_set 3 sc_past.nd (g_bin op_addD (toD (g_lst (gs_cons (g_name 6) gs_nil))) (g_name 3))))))))
    (gss_one (gs_ret (g_move 3)))))
theorem cal_past (T : Txt K mg) : Cal P w K mg base 5 "_law_past" 3 den_past := calOf T.d_past (ok_past T)
theorem ok_misses (T : Txt K mg) (f : Addr) (fd : FuncData) (Fn : Fun K "_law_misses" "_law_misses" s_misses f fd) : FnOk P w K mg base (L2.CX P w) 7 f fd ["leaf", "crew", "rank_so"] (spD K mg 3 den_misses) := ok_def (k := 6) Fn sc_misses fun cdv A outer s H E hr => have B := T.bt; (gss_cons (gs_set 3 sc_misses.nd (g_call (cal_past T) hr (by decide) (by rfl) (passes_call (takes_of rfl rfl rfl rfl) (fun _ _ _ _ h => h)) (ga_cons (toE (g_name 0)) (ga_cons (toE (g_name 1)) (ga_cons (toE (toD (g_callB call_lenDD (by rfl) B.len PyProof.Rows.Boot.len (gs_cons (g_peek 0 g_int) gs_nil)))) ga_nil))) (arl_cons (arl_cons (arl_cons arl_nil)))))
    (gss_cons (gs_setComp (i := 4) rfl sc_misses.nd rfl rfl rfl (gi_seq (toD (g_call (cal_writes T) hr (by decide) (by rfl) (passes_call (takes_of rfl rfl rfl rfl) (fun _ _ _ _ h => h)) (ga_cons (toE (g_name 0)) ga_nil) (arl_cons arl_nil)))) (own := [("n", 5)]) (blkOk_by (by kernel_rfl)) (by decide) (fun s H C cl fp => (gg_name 5 sc_misses.nd)) (fun s H C cl fp => (gt_one (g_cmpT op_geD (toD (g_ix ix_D (toD (g_ix ix_D (g_peek 0 g_int) (g_name 5))) g_int)) (g_name 2) (nomark _)))) (fun s H C cl fp => (g_name 5)))
    (gss_one (gs_ret (g_cmp (op_eqDD (room_u hr)) (toD (g_comp rfl sc_misses.nd (gi_seq (g_name 4)) (own := [("n", 5)]) (blkOk_by (by kernel_rfl)) (by decide) (fun s H C cl fp => (gg_name 5 sc_misses.nd)) (fun s H C cl fp => (gt_one (g_notT (g_tru (toD (g_call (cal_room T) hr (by decide) (by rfl) passL (ga_cons (toE (toD (g_ix ix_D (toD (g_ix ix_D (g_peek 0 g_int) (g_name 5))) g_int))) (ga_cons (toE (g_peek 3 (toD (g_bin op_addD (g_name 5) g_int)))) ga_nil)) (arl_cons (arl_cons arl_nil)))))))) (fun s H C cl fp => (g_name 5)))) (toD (g_lst gs_nil)) (nomark _))))))
theorem cal_misses (T : Txt K mg) : Cal P w K mg base 7 "_law_misses" 3 den_misses := calOf T.d_misses (ok_misses T)
theorem ok_two_of (T : Txt K mg) (f : Addr) (fd : FuncData) (Fn : Fun K "_law_two_of" "_law_two_of" s_two_of f fd) : FnOk P w K mg base (L2.CX P w) 5 f fd [] (spD K mg 0 den_two_of) := ok_def (k := 4) Fn sc_two_of fun cdv A outer s H E hr => have B := T.bt; by rw [eq_two_of]; exact (gss_one (gs_ret (toE (g_tup (gs_cons (g_tup (gs_cons g_int (gs_cons g_int gs_nil))) (gs_cons (g_tup (gs_cons g_int (gs_cons g_int gs_nil))) (gs_cons (g_tup (gs_cons g_int (gs_cons g_int gs_nil))) gs_nil)))))))
theorem cal_two_of (T : Txt K mg) : Cal P w K mg base 5 "_law_two_of" 0 den_two_of := calOf T.d_two_of (ok_two_of T)
theorem ok_plain_one (T : Txt K mg) (f : Addr) (fd : FuncData) (Fn : Fun K "_law_plain_one" "_law_plain_one" s_plain_one f fd) : FnOk P w K mg base (L2.CX P w) 6 f fd [] (spD K mg 0 den_plain_one) := ok_def (k := 5) Fn sc_plain_one fun cdv A outer s H E hr => have B := T.bt; by rw [eq_plain_one]; exact (gss_one (gs_ret (toE (g_tup (gs_cons g_int (gs_cons g_int (gs_cons (g_tup (gs_cons (g_tup (gs_cons g_str (gs_cons g_int (gs_cons g_int (gs_cons (g_tup (gs_cons g_int (gs_cons g_int (gs_cons g_int gs_nil)))) (gs_cons (toD (g_call0 (cal_two_of T) hr (by decide) (by rfl) (passes_call (takes_of rfl rfl rfl rfl) (fun _ _ _ _ h => h)))) gs_nil)))))) gs_nil)) gs_nil)))))))
theorem cal_plain_one (T : Txt K mg) : Cal P w K mg base 6 "_law_plain_one" 0 den_plain_one := calOf T.d_plain_one (ok_plain_one T)
theorem ok_fallen (T : Txt K mg) (f : Addr) (fd : FuncData) (Fn : Fun K "_law_fallen" "_law_fallen" s_fallen f fd) : FnOk P w K mg base (L2.CX P w) 7 f fd [] (spD K mg 0 den_fallen) := ok_def (k := 6) Fn sc_fallen fun cdv A outer s H E hr => have B := T.bt; by rw [eq_fallen]; exact (gss_one (gs_ret (toE (g_tup (gs_cons g_int (gs_cons g_int (gs_cons (toD (g_bin op_addD (toD (g_ix ix_D (toD (g_call0 (cal_plain_one T) hr (by decide) (by rfl) (passes_call (takes_of rfl rfl rfl rfl) (fun _ _ _ _ h => h)))) g_int)) (g_tup (gs_cons (g_tup (gs_cons g_str (gs_cons g_int (gs_cons g_int gs_nil)))) gs_nil)))) gs_nil)))))))
theorem cal_fallen (T : Txt K mg) : Cal P w K mg base 7 "_law_fallen" 0 den_fallen := calOf T.d_fallen (ok_fallen T)
theorem ok_taken_over (T : Txt K mg) (f : Addr) (fd : FuncData) (Fn : Fun K "_law_taken_over" "_law_taken_over" s_taken_over f fd) : FnOk P w K mg base (L2.CX P w) 7 f fd ["from_so"] (spD K mg 1 den_taken_over) := ok_def (k := 6) Fn sc_taken_over fun cdv A outer s H E hr => have B := T.bt; (gss_one (gs_ret (toE (g_tup (gs_cons g_int (gs_cons g_int (gs_cons (toD (g_bin op_addD (toD (g_ix ix_D (toD (g_call0 (cal_plain_one T) hr (by decide) (by rfl) (passes_call (takes_of rfl rfl rfl rfl) (fun _ _ _ _ h => h)))) g_int)) (g_tup (gs_cons (g_tup (gs_cons g_str (gs_cons g_int (gs_cons (g_name 0) (gs_cons g_int gs_nil))))) gs_nil)))) gs_nil)))))))
theorem cal_taken_over (T : Txt K mg) : Cal P w K mg base 7 "_law_taken_over" 1 den_taken_over := calOf T.d_taken_over (ok_taken_over T)
theorem ok_covered (T : Txt K mg) (f : Addr) (fd : FuncData) (Fn : Fun K "_law_covered" "_law_covered" s_covered f fd) : FnOk P w K mg base (L2.CX P w) 5 f fd ["sooner_so"] (spD K mg 1 den_covered) := ok_def (k := 4) Fn sc_covered fun cdv A outer s H E hr => have B := T.bt; (gss_cons (gs_asg (g_tup (gs_cons (g_tup (gs_cons g_str (gs_cons g_int (gs_cons g_int (gs_cons (g_tup (gs_cons g_int gs_nil)) (gs_cons (g_tup (gs_cons (g_tup (gs_cons g_int gs_nil)) gs_nil)) gs_nil)))))) (gs_cons (g_tup (gs_cons g_str (gs_cons g_int (gs_cons g_int (gs_cons (g_tup (gs_cons g_int (gs_cons g_int gs_nil))) (gs_cons (g_tup (gs_cons (g_tup (gs_cons g_int (gs_cons g_int gs_nil))) gs_nil)) gs_nil)))))) gs_nil))) (gg_tup rfl (ggs_cons (gg_name 1 sc_covered.nd) (ggs_cons (gg_name 2 sc_covered.nd) ggs_nil))))
    (gss_cons (gs_if (g_tru (g_name 0)) (gss_one (gs_ret (toE (g_tup (gs_cons g_int (gs_cons g_int (gs_cons (g_tup (gs_cons (g_name 1) (gs_cons (g_tup (gs_cons g_str (gs_cons g_int (gs_cons g_int (gs_cons g_int gs_nil))))) (gs_cons (g_name 2) gs_nil)))) gs_nil))))))) gss_nil)
    (gss_one (gs_ret (toE (g_tup (gs_cons g_int (gs_cons g_int (gs_cons (g_tup (gs_cons (g_name 1) (gs_cons (g_name 2) (gs_cons (g_tup (gs_cons g_str (gs_cons g_int (gs_cons g_int (gs_cons g_int gs_nil))))) gs_nil)))) gs_nil)))))))))
theorem cal_covered (T : Txt K mg) : Cal P w K mg base 5 "_law_covered" 1 den_covered := calOf T.d_covered (ok_covered T)
theorem ok_ranks (T : Txt K mg) (f : Addr) (fd : FuncData) (Fn : Fun K "_law_ranks" "_law_ranks" s_ranks f fd) : FnOk P w K mg base (L2.CX P w) 6 f fd ["leaf"] (spD K mg 1 den_ranks) := ok_def (k := 5) Fn sc_ranks fun cdv A outer s H E hr => have B := T.bt; (gss_one (gs_ret (g_comp rfl sc_ranks.nd (gi_seq (g_peek 0 g_int)) (own := [("deed_so", 1)]) (blkOk_by (by kernel_rfl)) (by decide) (fun s H C cl fp => (gg_name 1 sc_ranks.nd)) (fun s H C cl fp => (gt_one (g_tru (toD (g_call (cal_law_is_write T) hr (by decide) (by rfl) passL (ga_cons (toE (g_name 1)) ga_nil) (arl_cons arl_nil)))))) (fun s H C cl fp => (g_peek 1 g_int)))))
theorem cal_ranks (T : Txt K mg) : Cal P w K mg base 6 "_law_ranks" 1 den_ranks := calOf T.d_ranks (ok_ranks T)
theorem ok_page (T : Txt K mg) (f : Addr) (fd : FuncData) (Fn : Fun K "_law_page" "_law_page" s_page f fd) : FnOk P w K mg base (L2.CX P w) 10 f fd ["tin", "most_so"] (spD K mg 2 den_page) := ok_def (k := 9) Fn sc_page fun cdv A outer s H E hr => have B := T.bt; (gss_one (gs_ret (g_call (cal_leaf T) hr (by decide) (by rfl) (passes_call (takes_of rfl rfl rfl rfl) (fun _ _ _ _ h => h)) (ga_lend 0 (ga_cons (toE g_int) (ga_cons (toE (toD (g_bin op_addD g_int (toD (g_call (cal_take T) hr (by decide) (by rfl) (passes_call (takes_of rfl rfl rfl rfl) (fun _ _ _ _ h => h)) (ga_lend 0 (ga_cons (toE g_int) ga_nil)) (arl_lend (arl_cons arl_nil))))))) (ga_cons (toE (g_name 1)) ga_nil)))) (arl_lend (arl_cons (arl_cons (arl_cons arl_nil)))))))
theorem cal_page (T : Txt K mg) : Cal P w K mg base 10 "_law_page" 2 den_page := calOf T.d_page (ok_page T)
theorem ok_is_road (T : Txt K mg) (f : Addr) (fd : FuncData) (Fn : Fun K "_law_is_road" "_law_is_road" s_is_road f fd) : FnOk P w K mg base (L2.CX P w) 5 f fd ["leaf", "road_so", "hour_so", "start_so"] (spD K mg 4 den_is_road) := ok_def (k := 4) Fn sc_is_road fun cdv A outer s H E hr => have B := T.bt; (gss_cons (gs_if (g_wT (g_orT (g_notT (g_tru (g_isi .tup (by rfl) B.isinstance (by rfl) B.tuple PyProof.Rows.Boot.tuple (g_name 1)))) (g_or1 (g_cmpT (op_neDD (room_u hr)) (g_lenP 1 (by rfl) B.len) (toD (g_bin op_addD (toD (g_bin op_subD (g_name 2) (g_name 3))) g_int)) (nomark _))))) (gss_one (gs_ret (toE g_bl))) gss_nil)
    (gss_cons (gs_for (passes_of rfl) rfl (gi_range1 (by rfl) B.range (gs_cons (toD (g_bin op_subD (g_lenP 1 (by rfl) B.len) g_int)) gs_nil)) (gg_name 4 sc_is_road.nd) (gss_cons (gs_par 7 8 rfl sc_is_road.nd rfl rfl (by decide) (by kernel_rfl) (by kernel_rfl) (gs_cons (toD (g_ix ix_D (g_peek 0 g_int) (toD (g_bin op_addD (g_name 3) (g_name 4))))) (gs_cons (g_peek 1 (g_name 4)) gs_nil)) (by kernel_rfl))
    (gss_cons (gs_set 5 sc_is_road.nd (toE (g_peek 1 (toD (g_bin op_addD (g_name 4) g_int)))))
    (gss_cons (gs_set 6 sc_is_road.nd (toE (g_and (toD (g_cmp (op_eqDD (room_u hr)) (g_name 8) (g_name 5) (nomark _))) (g_one (g_not (g_and (toD (g_cmp (op_eqDD (room_u hr)) (g_peek 7 g_int) g_str (nomark _))) (g_one (toD (g_cmp (op_eqDD (room_u hr)) (g_peek 7 g_int) (g_name 8) (nomark _))))))))))
    (gss_one (gs_if (g_wT (g_andT (g_notT (g_tru (g_name 6))) (g_and1 (g_cmpT (op_neDD (room_u hr)) (toD (g_bin op_addD (toD (g_slice (g_name 7) go_none (go_some g_int))) (toD (g_slice (g_name 7) (go_some g_int) go_none)))) (g_tup (gs_cons g_str (gs_cons (g_name 8) (gs_cons (g_name 5) gs_nil)))) (nomark _))))) (gss_one (gs_ret (toE g_bl))) gss_nil))))))
    (gss_one (gs_ret (toE g_bl)))))
theorem cal_is_road (T : Txt K mg) : Cal P w K mg base 5 "_law_is_road" 4 den_is_road := calOf T.d_is_road (ok_is_road T)
theorem ok_first_full (T : Txt K mg) (f : Addr) (fd : FuncData) (Fn : Fun K "_law_first_full" "_law_first_full" s_first_full f fd) : FnOk P w K mg base (L2.CX P w) 7 f fd ["leaf", "crew", "rank_so"] (spD K mg 3 den_first_full) := ok_def (k := 6) Fn sc_first_full fun cdv A outer s H E hr => have B := T.bt; (gss_cons (gs_set 3 sc_first_full.nd (g_call (cal_past T) hr (by decide) (by rfl) (passes_call (takes_of rfl rfl rfl rfl) (fun _ _ _ _ h => h)) (ga_cons (toE (g_name 0)) (ga_cons (toE (g_name 1)) (ga_cons (toE (toD (g_callB call_lenDD (by rfl) B.len PyProof.Rows.Boot.len (gs_cons (g_peek 0 g_int) gs_nil)))) ga_nil))) (arl_cons (arl_cons (arl_cons arl_nil)))))
    (gss_cons (gs_for (passes_of rfl) rfl (gi_seq (toD (g_call (cal_writes T) hr (by decide) (by rfl) (passes_call (takes_of rfl rfl rfl rfl) (fun _ _ _ _ h => h)) (ga_cons (toE (g_name 0)) ga_nil) (arl_cons arl_nil)))) (gg_name 4 sc_first_full.nd) (gss_one (gs_if (g_wT (g_andT (g_cmpT op_geD (toD (g_ix ix_D (toD (g_ix ix_D (g_peek 0 g_int) (g_name 4))) g_int)) (g_name 2) (nomark _)) (g_and1 (g_notT (g_tru (toD (g_call (cal_room T) hr (by decide) (by rfl) (passes_call (takes_of rfl rfl rfl rfl) (fun _ _ _ _ h => h)) (ga_cons (toE (toD (g_ix ix_D (toD (g_ix ix_D (g_peek 0 g_int) (g_name 4))) g_int))) (ga_cons (toE (g_peek 3 (toD (g_bin op_addD (g_name 4) g_int)))) ga_nil)) (arl_cons (arl_cons arl_nil))))))))) (gss_one (gs_ret (g_move 4))) gss_nil)))
    (gss_one (gs_ret (toE g_non)))))
theorem cal_first_full (T : Txt K mg) : Cal P w K mg base 7 "_law_first_full" 3 den_first_full := calOf T.d_first_full (ok_first_full T)
theorem ok_stays (T : Txt K mg) (f : Addr) (fd : FuncData) (Fn : Fun K "_law_stays" "_law_stays" s_stays f fd) : FnOk P w K mg base (L2.CX P w) 6 f fd ["leaf", "crew", "spot_so", "start_so"] (spD K mg 4 den_stays) := ok_def (k := 5) Fn sc_stays fun cdv A outer s H E hr => have B := T.bt; (gss_cons (gs_parA 5 6 rfl sc_stays.nd rfl rfl (by decide) (by kernel_rfl) (by kernel_rfl) (ga_cons (g_call (cal_past T) hr (by decide) (by rfl) (passes_call (takes_of rfl rfl rfl rfl) (fun _ _ _ _ h => h)) (ga_cons (toE (g_name 0)) (ga_cons (toE (g_name 1)) (ga_cons (toE (toD (g_callB call_lenDD (by rfl) B.len PyProof.Rows.Boot.len (gs_cons (g_peek 0 g_int) gs_nil)))) ga_nil))) (arl_cons (arl_cons (arl_cons arl_nil)))) (ga_cons (g_lst (gs_cons (g_name 2) gs_nil)) ga_nil)) (by kernel_rfl))
    (gss_cons (gs_for (passes_of rfl) rfl (gi_range2 (by rfl) B.range (gs_cons (g_name 3) (gs_cons (toD (g_callB call_lenDD (by rfl) B.len PyProof.Rows.Boot.len (gs_cons (g_peek 0 g_int) gs_nil))) gs_nil))) (gg_name 4 sc_stays.nd) (gss_one (ps_wk (ps_expr (pe_bm PySem.F.plainAttrs_list PySem.F.slot_list_append PySem.F.type_list_append mt_append (pv 6) (pa_cons (g_if (g_cmpT (op_inDD (room_u1 hr)) (g_peek 6 (g_un un_negD g_int)) (g_peek 5 (toD (g_bin op_addD (g_name 4) g_int))) (by rfl)) (g_peek 6 (g_un un_negD g_int)) (toD (g_ix ix_D (toD (g_ix ix_D (g_peek 0 g_int) (g_name 4))) g_int))) pa_nil))) app_wk)))
    (gss_one (gs_ret (g_callTy call_tupleD (by rfl) B.tuple PyProof.Rows.Boot.tuple (gs_cons (g_name 6) gs_nil))))))
theorem cal_stays (T : Txt K mg) : Cal P w K mg base 6 "_law_stays" 4 den_stays := calOf T.d_stays (ok_stays T)
theorem ok_paper_right (T : Txt K mg) (f : Addr) (fd : FuncData) (Fn : Fun K "_law_paper_right" "_law_paper_right" s_paper_right f fd) : FnOk P w K mg base (L2.CX P w) 14 f fd ["leaf", "crew", "rank_so"] (spD K mg 3 den_paper_right) := ok_def (k := 13) Fn sc_paper_right fun cdv A outer s H E hr => have B := T.bt; (gss_cons (gs_asg (g_tup (gs_cons (toD (g_call (cal_hold_paper T) hr (by decide) (by rfl) (passes_call (takes_of rfl rfl rfl rfl) (fun _ _ _ _ h => h)) (ga_cons (toE (g_name 0)) (ga_cons (toE (g_name 1)) (ga_cons (toE (g_name 2)) ga_nil))) (arl_cons (arl_cons (arl_cons arl_nil))))) (gs_cons (toD (g_call (cal_first_full T) hr (by decide) (by rfl) (passes_call (takes_of rfl rfl rfl rfl) (fun _ _ _ _ h => h)) (ga_cons (toE (g_name 0)) (ga_cons (toE (g_name 1)) (ga_cons (toE (g_name 2)) ga_nil))) (arl_cons (arl_cons (arl_cons arl_nil))))) gs_nil))) (gg_tup rfl (ggs_cons (gg_name 7 sc_paper_right.nd) (ggs_cons (gg_name 8 sc_paper_right.nd) ggs_nil))))
    (gss_cons (gs_set 3 sc_paper_right.nd (g_call (cal_lists T 8) hr (by decide) (by rfl) (passes_call (takes_of rfl rfl rfl rfl) (fun _ _ _ _ h => h)) (ga_cons (toE (toD (g_lst (gs_cons (g_name 0) (gs_cons (g_name 1) gs_nil))))) ga_nil) (arl_cons arl_nil)))
    (gss_cons (gs_if (g_notT (g_tru (toD (g_call (cal_same T 6) hr (by decide) (by rfl) (passes_call (takes_of rfl rfl rfl rfl) (fun _ _ _ _ h => h)) (ga_cons (toE (toD (g_callKW (ks := ["version", "some", "book"]) [2, 1, 0] T.d_hold_paper (ok_hold_paper T) hr (by decide) (by rfl) (passes_call (takes_of rfl rfl rfl rfl) (fun _ _ _ _ h => h)) (fun _ _ _ _ _ _ _ ws hl => match ws, hl with | [_, _, _], _ => .of_eq rfl) (gk_cons (g_name 2) (gk_cons (g_peek 3 g_int) (gk_cons (g_peek 3 g_int) gk_nil))) (dsl_cons (dsl_cons (dsl_cons dsl_nil))) rfl (by decide)))) (ga_cons (toE (g_name 7)) ga_nil)) (arl_cons (arl_cons arl_nil)))))) (gss_one (gs_ret (toE g_bl))) gss_nil)
    (gss_cons (gs_if (g_cmpT op_isND (g_name 8) g_non (nomark _)) (gss_one (gs_ret (g_cmp op_isND (g_name 7) g_non (nomark _)))) gss_nil)
    (gss_cons (gs_setComp (i := 4) rfl sc_paper_right.nd rfl rfl rfl (gi_seq (toD (g_ix ix_D (toD (g_ix ix_D (g_peek 0 g_int) (g_name 8))) g_int))) (own := [("j", 9)]) (blkOk_by (by kernel_rfl)) (by decide) (fun s H C cl fp => (gg_name 9 sc_paper_right.nd)) (fun s H C cl fp => (gt_one (g_cmpT (op_inDD (room_u1 hr)) (g_name 9) (toD (g_ix ix_D (toD (g_call (cal_past T) hr (by decide) (by rfl) passL (ga_cons (toE (g_name 0)) (ga_cons (toE (g_name 1)) (ga_cons (toE (toD (g_callB call_lenDD (by rfl) B.len PyProof.Rows.Boot.len (gs_cons (g_peek 0 g_int) gs_nil)))) ga_nil))) (arl_cons (arl_cons (arl_cons arl_nil))))) (toD (g_bin op_addD (g_name 8) g_int)))) (by rfl)))) (fun s H C cl fp => (g_name 9)))
    (gss_cons (gs_set 5 sc_paper_right.nd (g_callTy call_tupleD (by rfl) B.tuple PyProof.Rows.Boot.tuple (gs_cons (toD (g_comp rfl sc_paper_right.nd (gi_seq (g_name 4)) (own := [("j", 9)]) (blkOk_by (by kernel_rfl)) (by decide) (fun s H C cl fp => (gg_name 9 sc_paper_right.nd)) (fun s H C cl fp => gt_yes) (fun s H C cl fp => (toD (g_call (cal_stays T) hr (by decide) (by rfl) passL (ga_cons (toE (g_name 0)) (ga_cons (toE (g_name 1)) (ga_cons (toE (g_name 9)) (ga_cons (toE (toD (g_bin op_addD (g_name 8) g_int))) ga_nil)))) (arl_cons (arl_cons (arl_cons (arl_cons arl_nil))))))))) gs_nil)))
    (gss_cons (gs_setComp (i := 6) rfl sc_paper_right.nd rfl rfl rfl (gi_seq (g_name 5)) (own := [("own", 10)]) (blkOk_by (by kernel_rfl)) (by decide) (fun s H C cl fp => (gg_name 10 sc_paper_right.nd)) (fun s H C cl fp => (gt_one (g_wT (g_orT (g_notT (g_tru (toD (g_call (cal_is_road T) hr (by decide) (by rfl) passL (ga_cons (toE (g_name 0)) (ga_cons (toE (g_name 10)) (ga_cons (toE (toD (g_callB call_lenDD (by rfl) B.len PyProof.Rows.Boot.len (gs_cons (g_peek 0 g_int) gs_nil)))) (ga_cons (toE (toD (g_bin op_addD (g_name 8) g_int))) ga_nil)))) (arl_cons (arl_cons (arl_cons (arl_cons arl_nil)))))))) (g_or1 (g_cmpT (op_notInDD (room_u1 hr)) (g_peek 10 (g_un un_negD g_int)) (g_name 1) (by rfl))))))) (fun s H C cl fp => (g_name 10)))
    (gss_one (gs_ret (toE (g_and (toD (g_cmp (op_eqDD (room_u hr)) (g_name 6) (toD (g_lst gs_nil)) (nomark _))) (g_one (toD (g_call (cal_same T 6) hr (by decide) (by rfl) (passes_call (takes_of rfl rfl rfl rfl) (fun _ _ _ _ h => h)) (ga_cons (toE (g_name 7)) (ga_cons (toE (g_tup (gs_cons (g_name 8) (gs_cons (g_name 5) gs_nil)))) ga_nil)) (arl_cons (arl_cons arl_nil))))))))))))))))
theorem cal_paper_right (T : Txt K mg) : Cal P w K mg base 14 "_law_paper_right" 3 den_paper_right := calOf T.d_paper_right (ok_paper_right T)
theorem ok_versions_right (T : Txt K mg) (f : Addr) (fd : FuncData) (Fn : Fun K "_law_versions_right" "_law_versions_right" s_versions_right f fd) : FnOk P w K mg base (L2.CX P w) 15 f fd ["leaf", "owners_so", "asked_so"] (spD K mg 3 den_versions_right) := ok_def (k := 14) Fn sc_versions_right fun cdv A outer s H E hr => have B := T.bt; (gss_cons (gs_asg (toD (g_comp rfl sc_versions_right.nd (gi_seq (toD (g_call (cal_lots T) hr (by decide) (by rfl) (passes_call (takes_of rfl rfl rfl rfl) (fun _ _ _ _ h => h)) (ga_cons (toE (g_name 1)) ga_nil) (arl_cons arl_nil)))) (own := [("crew", 7)]) (blkOk_by (by kernel_rfl)) (by decide) (fun s H C cl fp => (gg_name 7 sc_versions_right.nd)) (fun s H C cl fp => (gt_one (g_cmpT (op_eqDD (room_u hr)) (g_lenP 7 (by rfl) B.len) (g_name 2) (nomark _)))) (fun s H C cl fp => (g_name 7)))) (gg_name 3 sc_versions_right.nd))
    (gss_cons (gs_setComp (i := 4) rfl sc_versions_right.nd rfl rfl rfl (gi_seq (toD (g_call (cal_ranks T) hr (by decide) (by rfl) (passes_call (takes_of rfl rfl rfl rfl) (fun _ _ _ _ h => h)) (ga_cons (toE (g_name 0)) ga_nil) (arl_cons arl_nil)))) (own := [("own", 8)]) (blkOk_by (by kernel_rfl)) (by decide) (fun s H C cl fp => (gg_name 8 sc_versions_right.nd)) (fun s H C cl fp => (gt_one (g_cmpT (op_neDD (room_u hr)) (toD (g_comp rfl sc_versions_right.nd (gi_seq (g_name 3)) (own := [("crew", 7)]) (blkOk_by (by kernel_rfl)) (by decide) (fun s H C cl fp => (gg_name 7 sc_versions_right.nd)) (fun s H C cl fp => (gt_one (g_tru (toD (g_call (cal_misses T) hr (by decide) (by rfl) passL (ga_cons (toE (g_name 0)) (ga_cons (toE (g_name 7)) (ga_cons (toE (g_name 8)) ga_nil))) (arl_cons (arl_cons (arl_cons arl_nil)))))))) (fun s H C cl fp => g_int))) (toD (g_lst gs_nil)) (nomark _)))) (fun s H C cl fp => (g_name 8)))
    (gss_cons (gs_set 5 sc_versions_right.nd (g_call (cal_lists T 8) hr (by decide) (by rfl) (passes_call (takes_of rfl rfl rfl rfl) (fun _ _ _ _ h => h)) (ga_cons (toE (toD (g_lst (gs_cons (g_name 0) (gs_cons (g_name 1) gs_nil))))) ga_nil) (arl_cons arl_nil)))
    (gss_cons (gs_set 6 sc_versions_right.nd (g_lst (gs_cons (toD (g_call (cal_missed_versions T) hr (by decide) (by rfl) (passes_call (takes_of rfl rfl rfl rfl) (fun _ _ _ _ h => h)) (ga_cons (toE (g_name 0)) (ga_cons (toE (g_name 1)) (ga_cons (toE (g_name 2)) ga_nil))) (arl_cons (arl_cons (arl_cons arl_nil))))) (gs_cons (toD (g_callKW (ks := ["asked", "owners", "book"]) [2, 1, 0] T.d_missed_versions (ok_missed_versions T) hr (by decide) (by rfl) (passes_call (takes_of rfl rfl rfl rfl) (fun _ _ _ _ h => h)) (fun _ _ _ _ _ _ _ ws hl => match ws, hl with | [_, _, _], _ => .of_eq rfl) (gk_cons (g_name 2) (gk_cons (g_peek 5 g_int) (gk_cons (g_peek 5 g_int) gk_nil))) (dsl_cons (dsl_cons (dsl_cons dsl_nil))) rfl (by decide))) gs_nil))))
    (gss_one (gs_ret (g_call (cal_same T 6) hr (by decide) (by rfl) (passes_call (takes_of rfl rfl rfl rfl) (fun _ _ _ _ h => h)) (ga_cons (toE (g_name 6)) (ga_cons (toE (toD (g_bin op_mulD (toD (g_lst (gs_cons (toD (g_callTy call_tupleD (by rfl) B.tuple PyProof.Rows.Boot.tuple (gs_cons (g_name 4) gs_nil))) gs_nil))) g_int))) ga_nil)) (arl_cons (arl_cons arl_nil)))))))))
theorem cal_versions_right (T : Txt K mg) : Cal P w K mg base 15 "_law_versions_right" 3 den_versions_right := calOf T.d_versions_right (ok_versions_right T)
theorem ok_by_hand_right (T : Txt K mg) (f : Addr) (fd : FuncData) (Fn : Fun K "_law_by_hand_right" "_law_by_hand_right" s_by_hand_right f fd) : FnOk P w K mg base (L2.CX P w) 15 f fd [] (spD K mg 0 den_by_hand_right) := ok_def (k := 14) Fn sc_by_hand_right fun cdv A outer s H E hr => have B := T.bt; by rw [eq_by_hand_right]; exact (gss_cons (gs_asg (g_tup (gs_cons (toD (g_call0 (cal_plain_one T) hr (by decide) (by rfl) (passes_call (takes_of rfl rfl rfl rfl) (fun _ _ _ _ h => h)))) (gs_cons (toD (g_call0 (cal_fallen T) hr (by decide) (by rfl) (passes_call (takes_of rfl rfl rfl rfl) (fun _ _ _ _ h => h)))) (gs_cons (toD (g_call (cal_taken_over T) hr (by decide) (by rfl) (passes_call (takes_of rfl rfl rfl rfl) (fun _ _ _ _ h => h)) (ga_cons (toE g_int) ga_nil) (arl_cons arl_nil))) gs_nil)))) (gg_tup rfl (ggs_cons (gg_name 2 sc_by_hand_right.nd) (ggs_cons (gg_name 3 sc_by_hand_right.nd) (ggs_cons (gg_name 4 sc_by_hand_right.nd) ggs_nil)))))
    (gss_cons (gs_set 0 sc_by_hand_right.nd (g_lst (gs_cons (toD (g_call (cal_hold_paper T) hr (by decide) (by rfl) (passes_call (takes_of rfl rfl rfl rfl) (fun _ _ _ _ h => h)) (ga_cons (toE (g_name 2)) (ga_cons (toE (g_tup (gs_cons g_int (gs_cons g_int gs_nil)))) (ga_cons (toE g_int) ga_nil))) (arl_cons (arl_cons (arl_cons arl_nil))))) (gs_cons (toD (g_call (cal_hold_paper T) hr (by decide) (by rfl) (passes_call (takes_of rfl rfl rfl rfl) (fun _ _ _ _ h => h)) (ga_cons (toE (g_name 2)) (ga_cons (toE (g_tup (gs_cons g_int gs_nil))) (ga_cons (toE g_int) ga_nil))) (arl_cons (arl_cons (arl_cons arl_nil))))) (gs_cons (toD (g_call (cal_hold_paper T) hr (by decide) (by rfl) (passes_call (takes_of rfl rfl rfl rfl) (fun _ _ _ _ h => h)) (ga_cons (toE (g_name 4)) (ga_cons (toE (g_tup (gs_cons g_int (gs_cons g_int gs_nil)))) (ga_cons (toE g_int) ga_nil))) (arl_cons (arl_cons (arl_cons arl_nil))))) gs_nil)))))
    (gss_cons (gs_set 1 sc_by_hand_right.nd (g_lst (gs_cons (g_tup (gs_cons g_int (gs_cons (g_tup (gs_cons (g_tup (gs_cons g_int gs_nil)) (gs_cons (g_tup (gs_cons g_int gs_nil)) gs_nil))) gs_nil))) (gs_cons g_non (gs_cons (g_tup (gs_cons g_int (gs_cons (g_tup (gs_cons (g_tup (gs_cons g_int (gs_cons g_int gs_nil))) (gs_cons (g_tup (gs_cons g_int (gs_cons g_int gs_nil))) gs_nil))) gs_nil))) gs_nil)))))
    (gss_cons (gs_set 0 sc_by_hand_right.nd (g_bin op_addD (g_name 0) (toD (g_lst (gs_cons (toD (g_call (cal_hold_paper T) hr (by decide) (by rfl) (passes_call (takes_of rfl rfl rfl rfl) (fun _ _ _ _ h => h)) (ga_cons (toE (g_name 3)) (ga_cons (toE (g_tup (gs_cons g_int (gs_cons g_int gs_nil)))) (ga_cons (toE g_int) ga_nil))) (arl_cons (arl_cons (arl_cons arl_nil))))) (gs_cons (toD (g_call (cal_hold_paper T) hr (by decide) (by rfl) (passes_call (takes_of rfl rfl rfl rfl) (fun _ _ _ _ h => h)) (ga_cons (toE (g_name 3)) (ga_cons (toE (g_tup (gs_cons g_int (gs_cons g_int (gs_cons g_int gs_nil))))) (ga_cons (toE g_int) ga_nil))) (arl_cons (arl_cons (arl_cons arl_nil))))) (gs_cons (toD (g_call (cal_hold_paper T) hr (by decide) (by rfl) (passes_call (takes_of rfl rfl rfl rfl) (fun _ _ _ _ h => h)) (ga_cons (toE (toD (g_call (cal_covered T) hr (by decide) (by rfl) (passes_call (takes_of rfl rfl rfl rfl) (fun _ _ _ _ h => h)) (ga_cons (toE g_bl) ga_nil) (arl_cons arl_nil)))) (ga_cons (toE (g_tup (gs_cons g_int (gs_cons g_int gs_nil)))) (ga_cons (toE g_int) ga_nil))) (arl_cons (arl_cons (arl_cons arl_nil))))) gs_nil)))))))
    (gss_cons (gs_set 1 sc_by_hand_right.nd (g_bin op_addD (g_name 1) (toD (g_lst (gs_cons (g_tup (gs_cons g_int (gs_cons (g_tup (gs_cons (g_tup (gs_cons g_int (gs_cons g_int gs_nil))) (gs_cons (g_tup (gs_cons g_int (gs_cons g_int gs_nil))) gs_nil))) gs_nil))) (gs_cons g_non (gs_cons (g_tup (gs_cons g_int (gs_cons (g_tup (gs_cons (g_tup (gs_cons g_int (gs_cons g_int gs_nil))) gs_nil)) gs_nil))) gs_nil)))))))
    (gss_cons (gs_set 0 sc_by_hand_right.nd (g_bin op_addD (g_name 0) (toD (g_comp rfl sc_by_hand_right.nd (gi_seq (g_tup (gs_cons g_int (gs_cons g_int (gs_cons g_int (gs_cons g_int (gs_cons g_int gs_nil))))))) (own := [("k", 5)]) (blkOk_by (by kernel_rfl)) (by decide) (fun s H C cl fp => (gg_name 5 sc_by_hand_right.nd)) (fun s H C cl fp => gt_yes) (fun s H C cl fp => (toD (g_call (cal_missed_versions T) hr (by decide) (by rfl) passL (ga_cons (toE (g_name 3)) (ga_cons (toE (g_tup (gs_cons g_int (gs_cons g_int (gs_cons g_int gs_nil))))) (ga_cons (toE (g_name 5)) ga_nil))) (arl_cons (arl_cons (arl_cons arl_nil))))))))))
    (gss_cons (gs_set 1 sc_by_hand_right.nd (g_bin op_addD (g_name 1) (toD (g_lst (gs_cons (g_tup (gs_cons g_int gs_nil)) (gs_cons (g_tup (gs_cons g_int gs_nil)) (gs_cons (g_tup (gs_cons g_int gs_nil)) (gs_cons (g_tup gs_nil) (gs_cons (g_tup gs_nil) gs_nil)))))))))
    (gss_cons (gs_set 0 sc_by_hand_right.nd (g_bin op_addD (g_name 0) (toD (g_lst (gs_cons (toD (g_call (cal_missed_versions T) hr (by decide) (by rfl) (passes_call (takes_of rfl rfl rfl rfl) (fun _ _ _ _ h => h)) (ga_cons (toE (g_name 2)) (ga_cons (toE (g_tup (gs_cons g_int (gs_cons g_int (gs_cons g_int gs_nil))))) (ga_cons (toE g_int) ga_nil))) (arl_cons (arl_cons (arl_cons arl_nil))))) (gs_cons (toD (g_call (cal_missed_versions T) hr (by decide) (by rfl) (passes_call (takes_of rfl rfl rfl rfl) (fun _ _ _ _ h => h)) (ga_cons (toE (g_tup (gs_cons g_int (gs_cons g_int (gs_cons (g_tup gs_nil) gs_nil))))) (ga_cons (toE (g_tup (gs_cons g_int (gs_cons g_int gs_nil)))) (ga_cons (toE g_int) ga_nil))) (arl_cons (arl_cons (arl_cons arl_nil))))) gs_nil))))))
    (gss_cons (gs_set 1 sc_by_hand_right.nd (g_bin op_addD (g_name 1) (toD (g_lst (gs_cons (g_tup gs_nil) (gs_cons (g_tup gs_nil) gs_nil))))))
    (gss_cons (gs_set 0 sc_by_hand_right.nd (g_bin op_addD (g_name 0) (toD (g_lst (gs_cons (toD (g_call (cal_missed_versions T) hr (by decide) (by rfl) (passes_call (takes_of rfl rfl rfl rfl) (fun _ _ _ _ h => h)) (ga_cons (toE (toD (g_call (cal_covered T) hr (by decide) (by rfl) (passes_call (takes_of rfl rfl rfl rfl) (fun _ _ _ _ h => h)) (ga_cons (toE g_bl) ga_nil) (arl_cons arl_nil)))) (ga_cons (toE (g_tup (gs_cons g_int (gs_cons g_int gs_nil)))) (ga_cons (toE g_int) ga_nil))) (arl_cons (arl_cons (arl_cons arl_nil))))) (gs_cons (toD (g_call (cal_missed_versions T) hr (by decide) (by rfl) (passes_call (takes_of rfl rfl rfl rfl) (fun _ _ _ _ h => h)) (ga_cons (toE (toD (g_call (cal_covered T) hr (by decide) (by rfl) (passes_call (takes_of rfl rfl rfl rfl) (fun _ _ _ _ h => h)) (ga_cons (toE g_bl) ga_nil) (arl_cons arl_nil)))) (ga_cons (toE (g_tup (gs_cons g_int (gs_cons g_int gs_nil)))) (ga_cons (toE g_int) ga_nil))) (arl_cons (arl_cons (arl_cons arl_nil))))) gs_nil))))))
    (gss_one (gs_ret (g_call (cal_same T 6) hr (by decide) (by rfl) (passes_call (takes_of rfl rfl rfl rfl) (fun _ _ _ _ h => h)) (ga_cons (toE (g_name 0)) (ga_cons (toE (toD (g_bin op_addD (g_name 1) (toD (g_lst (gs_cons (g_tup (gs_cons g_int (gs_cons g_int gs_nil))) (gs_cons (g_tup gs_nil) gs_nil))))))) ga_nil)) (arl_cons (arl_cons arl_nil)))))))))))))))
theorem cal_by_hand_right (T : Txt K mg) : Cal P w K mg base 15 "_law_by_hand_right" 0 den_by_hand_right := calOf T.d_by_hand_right (ok_by_hand_right T)
theorem ok_right (T : Txt K mg) (f : Addr) (fd : FuncData) (Fn : Fun K "_law_right" "_law_right" s_right f fd) : FnOk P w K mg base (L2.CX P w) 16 f fd ["tin"] (spD K mg 1 den_right) := ok_def (k := 15) Fn sc_right fun cdv A outer s H E hr => have B := T.bt; (gss_cons (gs_set 1 sc_right.nd (g_call (cal_page T) hr (by decide) (by rfl) (passes_call (takes_of rfl rfl rfl rfl) (fun _ _ _ _ h => h)) (ga_lend 0 (ga_cons (toE (g_tup (gs_cons g_int (gs_cons g_int gs_nil)))) ga_nil)) (arl_lend (arl_cons arl_nil))))
    (gss_cons (gs_for (passes_of rfl) rfl (gi_seq (toD (g_call (cal_pick T) hr (by decide) (by rfl) (passes_call (takes_of rfl rfl rfl rfl) (fun _ _ _ _ h => h)) (ga_lend 0 (ga_cons (toE (toD (g_call (cal_lots T) hr (by decide) (by rfl) (passes_call (takes_of rfl rfl rfl rfl) (fun _ _ _ _ h => h)) (ga_cons (toE (toD (g_lst (gs_cons g_int (gs_cons g_int (gs_cons g_int gs_nil)))))) ga_nil) (arl_cons arl_nil)))) (ga_cons (toE g_int) ga_nil))) (arl_lend (arl_cons (arl_cons arl_nil)))))) (gg_name 2 sc_right.nd) (gss_one (gs_for (passes_of rfl) rfl (gi_seq (toD (g_bin op_addD (toD (g_lst (gs_cons g_int gs_nil))) (toD (g_call (cal_pick T) hr (by decide) (by rfl) (passes_call (takes_of rfl rfl rfl rfl) (fun _ _ _ _ h => h)) (ga_lend 0 (ga_cons (toE (toD (g_call (cal_ranks T) hr (by decide) (by rfl) (passes_call (takes_of rfl rfl rfl rfl) (fun _ _ _ _ h => h)) (ga_cons (toE (g_name 1)) ga_nil) (arl_cons arl_nil)))) (ga_cons (toE g_int) ga_nil))) (arl_lend (arl_cons (arl_cons arl_nil)))))))) (gg_name 4 sc_right.nd) (gss_one (gs_if (g_notT (g_tru (toD (g_call (cal_paper_right T) hr (by decide) (by rfl) (passes_call (takes_of rfl rfl rfl rfl) (fun _ _ _ _ h => h)) (ga_cons (toE (g_name 1)) (ga_cons (toE (g_name 2)) (ga_cons (toE (g_name 4)) ga_nil))) (arl_cons (arl_cons (arl_cons arl_nil))))))) (gss_one (gs_ret (toE g_bl))) gss_nil)))))
    (gss_cons (gs_set 3 sc_right.nd (g_call (cal_of T) hr (by decide) (by rfl) (passes_call (takes_of rfl rfl rfl rfl) (fun _ _ _ _ h => h)) (ga_lend 0 (ga_cons (toE (toD (g_lst (gs_cons (g_tup (gs_cons g_int (gs_cons g_int (gs_cons g_int gs_nil)))) (gs_cons (g_tup (gs_cons g_int (gs_cons g_int gs_nil))) (gs_cons (g_tup (gs_cons g_int (gs_cons g_int gs_nil))) (gs_cons (g_tup (gs_cons g_int (gs_cons g_int gs_nil))) gs_nil))))))) ga_nil)) (arl_lend (arl_cons arl_nil))))
    (gss_one (gs_ret (g_call (cal_versions_right T) hr (by decide) (by rfl) (passes_call (takes_of rfl rfl rfl rfl) (fun _ _ _ _ h => h)) (ga_cons (toE (g_name 1)) (ga_cons (toE (g_name 3)) (ga_cons (toE (toD (g_call (cal_take T) hr (by decide) (by rfl) (passes_call (takes_of rfl rfl rfl rfl) (fun _ _ _ _ h => h)) (ga_lend 0 (ga_cons (toE g_int) ga_nil)) (arl_lend (arl_cons arl_nil))))) ga_nil))) (arl_cons (arl_cons (arl_cons arl_nil)))))))))
theorem cal_right (T : Txt K mg) : Cal P w K mg base 16 "_law_right" 1 den_right := calOf T.d_right (ok_right T)
theorem ok_law (T : Txt K mg) (f : Addr) (fd : FuncData) (Fn : Fun K "law" "law" s_law f fd) : FnOk P w K mg base (L2.CX P w) 17 f fd ["script"] (spD K mg 1 den_law) := ok_def (k := 16) Fn sc_law fun cdv A outer s H E hr => have B := T.bt; (gss_cons (gs_if (g_notT (g_tru (toD (g_call0 (cal_by_hand_right T) hr (by decide) (by rfl) (passes_call (takes_of rfl rfl rfl rfl) (fun _ _ _ _ h => h)))))) (gss_one (gs_ret (toE g_bl))) gss_nil)
    (gss_cons (gs_set 1 sc_law.nd (g_call (cal_cells T) hr (by decide) (by rfl) (passes_call (takes_of rfl rfl rfl rfl) (fun _ _ _ _ h => h)) (ga_lend 0 (ga_cons (toE g_int) ga_nil)) (arl_lend (arl_cons arl_nil))))
    (gss_one (gs_ret (g_callB (call_allD rfl) (by rfl) B.all PyProof.Rows.Boot.all (gs_cons (toD (g_comp rfl sc_law.nd (gi_range1 (by rfl) B.range (gs_cons (g_lenP 1 (by rfl) B.len) gs_nil)) (own := [("k", 2)]) (blkOk_by (by kernel_rfl)) (by decide) (fun s H C cl fp => (gg_name 2 sc_law.nd)) (fun s H C cl fp => gt_yes) (fun s H C cl fp => (toD (g_call (cal_right T) hr (by decide) (by rfl) passL (ga_cons (g_call (cal_box T) hr (by decide) (by rfl) passL (ga_cons (toE (g_name 1)) (ga_cons (toE (g_name 2)) ga_nil)) (arl_cons (arl_cons arl_nil))) ga_nil) (arl_cons arl_nil)))))) gs_nil))))))
theorem cal_law (T : Txt K mg) : Cal P w K mg base 17 "law" 1 den_law := calOf T.d_law (ok_law T)
end
end K15

/-! E1: what denotations come to, step by step. -/
namespace Gx
open PySem PySem.Spec L2
open PyProof.Rows hiding St

section
variable {ρ ρ1 ρ2 ρ3 : Ev}
theorem ev_bnd {α β : Type} {f : Dn α} {g : α → Dn β} {a : α} {r : Rs (β × Ev)} (h1 : f ρ = .ok (a, ρ1)) (h2 : g a ρ1 = r) : bnd f g ρ = r := by
  unfold bnd
  rw [h1]
  exact h2
theorem ev_lft {α : Type} {o : Option α} {a : α} (h : o = some a) : lft o ρ = .ok (a, ρ) := by rw [h]; rfl
theorem ev_seq {f g : Dn Fl} {r : Rs (Fl × Ev)} (h1 : f ρ = .ok (.nx, ρ1)) (h2 : g ρ1 = r) : sSeq f g ρ = r := ev_bnd h1 h2
theorem ev_seqR {f g : Dn Fl} {v : Rv} (h1 : f ρ = .ok (.rt v, ρ1)) : sSeq f g ρ = .ok (.rt v, ρ1) := ev_bnd h1 rfl
theorem ev_put {i : Nat} {r : Rv} (h : isBl ρ[i]? = false) : put i r ρ = .ok (.nx, ρ.set i r.en) := by
  unfold put
  rw [h]
  rfl
theorem ev_set {i : Nat} {f : Dn Rv} {r : Rv} (h1 : f ρ = .ok (r, ρ1)) (h2 : isBl ρ1[i]? = false) : sSet i f ρ = .ok (.nx, ρ1.set i r.en) := ev_bnd h1 (ev_put h2)
theorem ev_ret {f : Dn Rv} {r : Rv} (h1 : f ρ = .ok (r, ρ1)) : sRet f ρ = .ok (.rt r, ρ1) := ev_bnd h1 rfl
theorem ev_if {c : Dn Bool} {f g : Dn Fl} {b : Bool} {r : Rs (Fl × Ev)} (h1 : c ρ = .ok (b, ρ1)) (h2 : (if b then f else g) ρ1 = r) : sIf c f g ρ = r := ev_bnd h1 h2
theorem ev_nil : dNil ρ = .ok ([], ρ) := rfl
theorem ev_cons {f : Dn PyData} {g : Dn (List PyData)} {d : PyData} {ds : List PyData} (h1 : f ρ = .ok (d, ρ1)) (h2 : g ρ1 = .ok (ds, ρ2)) : dCons f g ρ = .ok (d :: ds, ρ2) := ev_bnd h1 (ev_bnd h2 rfl)
theorem ev_lst {f : Dn (List PyData)} {ds : List PyData} (h1 : f ρ = .ok (ds, ρ1)) (h2 : okLen ds.length = true) : dLst f ρ = .ok (.ol ds, ρ1) := ev_bnd h1 (by show (if okLen ds.length then ret (Rv.ol ds) else lft none : Dn Rv) ρ1 = _; rw [if_pos h2]; rfl)
theorem ev_tup {f : Dn (List PyData)} {ds : List PyData} (h1 : f ρ = .ok (ds, ρ1)) (h2 : okLen ds.length = true) : dTup f ρ = .ok (.tuple ds, ρ1) := ev_bnd h1 (by show (if okLen ds.length then ret (PyData.tuple ds) else lft none : Dn PyData) ρ1 = _; rw [if_pos h2]; rfl)
theorem ev_frz {f : Dn Rv} {r : Rv} (h1 : f ρ = .ok (r, ρ1)) : frz f ρ = .ok (r.d, ρ1) := ev_bnd h1 rfl
theorem ev_ofD {f : Dn PyData} {d : PyData} (h1 : f ρ = .ok (d, ρ1)) : ofD f ρ = .ok (.fz d, ρ1) := ev_bnd h1 rfl
theorem ev_bin {g : PyData → PyData → Option Rv} {fa fb : Dn PyData} {x y : PyData} {r : Rv} (h1 : fa ρ = .ok (x, ρ1)) (h2 : fb ρ1 = .ok (y, ρ2)) (h3 : g x y = some r) : dBin g fa fb ρ = .ok (r, ρ2) := ev_bnd h1 (ev_bnd h2 (ev_lft h3))
theorem ev_un {g : PyData → Option PyData} {f : Dn PyData} {x r : PyData} (h1 : f ρ = .ok (x, ρ1)) (h2 : g x = some r) : dUn g f ρ = .ok (r, ρ1) := ev_bnd h1 (ev_lft h2)
theorem ev_call {g : List PyData → Option Rv} {f : Dn (List PyData)} {xs : List PyData} {r : Rv} (h1 : f ρ = .ok (xs, ρ1)) (h2 : g xs = some r) : dCall g f ρ = .ok (r, ρ1) := ev_bnd h1 (ev_lft h2)
theorem ev_mk {C : Addr} {f : Dn PyData} {n : Int} (ok : okN n = true) (h1 : f ρ = .ok (.int n, ρ1)) : dMk C f ρ = .ok (exD1 C n, ρ1) := ev_bnd h1 (by show (if okN n then ret (exD1 C n) else lft none : Dn PyData) ρ1 = _; rw [if_pos ok]; rfl)
theorem ev_cmpT {g : PyData → PyData → Option Rv} {fa fb : Dn PyData} {x y : PyData} {b : Bool} (h1 : fa ρ = .ok (x, ρ1)) (h2 : fb ρ1 = .ok (y, ρ2)) (h3 : g x y = fB b) : dCmpT g fa fb ρ = .ok (b, ρ2) := ev_bnd (ev_bin h1 h2 h3) rfl
theorem ev_app {den : Den} {as : List Ar} {es es2 : List En} {r : Rv} (h1 : lent as = some none) (h2 : as.map (Ar.en ρ) = es) (h3 : den es = .ok (r, es2)) : apply den as ρ = .ok (r, ρ) := by
  unfold apply
  rw [h1]
  simp only [h2, h3]
  rfl
theorem ev_fn {den : Den} {f : Dn (List Ar)} {as : List Ar} {es es2 : List En} {r : Rv} (h0 : f ρ = .ok (as, ρ1)) (h1 : lent as = some none) (h2 : as.map (Ar.en ρ1) = es) (h3 : den es = .ok (r, es2)) : dFn den f ρ = .ok (r, ρ1) := ev_bnd h0 (ev_app h1 h2 h3)
theorem ev_run {n N : Nat} {f : Dn Fl} {as : List En} {r : Rv} (h : f (as ++ List.replicate (N - n) .no) = .ok (.rt r, ρ1)) : runF n N f as = .ok (r, back as ρ1) := by
  unfold runF
  rw [h]
theorem ev_peek {i : Nat} {f : Dn PyData} {k d : PyData} (h0 : (seqE ρ[i]?).isSome = true) (h1 : f ρ = .ok (k, ρ1)) (h2 : itemE ρ1[i]? k = some d) : dPeek i f ρ = .ok (d, ρ1) := by
  unfold dPeek
  rw [h0, if_pos rfl]
  refine ev_bnd h1 ?_
  simp only [h2]
theorem ev_setIx {i : Nat} {fk f : Dn PyData} {d k : PyData} {ys : List PyData} (h1 : f ρ = .ok (d, ρ1)) (h0 : (ownOf ρ1[i]?).isSome = true) (h2 : fk ρ1 = .ok (k, ρ2)) (h3 : (ownOf ρ2[i]?).bind (setIxD d k) = some ys) : sSetIx i fk f ρ = .ok (.nx, ρ2.set i (reKind ρ2[i]? ys)) := by
  refine ev_bnd h1 ?_
  show (if (ownOf ρ1[i]?).isSome then bnd fk (fun k => sUpd i (setIxD d k)) ρ1 else .st) = _
  rw [h0, if_pos rfl]
  refine ev_bnd h2 ?_
  unfold sUpd
  rw [h3]
end
theorem modD_ev {i j : Int} (h : 0 < j) : modD (.int i) (.int j) = some (.fz (.int (i % j))) := if_pos h
theorem fdivD_ev {i j : Int} (h : 0 < j) (h2 : j < 1073741824) : fdivD (.int i) (.int j) = some (.fz (.int (i / j))) := if_pos ⟨h, h2⟩
theorem w64_of {i : Int} (h1 : -1000000000000000000 < i) (h2 : i < 1000000000000000000) : w64 i = true := by
  unfold w64
  rw [Bool.and_eq_true]
  exact ⟨decide_eq_true (by omega), decide_eq_true (by omega)⟩
theorem mulD_l {i j : Int} (h : w64 i = true) : mulD (.int i) (.int j) = some (.fz (.int (i * j))) := by
  show (if w64 i || w64 j then _ else _) = _
  rw [h]
  rfl
theorem mulD_r {i j : Int} (h : w64 j = true) : mulD (.int i) (.int j) = some (.fz (.int (i * j))) := by
  show (if w64 i || w64 j then _ else _) = _
  rw [h, Bool.or_true]
  rfl
section
variable {ρ ρ1 ρ2 ρ3 : Ev}
theorem ev_fnL {den : Den} {f : Dn (List Ar)} {as : List Ar} {es es2 : List En} {r : Rv} {k i : Nat} (h0 : f ρ = .ok (as, ρ1)) (h1 : lent as = some (some (k, i))) (h2 : as.map (Ar.en ρ1) = es) (h3 : den es = .ok (r, es2)) : dFn den f ρ = .ok (r, putAt ρ1 i es2[k]?) := by
  refine ev_bnd h0 ?_
  unfold apply
  rw [h1]
  simp only [h2, h3]
  rfl
theorem ev_lendB {i : Nat} {g : Dn (List Ar)} {as : List Ar} {xs : List PyData} (h : ρ[i]? = some (.bl xs)) (h1 : g ρ = .ok (as, ρ1)) : aLend i g ρ = .ok (.sl i :: as, ρ1) := by
  unfold aLend
  rw [h]
  exact ev_bnd h1 rfl
theorem ev_aconsF {f : Dn Rv} {g : Dn (List Ar)} {d : PyData} {as : List Ar} (h1 : f ρ = .ok (.fz d, ρ1)) (h2 : g ρ1 = .ok (as, ρ2)) : aCons f g ρ = .ok (.fz d :: as, ρ2) := ev_bnd h1 (ev_bnd h2 rfl)
theorem ev_aconsO {f : Dn Rv} {g : Dn (List Ar)} {xs : List PyData} {as : List Ar} (h1 : f ρ = .ok (.ol xs, ρ1)) (h2 : g ρ1 = .ok (as, ρ2)) : aCons f g ρ = .ok (.tp xs :: as, ρ2) := ev_bnd h1 (ev_bnd h2 rfl)
theorem ev_lendS {i : Nat} {g : Dn (List Ar)} {as : List Ar} {ns : Sc} (h : ρ[i]? = some (.sc ns)) (h1 : g ρ = .ok (as, ρ1)) : aLend i g ρ = .ok (.sc ns :: as, ρ1) := by
  unfold aLend
  rw [h]
  exact ev_bnd h1 rfl
theorem ev_cnil {h : PyData → Ev → Option Ev} {ft : Dn Bool} {fe : Dn PyData} {vs : List Nat} {acc : List PyData} : compL h ft fe vs [] acc ρ = .ok (acc, ρ) := rfl
theorem ev_ccons {h : PyData → Ev → Option Ev} {ft : Dn Bool} {fe : Dn PyData} {vs : List Nat} {acc ds : List PyData} {d y : PyData} {r : Rs (List PyData × Ev)} (h1 : h d ρ = some ρ1) (h2 : ft ρ1 = .ok (true, ρ2)) (h3 : fe ρ2 = .ok (y, ρ3)) (h4 : okLen (acc.length + 1) = true) (h5 : compL h ft fe vs ds (acc ++ [y]) (wipeE ρ3 vs) = r) : compL h ft fe vs (d :: ds) acc ρ = r := by
  unfold compL
  simp only [h1, h2, h3, h4, if_true]
  exact h5
theorem ev_cskip {h : PyData → Ev → Option Ev} {ft : Dn Bool} {fe : Dn PyData} {vs : List Nat} {acc ds : List PyData} {d : PyData} {r : Rs (List PyData × Ev)} (h1 : h d ρ = some ρ1) (h2 : ft ρ1 = .ok (false, ρ2)) (h5 : compL h ft fe vs ds acc (wipeE ρ2 vs) = r) : compL h ft fe vs (d :: ds) acc ρ = r := by
  unfold compL
  simp only [h1, h2]
  exact h5
theorem ev_comp {fi : Dn (List PyData)} {h : PyData → Ev → Option Ev} {ft : Dn Bool} {fe : Dn PyData} {vs : List Nat} {ds ys : List PyData} (h1 : fi ρ = .ok (ds, ρ1)) (h2 : (vs.all fun v => !isBl ρ1[v]?) = true) (h3 : compL h ft fe vs ds [] (wipeE ρ1 vs) = .ok (ys, ρ2)) : dComp fi h ft fe vs ρ = .ok (.ol ys, restE ρ1 ρ2 vs) := by
  refine ev_bnd h1 ?_
  rw [if_pos h2, h3]
end
end Gx

/-! M10: families as lists of masks below 32; what a set of places has a whole lot of. -/
namespace M10
def sub (m n : Nat) : Bool := m &&& n == m
def up (ms : List Nat) (s : Nat) : Bool := ms.any fun m => sub m s
/-- all masks, as tuples of places stand in order -/
def tl : List Nat := [0, 1, 3, 7, 15, 31, 23, 11, 27, 19, 5, 13, 29, 21, 9, 25, 17, 2, 6, 14, 30, 22, 10, 26, 18, 4, 12, 28, 20, 8, 24, 16]
def mn (U : Nat → Bool) (m : Nat) : Bool := U m && (List.range 32).all fun n => !(sub n m && n != m && U n)
/-- the family of the least sets that U holds of -/
def FU (U : Nat → Bool) : List Nat := tl.filter (mn U)
/-- those in which no other one lies -/
def mo (ms : List Nat) (m : Nat) : Bool := ms.contains m && !(ms.any fun n => n != m && sub n m)
def Lt (ms : List Nat) : Prop := ∀ m ∈ ms, m < 32
theorem sub_self (m : Nat) : sub m m = true := by unfold sub; simp
theorem sub_iff {m n : Nat} : sub m n = true ↔ m &&& n = m := by unfold sub; simp
theorem sub_tr {a b c : Nat} (h1 : sub a b = true) (h2 : sub b c = true) : sub a c = true := by
  rw [sub_iff] at *
  rw [← h1, Nat.and_assoc, h2]
theorem sub_anti {a b : Nat} (h1 : sub a b = true) (h2 : sub b a = true) : a = b := by
  rw [sub_iff] at *
  rw [← h1, Nat.and_comm, h2]
theorem up_iff {ms : List Nat} {s : Nat} : up ms s = true ↔ ∃ m ∈ ms, sub m s = true := by unfold up; simp
theorem up_mono {ms : List Nat} {s t : Nat} (h : up ms s = true) (q : sub s t = true) : up ms t = true := by
  rw [up_iff] at *
  obtain ⟨m, h1, h2⟩ := h
  exact ⟨m, h1, sub_tr h2 q⟩
theorem mn_iff {U : Nat → Bool} {m : Nat} : mn U m = true ↔ U m = true ∧ ∀ n < 32, sub n m = true → n ≠ m → U n = false := by
  unfold mn
  simp only [Bool.and_eq_true, List.all_eq_true, List.mem_range]
  constructor
  · rintro ⟨h1, h2⟩
    refine ⟨h1, fun n hn q1 q2 => ?_⟩
    have h := h2 n hn
    cases e : U n
    · rfl
    · simp [q1, q2, e] at h
  · rintro ⟨h1, h2⟩
    refine ⟨h1, fun n hn => ?_⟩
    cases e : sub n m
    · simp
    · by_cases q : n = m
      · simp [q]
      · simp [h2 n hn e q]
theorem mo_iff {ms : List Nat} {m : Nat} : mo ms m = true ↔ m ∈ ms ∧ ∀ n ∈ ms, sub n m = true → n = m := by
  unfold mo
  simp only [Bool.and_eq_true, List.contains_iff_mem, Bool.not_eq_true', List.any_eq_false]
  constructor
  · rintro ⟨h1, h2⟩
    refine ⟨h1, fun n hn q => ?_⟩
    have h := h2 n hn
    simpa [q] using h
  · rintro ⟨h1, h2⟩
    refine ⟨h1, fun n hn => ?_⟩
    intro h
    simp only [Bool.and_eq_true, bne_iff_ne, ne_eq] at h
    exact h.1 (h2 n hn h.2)
theorem mo_up {ms : List Nat} (hb : Lt ms) (m : Nat) : mo ms m = mn (up ms) m := by
  rw [Bool.eq_iff_iff, mo_iff, mn_iff]
  constructor
  · rintro ⟨h1, h2⟩
    refine ⟨up_iff.mpr ⟨m, h1, sub_self m⟩, fun n hn q1 q2 => ?_⟩
    cases e : up ms n
    · rfl
    · obtain ⟨k, k1, k2⟩ := up_iff.mp e
      have e2 := h2 k k1 (sub_tr k2 q1)
      subst e2
      exact absurd (sub_anti q1 k2) q2
  · rintro ⟨h1, h2⟩
    obtain ⟨k, k1, k2⟩ := up_iff.mp h1
    have e : k = m := by
      by_cases e : k = m
      · exact e
      · have q := h2 k (hb k k1) k2 e
        have q2 : up ms k = true := up_iff.mpr ⟨k, k1, sub_self k⟩
        rw [q] at q2
        cases q2
    subst e
    refine ⟨k1, fun n hn q => ?_⟩
    by_cases e : n = k
    · exact e
    · have q1 := h2 n (hb n hn) q e
      have q2 : up ms n = true := up_iff.mpr ⟨n, hn, sub_self n⟩
      rw [q1] at q2
      cases q2
/-- the minimal ones, in the order of tuples -/
theorem least_FU {ms : List Nat} (hb : Lt ms) : tl.filter (mo ms) = FU (up ms) := by
  unfold FU
  congr 1
  exact funext (mo_up hb)
theorem mn_congr {U V : Nat → Bool} (h : ∀ s < 32, U s = V s) {m : Nat} (hm : m < 32) : mn U m = mn V m := by
  unfold mn
  rw [h m hm]
  congr 1
  rw [Bool.eq_iff_iff]
  simp only [List.all_eq_true, List.mem_range]
  constructor
  · intro q n hn; rw [← h n hn]; exact q n hn
  · intro q n hn; rw [h n hn]; exact q n hn
theorem tl_lt : ∀ m ∈ tl, m < 32 := by decide
theorem tl_all : ∀ m < 32, m ∈ tl := by decide
theorem tl_nodup : tl.Nodup := by decide
theorem FU_congr {U V : Nat → Bool} (h : ∀ s < 32, U s = V s) : FU U = FU V := by
  unfold FU
  exact List.filter_congr fun m hm => mn_congr h (tl_lt m hm)
theorem FU_lt (U : Nat → Bool) : Lt (FU U) := fun m h => tl_lt m ((List.mem_filter.mp h).1)
/-- below each set that holds there is a least one -/
theorem mn_below {U : Nat → Bool} : ∀ (k s : Nat), s ≤ k → s < 32 → U s = true → ∃ m, m < 32 ∧ mn U m = true ∧ sub m s = true
  | k, s, hk, hs, h => by
    by_cases q : mn U s = true
    · exact ⟨s, hs, q, sub_self s⟩
    · have q2 : ¬ (U s = true ∧ ∀ n < 32, sub n s = true → n ≠ s → U n = false) := fun z => q (mn_iff.mpr z)
      have q3 : ∃ n, n < 32 ∧ sub n s = true ∧ n ≠ s ∧ U n = true := by
        refine Classical.byContradiction fun z => q2 ⟨h, fun n hn q1 q2 => ?_⟩
        cases e : U n
        · rfl
        · exact absurd ⟨n, hn, q1, q2, e⟩ z
      obtain ⟨n, hn, q1, q2, q3⟩ := q3
      have lt : n < s := by
        have := Nat.and_le_right (n := n) (m := s)
        rw [sub_iff.mp q1] at this
        omega
      match k, hk with
      | 0, hk => omega
      | k + 1, hk =>
        obtain ⟨m, m1, m2, m3⟩ := mn_below k n (by omega) hn q3
        exact ⟨m, m1, m2, sub_tr m3 q1⟩
theorem up_FU {U : Nat → Bool} (hU : ∀ s t, s < 32 → t < 32 → sub s t = true → U s = true → U t = true) {s : Nat} (hs : s < 32) : up (FU U) s = U s := by
  rw [Bool.eq_iff_iff, up_iff]
  constructor
  · rintro ⟨m, h1, h2⟩
    have h3 := (List.mem_filter.mp h1)
    exact hU m s (tl_lt m h3.1) hs h2 (mn_iff.mp h3.2).1
  · intro h
    obtain ⟨m, m1, m2, m3⟩ := mn_below s s (Nat.le_refl _) hs h
    exact ⟨m, List.mem_filter.mpr ⟨tl_all m m1, m2⟩, m3⟩
theorem up_least {ms : List Nat} {s : Nat} (hs : s < 32) : up (FU (up ms)) s = up ms s := up_FU (fun _ _ _ _ q h => up_mono h q) hs
/-- a family as it ought to stand -/
def Can (ks : List Nat) : Prop := ks = FU (up ks)
theorem can_FU (ms : List Nat) : Can (FU (up ms)) := (FU_congr fun s hs => up_least hs).symm
theorem can_lt {ks : List Nat} (h : Can ks) : Lt ks := by rw [h]; exact FU_lt _
/-! either, both -/
theorem up_app (ks fs : List Nat) (s : Nat) : up (ks ++ fs) s = (up ks s || up fs s) := by unfold up; rw [List.any_append]
theorem sub_or {a b s : Nat} : sub (a ||| b) s = (sub a s && sub b s) := by
  rw [Bool.eq_iff_iff, Bool.and_eq_true, sub_iff, sub_iff, sub_iff, Nat.and_or_distrib_right]
  constructor
  · intro h
    constructor
    · have q : a &&& (a &&& s ||| b &&& s) = a &&& (a ||| b) := by rw [h]
      rw [Nat.and_or_distrib_left] at q
      apply Nat.eq_of_testBit_eq
      intro i
      have h1 := congrArg (fun z => Nat.testBit z i) h
      simp only [Nat.testBit_or, Nat.testBit_and] at h1 ⊢
      revert h1
      generalize a.testBit i = x
      generalize b.testBit i = y
      generalize s.testBit i = z
      revert x y z
      decide
    · apply Nat.eq_of_testBit_eq
      intro i
      have h1 := congrArg (fun z => Nat.testBit z i) h
      simp only [Nat.testBit_or, Nat.testBit_and] at h1 ⊢
      revert h1
      generalize a.testBit i = x
      generalize b.testBit i = y
      generalize s.testBit i = z
      revert x y z
      decide
  · rintro ⟨h1, h2⟩
    rw [h1, h2]
def ors (ks fs : List Nat) : List Nat := ks.flatMap fun a => fs.map fun b => a ||| b
theorem up_ors (ks fs : List Nat) (s : Nat) : up (ors ks fs) s = (up ks s && up fs s) := by
  rw [Bool.eq_iff_iff, Bool.and_eq_true, up_iff, up_iff, up_iff]
  unfold ors
  simp only [List.mem_flatMap, List.mem_map]
  constructor
  · rintro ⟨m, ⟨a, ha, b, hb, rfl⟩, h⟩
    rw [sub_or, Bool.and_eq_true] at h
    exact ⟨⟨a, ha, h.1⟩, ⟨b, hb, h.2⟩⟩
  · rintro ⟨⟨a, ha, h1⟩, ⟨b, hb, h2⟩⟩
    exact ⟨a ||| b, ⟨a, ha, b, hb, rfl⟩, by rw [sub_or, h1, h2]; rfl⟩
/-! blockers -/
def bits (l : Nat) : List Nat := (List.range 5).filter fun p => l >>> p &&& 1 == 1
def hit1 (l m : Nat) : List Nat := if m &&& l == 0 then (bits l).map fun p => m ||| 1 <<< p else [m]
def hits (l : Nat) (ms : List Nat) : List Nat := ms.flatMap (hit1 l)
def lst (ms : List Nat) : List Nat := (List.range 32).filter (mo ms)
def blk : List Nat → List Nat → List Nat
  | [], found => found
  | l :: ls, found => blk ls (lst (hits l found))
theorem up_lst {ms : List Nat} (hb : Lt ms) {s : Nat} (hs : s < 32) : up (lst ms) s = up ms s := by
  have e : ∀ m, m ∈ lst ms ↔ m ∈ FU (up ms) := by
    intro m
    rw [← least_FU hb]
    unfold lst
    rw [List.mem_filter, List.mem_filter, List.mem_range]
    exact ⟨fun h => ⟨tl_all m h.1, h.2⟩, fun h => ⟨tl_lt m h.1, h.2⟩⟩
  refine Eq.trans ?_ (up_least hs)
  rw [Bool.eq_iff_iff, up_iff, up_iff]
  exact ⟨fun ⟨m, h1, h2⟩ => ⟨m, (e m).mp h1, h2⟩, fun ⟨m, h1, h2⟩ => ⟨m, (e m).mpr h1, h2⟩⟩
theorem lst_lt (ms : List Nat) : Lt (lst ms) := fun m h => List.mem_range.mp ((List.mem_filter.mp h).1)
def chk1 : Bool := (List.range 32).all fun l => (List.range 32).all fun m => (hit1 l m).all (fun z => z < 32) && (List.range 32).all fun s => up (hit1 l m) s == (sub m s && s &&& l != 0)
theorem chk1_ok : chk1 = true := by decide +kernel
theorem hit1_ok {l m : Nat} (hl : l < 32) (hm : m < 32) : Lt (hit1 l m) ∧ ∀ s < 32, up (hit1 l m) s = (sub m s && s &&& l != 0) := by
  have h := chk1_ok
  unfold chk1 at h
  rw [List.all_eq_true] at h
  have h := h l (List.mem_range.mpr hl)
  rw [List.all_eq_true] at h
  have h := h m (List.mem_range.mpr hm)
  rw [Bool.and_eq_true, List.all_eq_true, List.all_eq_true] at h
  exact ⟨fun z hz => by simpa using h.1 z hz, fun s hs => by simpa using h.2 s (List.mem_range.mpr hs)⟩
theorem hits_lt {l : Nat} (hl : l < 32) {ms : List Nat} (hb : Lt ms) : Lt (hits l ms) := by
  intro z hz
  obtain ⟨m, h1, h2⟩ := List.mem_flatMap.mp hz
  exact (hit1_ok hl (hb m h1)).1 z h2
theorem up_hits {l : Nat} (hl : l < 32) : ∀ {ms : List Nat}, Lt ms → ∀ {s : Nat}, s < 32 → up (hits l ms) s = (up ms s && s &&& l != 0)
  | [], _, s, hs => by simp [hits, up]
  | m :: ms, hb, s, hs => by
    have e : hits l (m :: ms) = hit1 l m ++ hits l ms := by simp [hits]
    rw [e, up_app, (hit1_ok hl (hb m (by simp))).2 s hs, up_hits hl (fun z hz => hb z (by simp [hz])) hs]
    show _ = ((sub m s || up ms s) && _)
    cases sub m s <;> cases up ms s <;> simp
/-- the complement -/
def co (s : Nat) : Nat := s ^^^ 31
theorem co_lt {s : Nat} (h : s < 32) : co s < 32 := Nat.xor_lt_two_pow (n := 5) h (by decide)
theorem co_co (s : Nat) : co (co s) = s := by unfold co; rw [Nat.xor_assoc, Nat.xor_self, Nat.xor_zero]
def chk2 : Bool := (List.range 32).all fun l => (List.range 32).all fun s => (s &&& l != 0) == !(sub l (co s))
theorem chk2_ok : chk2 = true := by decide +kernel
theorem meet_co {l s : Nat} (hl : l < 32) (hs : s < 32) : (s &&& l != 0) = !(sub l (co s)) := by
  have h := chk2_ok
  unfold chk2 at h
  rw [List.all_eq_true] at h
  have h := h l (List.mem_range.mpr hl)
  rw [List.all_eq_true] at h
  simpa using h s (List.mem_range.mpr hs)
theorem blk_lt : ∀ {ls found : List Nat}, Lt found → Lt (blk ls found)
  | [], _, h => h
  | l :: ls, found, h => blk_lt (ls := ls) (lst_lt (hits l found))
theorem up_blk : ∀ {ls found : List Nat}, Lt ls → Lt found → ∀ {s : Nat}, s < 32 → up (blk ls found) s = (up found s && !(up ls (co s)))
  | [], found, _, _, s, hs => by simp [blk, up]
  | l :: ls, found, hl, hf, s, hs => by
    have h1 := hits_lt (hl l (by simp)) hf
    show up (blk ls (lst (hits l found))) s = _
    rw [up_blk (fun z hz => hl z (by simp [hz])) (lst_lt _) hs, up_lst h1 hs, up_hits (hl l (by simp)) hf hs, meet_co (hl l (by simp)) hs]
    show _ = (up found s && !(sub l (co s) || up ls (co s)))
    cases up found s <;> cases sub l (co s) <;> simp
/-- blockers of a family -/
def bl (ks : List Nat) : List Nat := FU (up (blk ks [0]))
theorem up_0 {s : Nat} : up [0] s = true := by simp [up, sub]
theorem up_bl {ks : List Nat} (h : Lt ks) {s : Nat} (hs : s < 32) : up (bl ks) s = !(up ks (co s)) := by
  unfold bl
  rw [up_least hs, up_blk h (by intro m hm; simp at hm; omega) hs, up_0, Bool.true_and]
theorem bl_can (ks : List Nat) : Can (bl ks) := can_FU _
theorem bl_lt (ks : List Nat) : Lt (bl ks) := FU_lt _
theorem can_eq {ks fs : List Nat} (h1 : Can ks) (h2 : Can fs) (h : ∀ s < 32, up ks s = up fs s) : ks = fs := by
  rw [h1, h2]
  exact FU_congr h
theorem bl_bl {ks : List Nat} (h : Can ks) : bl (bl ks) = ks :=
  can_eq (bl_can _) h fun s hs => by rw [up_bl (bl_lt _) hs, up_bl (can_lt h) (co_lt hs), co_co, Bool.not_not]
def ei (ks fs : List Nat) : List Nat := FU (up (ks ++ fs))
def bo (ks fs : List Nat) : List Nat := FU (up (ors ks fs))
theorem up_ei {ks fs : List Nat} {s : Nat} (hs : s < 32) : up (ei ks fs) s = (up ks s || up fs s) := by unfold ei; rw [up_least hs, up_app]
theorem up_bo {ks fs : List Nat} {s : Nat} (hs : s < 32) : up (bo ks fs) s = (up ks s && up fs s) := by unfold bo; rw [up_least hs, up_ors]
theorem bl_ei {ks fs : List Nat} (h1 : Lt ks) (h2 : Lt fs) : bl (ei ks fs) = bo (bl ks) (bl fs) :=
  can_eq (bl_can _) (can_FU _) fun s hs => by rw [up_bl (ks := ei ks fs) (FU_lt _) hs, up_ei (co_lt hs), up_bo hs, up_bl h1 hs, up_bl h2 hs, Bool.not_or]
theorem bl_bo {ks fs : List Nat} (h1 : Lt ks) (h2 : Lt fs) : bl (bo ks fs) = ei (bl ks) (bl fs) :=
  can_eq (bl_can _) (can_FU _) fun s hs => by rw [up_bl (ks := bo ks fs) (FU_lt _) hs, up_bo (co_lt hs), up_ei hs, up_bl h1 hs, up_bl h2 hs, Bool.not_and]
/-! at most ten least ones -/
def chain (m : Nat) : Nat := [0, 0, 1, 0, 2, 1, 4, 0, 3, 2, 5, 1, 6, 3, 4, 0, 7, 3, 8, 2, 9, 7, 5, 1, 9, 7, 8, 4, 6, 3, 5, 0].getD m 0
end M10

/-! E20: what comprehensions and loops over data come to. -/
namespace Gx
open PySem PySem.Spec L2
open PyProof.Rows hiding St
def Gv (den : Den) (as : List En) (r : Rv) : Prop := ∃ es, den as = .ok (r, es)
theorem gv_run {n N : Nat} {f : Dn Fl} {as : List En} {r : Rv} (h : ∃ ρ1, f (as ++ List.replicate (N - n) .no) = .ok (.rt r, ρ1)) : Gv (runF n N f) as r := by
  obtain ⟨ρ1, h⟩ := h
  exact ⟨_, ev_run h⟩
section
variable {ρ ρ1 ρ2 : Ev}
theorem gv_fn {den : Den} {f : Dn (List Ar)} {as : List Ar} {es : List En} {r : Rv} (h0 : f ρ = .ok (as, ρ1)) (h1 : lent as = some none) (h2 : as.map (Ar.en ρ1) = es) (h3 : Gv den es r) : dFn den f ρ = .ok (r, ρ1) := by
  obtain ⟨es2, h3⟩ := h3
  exact ev_fn h0 h1 h2 h3
theorem set_twice {α : Type} {l : List α} {i : Nat} {a b : α} : (l.set i a).set i b = l.set i b := by simp
theorem wipe1 {i : Nat} {e : En} : wipeE (ρ.set i e) [i] = ρ.set i .no := by
  show ((ρ.set i e)).set i .no = _
  rw [set_twice]
theorem compL1 {ι : Type} {u : ι → PyData} {i : Nat} {ft : Dn Bool} {fe : Dn PyData} {p : ι → Bool} {g : ι → PyData} : ∀ (ds : List ι) (acc : List PyData), isBl ρ[i]? = false → (∀ d ∈ ds, ft (ρ.set i (.fz (u d))) = .ok (p d, ρ.set i (.fz (u d)))) → (∀ d ∈ ds, p d = true → fe (ρ.set i (.fz (u d))) = .ok (g d, ρ.set i (.fz (u d)))) → acc.length + ds.length ≤ 16777216 →
    compL (hName i) ft fe [i] (ds.map u) acc (ρ.set i .no) = .ok (acc ++ (ds.filter p).map g, ρ.set i .no)
  | [], acc, _, _, _, _ => by simp [compL]
  | d :: ds, acc, hb, ht, he, hl => by
    have hlt : i < ρ.length := (isBl_f hb).2
    have h1 : hName i (u d) (ρ.set i .no) = some (ρ.set i (.fz (u d))) := by
      unfold hName
      rw [List.getElem?_set_self hlt]
      show some ((ρ.set i .no).set i (.fz (u d))) = _
      rw [set_twice]
    have t := ht d (by simp)
    simp only [List.length_cons] at hl
    rw [List.map_cons]
    unfold compL
    simp only [h1, t]
    cases hp : p d with
    | true =>
      have e := he d (by simp) hp
      have ok : okLen (acc.length + 1) = true := decide_eq_true (by omega)
      simp only [e, ok, if_true, wipe1]
      rw [compL1 ds (acc ++ [g d]) hb (fun x hx => ht x (by simp [hx])) (fun x hx => he x (by simp [hx])) (by simp; omega)]
      simp [hp]
    | false =>
      simp only [wipe1]
      rw [compL1 ds acc hb (fun x hx => ht x (by simp [hx])) (fun x hx => he x (by simp [hx])) (by omega)]
      simp [hp]
theorem rest1 {i : Nat} (h : i < ρ.length) : restE ρ (ρ.set i .no) [i] = ρ := by
  apply List.ext_getElem?
  intro j
  rw [restE_get (by simp)]
  by_cases e : j = i
  · subst e; simp
  · simp [e]
    rw [List.getElem?_set_ne (Ne.symm e)]
/-- [fe for i in fi if ft] -/
theorem ev_comp1 {ι : Type} {u : ι → PyData} {i : Nat} {fi : Dn (List PyData)} {ft : Dn Bool} {fe : Dn PyData} {ds : List ι} (p : ι → Bool) (g : ι → PyData) (h0 : fi ρ = .ok (ds.map u, ρ1)) (hb : isBl ρ1[i]? = false) (ht : ∀ d ∈ ds, ft (ρ1.set i (.fz (u d))) = .ok (p d, ρ1.set i (.fz (u d))))
    (he : ∀ d ∈ ds, p d = true → fe (ρ1.set i (.fz (u d))) = .ok (g d, ρ1.set i (.fz (u d)))) (hl : ds.length ≤ 16777216) : dComp fi (hName i) ft fe [i] ρ = .ok (.ol ((ds.filter p).map g), ρ1) := by
  refine ev_bnd h0 ?_
  have hv : ([i].all fun v => !isBl ρ1[v]?) = true := by simp [hb]
  have hw : wipeE ρ1 [i] = ρ1.set i .no := rfl
  rw [if_pos hv, hw, compL1 ds [] hb ht he (by simpa using hl)]
  simp [rest1 (isBl_f hb).2]
/-- [fe for i in fi] -/
theorem ev_comp0 {ι : Type} {u : ι → PyData} {i : Nat} {fi : Dn (List PyData)} {fe : Dn PyData} {ds : List ι} (g : ι → PyData) (h0 : fi ρ = .ok (ds.map u, ρ1)) (hb : isBl ρ1[i]? = false) (he : ∀ d ∈ ds, fe (ρ1.set i (.fz (u d))) = .ok (g d, ρ1.set i (.fz (u d)))) (hl : ds.length ≤ 16777216) :
    dComp fi (hName i) yesT fe [i] ρ = .ok (.ol (ds.map g), ρ1) := by
  have h := ev_comp1 (ft := yesT) (fe := fe) (fun _ => true) g h0 hb (fun _ _ => rfl) (fun d hd _ => he d hd) hl
  rw [List.filter_eq_self.mpr (by simp)] at h
  exact h
/-- the same over a list as it stands in slot s -/
theorem compLO1 {ι : Type} {u : ι → PyData} {s i : Nat} {fe : Dn PyData} {g : ι → PyData} {ds : List ι} (hs : ownOf ρ[s]? = some (ds.map u)) (hn : i ≠ s) (hb : isBl ρ[i]? = false) (he : ∀ d ∈ ds, fe (ρ.set i (.fz (u d))) = .ok (g d, ρ.set i (.fz (u d)))) (hl : ds.length ≤ 16777216) : ∀ (n k : Nat) (acc : List PyData), n + k = ds.length → acc.length = k →
    compLO s (hName i) yesT fe [i] n k acc (ρ.set i .no) = .ok (acc ++ (ds.drop k).map g, ρ.set i .no)
  | 0, k, acc, h, ha => by
    unfold compLO
    rw [List.getElem?_set_ne hn, hs]
    have : ds.length ≤ k := by omega
    simp [this, List.drop_eq_nil_of_le this]
  | n + 1, k, acc, h, ha => by
    have hlt : i < ρ.length := (isBl_f hb).2
    have hk : k < ds.length := by omega
    have gk : (ds.map u)[k]? = some (u ds[k]) := by rw [List.getElem?_map, List.getElem?_eq_getElem hk]; rfl
    have h1 : hName i (u ds[k]) (ρ.set i .no) = some (ρ.set i (.fz (u ds[k]))) := by
      unfold hName
      rw [List.getElem?_set_self hlt]
      show some ((ρ.set i .no).set i (.fz (u ds[k]))) = _
      rw [set_twice]
    have e := he ds[k] (List.getElem_mem hk)
    have ok : okLen (acc.length + 1) = true := decide_eq_true (by omega)
    unfold compLO
    rw [List.getElem?_set_ne hn, hs]
    simp only [Option.bind_some, gk, h1, yesT, ret, e, ok, if_true, wipe1]
    rw [show (ret true : Dn Bool) = yesT from rfl, compLO1 hs hn hb he hl n (k + 1) (acc ++ [g ds[k]]) (by omega) (by simp [ha])]
    rw [List.drop_eq_getElem_cons hk, List.map_cons, List.append_assoc]
    rfl
theorem ev_compO {ι : Type} {u : ι → PyData} {s i : Nat} {fe : Dn PyData} {ds : List ι} (g : ι → PyData) (hs : ownOf ρ[s]? = some (ds.map u)) (hn : i ≠ s) (hb : isBl ρ[i]? = false) (he : ∀ d ∈ ds, fe (ρ.set i (.fz (u d))) = .ok (g d, ρ.set i (.fz (u d)))) (hl : ds.length ≤ 16777216) :
    dCompO s (hName i) yesT fe [i] ρ = .ok (.ol (ds.map g), ρ) := by
  unfold dCompO
  have hv : ([i].all fun v => !isBl ρ[v]? && v != s) = true := by simp [hb, hn]
  have hw : wipeE ρ [i] = ρ.set i .no := rfl
  simp only [hs]
  rw [if_pos hv, hw, List.length_map, compLO1 hs hn hb he hl ds.length 0 [] (by omega) rfl]
  simp [rest1 (isBl_f hb).2]
/-- two for: the second's items hang on the first -/
theorem compL2_ev {ι κ : Type} {u : ι → PyData} {v : κ → PyData} {i j : Nat} {fi1 : Dn (List PyData)} {fe : Dn PyData} {es : List κ} {g : ι → κ → PyData} (hij : i ≠ j) (hb : isBl ρ[i]? = false) (hbj : isBl ρ[j]? = false) : ∀ (ds : List ι) (acc : List PyData), (∀ d ∈ ds, fi1 ((ρ.set j .no).set i (.fz (u d))) = .ok (es.map v, (ρ.set j .no).set i (.fz (u d)))) →
    (∀ d ∈ ds, ∀ e ∈ es, fe (((ρ.set j .no).set i (.fz (u d))).set j (.fz (v e))) = .ok (g d e, ((ρ.set j .no).set i (.fz (u d))).set j (.fz (v e)))) → acc.length + ds.length * es.length ≤ 16777216 →
    compL2 (hName i) yesT fi1 (hName j) yesT fe [i, j] [j] (ds.map u) acc ((ρ.set j .no).set i .no) = .ok (acc ++ ds.flatMap fun d => es.map (g d), (ρ.set j .no).set i .no)
  | [], acc, _, _, _ => by simp [compL2]
  | d :: ds, acc, h1, h2, hl => by
    have li : i < ρ.length := (isBl_f hb).2
    have lj : j < ρ.length := (isBl_f hbj).2
    have n1 : hName i (u d) ((ρ.set j .no).set i .no) = some ((ρ.set j .no).set i (.fz (u d))) := by
      unfold hName
      rw [List.getElem?_set_self (by simpa using li)]
      show some (((ρ.set j .no).set i .no).set i (.fz (u d))) = _
      rw [set_twice]
    have wj : wipeE ((ρ.set j .no).set i (.fz (u d))) [j] = ((ρ.set j .no).set i (.fz (u d))).set j .no := rfl
    have bj : isBl ((ρ.set j .no).set i (.fz (u d)))[j]? = false := by
      rw [List.getElem?_set_ne hij, List.getElem?_set_self lj]
      rfl
    have inner := compL1 (u := v) (ρ := (ρ.set j .no).set i (.fz (u d))) (i := j) (ft := yesT) (fe := fe) (p := fun _ => true) (g := g d) es acc bj (fun _ _ => rfl) (fun e he _ => h2 d (by simp) e he) (by
      have : es.length ≤ (d :: ds).length * es.length := by
        rw [List.length_cons, Nat.succ_mul]; omega
      omega)
    rw [List.filter_eq_self.mpr (by simp)] at inner
    rw [List.map_cons]
    unfold compL2
    simp only [n1, yesT, ret, h1 d (by simp), wj]
    rw [show (ret true : Dn Bool) = yesT from rfl, inner]
    have wb : wipeE (((ρ.set j .no).set i (.fz (u d))).set j .no) [i, j] = (ρ.set j .no).set i .no := by
      show ((((ρ.set j .no).set i (.fz (u d))).set j .no).set j .no).set i .no = _
      rw [set_twice, List.set_comm _ _ hij, set_twice, set_twice]
    simp only [wb]
    rw [compL2_ev hij hb hbj ds _ (fun x hx => h1 x (by simp [hx])) (fun x hx => h2 x (by simp [hx])) (by
      simp only [List.length_append, List.length_map]
      rw [List.length_cons, Nat.succ_mul] at hl
      omega)]
    simp
theorem rest2 {i j : Nat} (hij : i ≠ j) (hi : i < ρ.length) (hj : j < ρ.length) : restE ρ ((ρ.set j .no).set i .no) [i, j] = ρ := by
  apply List.ext_getElem?
  intro k
  rw [restE_get (by simp)]
  by_cases e : k = i
  · subst e; simp
  · by_cases e2 : k = j
    · subst e2; simp
    · simp [e, e2]
      rw [List.getElem?_set_ne (Ne.symm e), List.getElem?_set_ne (Ne.symm e2)]
theorem ev_comp2 {ι κ : Type} {u : ι → PyData} {v : κ → PyData} {i j : Nat} {fi fi1 : Dn (List PyData)} {fe : Dn PyData} {ds : List ι} {es : List κ} (g : ι → κ → PyData) (h0 : fi ρ = .ok (ds.map u, ρ1)) (hij : i ≠ j) (hb : isBl ρ1[i]? = false) (hbj : isBl ρ1[j]? = false) (h1 : ∀ d ∈ ds, fi1 ((ρ1.set j .no).set i (.fz (u d))) = .ok (es.map v, (ρ1.set j .no).set i (.fz (u d))))
    (h2 : ∀ d ∈ ds, ∀ e ∈ es, fe (((ρ1.set j .no).set i (.fz (u d))).set j (.fz (v e))) = .ok (g d e, ((ρ1.set j .no).set i (.fz (u d))).set j (.fz (v e)))) (hl : ds.length * es.length ≤ 16777216) :
    dComp2 fi (hName i) yesT fi1 (hName j) yesT fe [i, j] [j] ρ = .ok (.ol (ds.flatMap fun d => es.map (g d)), ρ1) := by
  refine ev_bnd h0 ?_
  have hv : ([i, j].all fun v => !isBl ρ1[v]?) = true := by simp [hb, hbj]
  have hw : wipeE ρ1 [i, j] = (ρ1.set j .no).set i .no := rfl
  rw [if_pos hv, hw, compL2_ev hij hb hbj ds [] h1 h2 (by simpa using hl)]
  simp [rest2 hij (isBl_f hb).2 (isBl_f hbj).2]
/-- loops: what is kept from turn to turn -/
def okEn (e : En) : Prop := e = .no ∨ ∃ d, e = .fz d
theorem ev_loop {α ι : Type} {u : ι → PyData} {i : Nat} {fb : Dn Fl} {E : α → Ev} {g : α → ι → α} {P : α → Prop} (hi : ∀ a, i < (E a).length) : ∀ (ds : List ι), (∀ a d, P a → d ∈ ds → fb ((E a).set i (.fz (u d))) = .ok (.nx, (E (g a d)).set i (.fz (u d))) ∧ P (g a d)) → ∀ (a : α) (e : En), P a → okEn e →
    ∃ e', okEn e' ∧ loopF (hName i) fb (ds.map u) ((E a).set i e) = .ok (.nx, (E (ds.foldl g a)).set i e') ∧ P (ds.foldl g a)
  | [], _, a, e, hp, he => ⟨e, he, rfl, hp⟩
  | d :: ds, h, a, e, hp, he => by
    obtain ⟨h1, h2⟩ := h a d hp (by simp)
    have n1 : hName i (u d) ((E a).set i e) = some ((E a).set i (.fz (u d))) := by
      unfold hName
      rw [List.getElem?_set_self (hi a)]
      have : isBl (some e) = false := by
        rcases he with rfl | ⟨d, rfl⟩ <;> rfl
      rw [this]
      show some (((E a).set i e).set i (.fz (u d))) = _
      rw [set_twice]
    obtain ⟨e', k1, k2, k3⟩ := ev_loop hi ds (fun a d hp hd => h a d hp (by simp [hd])) (g a d) (.fz (u d)) h2 (.inr ⟨u d, rfl⟩)
    refine ⟨e', k1, ?_, k3⟩
    rw [List.map_cons]
    unfold loopF
    simp only [n1, h1]
    exact k2
end
end Gx

/-! E21: lots below 32, looked through one by one. -/
namespace K15
open PySem PySem.Spec L2 Gx M10
open PyProof.Rows hiding St
mutual
def eqP : PyData → PyData → Bool
  | .none, .none => true
  | .bool a, .bool b => a == b
  | .int a, .int b => a == b
  | .list a, .list b => eqPs a b
  | .tuple a, .tuple b => eqPs a b
  | _, _ => false
def eqPs : List PyData → List PyData → Bool
  | [], [] => true
  | a :: as, b :: bs => eqP a b && eqPs as bs
  | _, _ => false
end
mutual
theorem eqP_ok : ∀ a b : PyData, eqP a b = true → a = b
  | .none, b, h => by cases b <;> simp [eqP] at h ⊢
  | .bool a, b, h => by cases b <;> simp [eqP] at h ⊢; exact h
  | .int a, b, h => by cases b <;> simp [eqP] at h ⊢; exact h
  | .str a, b, h => by cases b <;> simp [eqP] at h
  | .dict a, b, h => by cases b <;> simp [eqP] at h
  | .list a, b, h => by
    cases b with
    | list b => rw [eqPs_ok a b (by simpa [eqP] using h)]
    | _ => simp [eqP] at h
  | .tuple a, b, h => by
    cases b with
    | tuple b => rw [eqPs_ok a b (by simpa [eqP] using h)]
    | _ => simp [eqP] at h
theorem eqPs_ok : ∀ a b : List PyData, eqPs a b = true → a = b
  | [], b, h => by cases b <;> simp [eqPs] at h ⊢
  | a :: as, b, h => by
    cases b with
    | nil => simp [eqPs] at h
    | cons b bs =>
      simp only [eqPs, Bool.and_eq_true] at h
      rw [eqP_ok a b h.1, eqPs_ok as bs h.2]
end
def isG (x : Rs (Rv × List En)) (r : Rv) : Bool := match x, r with
  | .ok (.fz d, _), .fz e => eqP d e
  | .ok (.ol d, _), .ol e => eqPs d e
  | _, _ => false
theorem isG_ok {den : Den} {as : List En} {r : Rv} (h : isG (den as) r = true) : Gv den as r := by
  unfold isG at h
  unfold Gv
  cases e : den as with
  | st => rw [e] at h; cases h
  | ex x => rw [e] at h; cases h
  | ok z =>
    obtain ⟨v, es⟩ := z
    rw [e] at h
    cases v with
    | fz d =>
      cases r with
      | fz d2 => exact ⟨es, by rw [eqP_ok _ _ h]⟩
      | ol _ => cases h
    | ol d =>
      cases r with
      | fz _ => cases h
      | ol d2 => exact ⟨es, by rw [eqPs_ok _ _ h]⟩
def intM (m : Nat) : PyData := .int (m : Int)
def lotM (m : Nat) : PyData := .tuple ((bits m).map intM)
def famM (ms : List Nat) : PyData := .tuple (ms.map lotM)
def pop (m : Nat) : Nat := (bits m).length
theorem all1 {P : Nat → Bool} {n : Nat} (h : (List.range n).all P = true) {m : Nat} (hm : m < n) : P m = true := List.all_eq_true.mp h m (List.mem_range.mpr hm)
theorem all2 {P : Nat → Nat → Bool} {n k : Nat} (h : (List.range n).all (fun m => (List.range k).all (P m)) = true) {a b : Nat} (ha : a < n) (hb : b < k) : P a b = true := all1 (all1 h ha) hb
theorem c_mask : (List.range 32).all (fun m => isG (den_mask_of [.fz (lotM m)]) (.fz (intM m))) = true := by kernel_rfl
theorem c_frozen : (List.range 32).all (fun m => isG (den_frozen 6 [.fz (lotM m)]) (.fz (lotM m))) = true := by kernel_rfl
theorem c_within : (List.range 32).all (fun a => (List.range 32).all fun b => isG (den_within [.fz (lotM a), .fz (lotM b)]) (.fz (.bool (sub a b)))) = true := by kernel_rfl
theorem c_lots : (List.range 32).all (fun h => isG (den_lots [.fz (lotM h)]) (.ol ((tl.filter fun m => sub m h).map lotM))) = true := by kernel_rfl
theorem c_counted : (List.range 32).all (fun h => (List.range 6).all fun n => isG (den_counted [.fz (lotM h), .fz (intM n)]) (.ol ((tl.filter fun m => sub m h && pop m == n).map lotM))) = true := by kernel_rfl
end K15

/-! M11: the walk that keeps the least masks; blockers as a fold. -/
namespace M10
def keep (kept : List Nat) (m : Nat) : List Nat := if kept.all (fun k => k &&& m != k) then kept ++ [m] else kept
def srt (ms : List Nat) : List Nat := (List.range 32).filter fun m => ms.contains m
theorem srt_mem {ms : List Nat} (h : Lt ms) (m : Nat) : m ∈ srt ms ↔ m ∈ ms := by
  unfold srt
  rw [List.mem_filter, List.mem_range, List.contains_iff_mem]
  exact ⟨fun z => z.2, fun z => ⟨h m z, z⟩⟩
/-- over an ascending row, what is kept are the least ones -/
theorem keep_go (ms : List Nat) (hb : Lt ms) : ∀ (n : Nat), n ≤ 32 → ((List.range n).filter fun m => ms.contains m).foldl keep [] = (List.range n).filter (mo ms)
  | 0, _ => rfl
  | n + 1, hn => by
    have ih := keep_go ms hb n (by omega)
    rw [List.range_succ, List.filter_append, List.filter_append, List.foldl_append, ih]
    by_cases c : ms.contains n = true
    · have e1 : [n].filter (fun m => ms.contains m) = [n] := by
        rw [List.filter_cons_of_pos c]
        rfl
      rw [e1]
      show keep _ n = _
      unfold keep
      have key : ((List.range n).filter (mo ms)).all (fun k => k &&& n != k) = mo ms n := by
        rw [Bool.eq_iff_iff, List.all_eq_true, mo_iff]
        constructor
        · intro h
          refine ⟨List.contains_iff_mem.mp c, fun m hm hs => ?_⟩
          refine Classical.byContradiction fun ne => ?_
          -- below m there is a least one, and it is kept
          obtain ⟨k, k1, k2, k3⟩ := mn_below (U := up ms) m m (Nat.le_refl _) (hb m hm) (up_iff.mpr ⟨m, hm, sub_self m⟩)
          have ks : sub k n = true := sub_tr k3 hs
          have kn : k ≤ n := by
            have := Nat.and_le_right (n := k) (m := n)
            rw [sub_iff.mp ks] at this
            exact this
          have kne : k ≠ n := fun e => by
            subst e
            exact ne (sub_anti hs k3)
          have kk : k ∈ (List.range n).filter (mo ms) := List.mem_filter.mpr ⟨List.mem_range.mpr (by omega), by rw [mo_up hb]; exact k2⟩
          have q := h k kk
          rw [sub_iff.mp ks] at q
          simp at q
        · rintro ⟨h1, h2⟩ k hk
          obtain ⟨a, b⟩ := List.mem_filter.mp hk
          have kn := List.mem_range.mp a
          cases e : (k &&& n != k)
          · have : k &&& n = k := by simpa using e
            have := h2 k (mo_iff.mp b).1 (sub_iff.mpr this)
            omega
          · rfl
      rw [key]
      cases e : mo ms n with
      | true => simp [e]
      | false => simp [e]
    · have e1 : [n].filter (fun m => ms.contains m) = [] := List.filter_cons_of_neg c
      have e2 : mo ms n = false := by
        unfold mo
        rw [Bool.not_eq_true] at c
        rw [c]
        rfl
      rw [e1]
      simp [e2]
theorem keep_lst {ms : List Nat} (hb : Lt ms) : (srt ms).foldl keep [] = lst ms := keep_go ms hb 32 (Nat.le_refl _)
theorem lst_sub {ms : List Nat} : ∀ m ∈ lst ms, m ∈ ms := fun m h => (mo_iff.mp (List.mem_filter.mp h).2).1
theorem lst_nodup (ms : List Nat) : (lst ms).Nodup := List.Nodup.sublist List.filter_sublist List.nodup_range
theorem lst_len (ms : List Nat) : (lst ms).length ≤ 32 := by
  have h := (List.filter_sublist (p := mo ms) (l := List.range 32)).length_le
  rw [List.length_range] at h
  exact h
/-- in the order of tuples -/
theorem tl_lst {ms : List Nat} (hb : Lt ms) : tl.filter (fun m => (lst ms).contains m) = FU (up ms) := by
  rw [← least_FU hb]
  refine List.filter_congr fun m hm => ?_
  rw [Bool.eq_iff_iff, List.contains_iff_mem]
  unfold lst
  rw [List.mem_filter, List.mem_range]
  exact ⟨fun h => h.2, fun h => ⟨tl_lt m hm, h⟩⟩
theorem blk_fold : ∀ (ls found : List Nat), blk ls found = ls.foldl (fun f l => lst (hits l f)) found
  | [], _ => rfl
  | l :: ls, found => blk_fold ls _
theorem FU_len (U : Nat → Bool) : (FU U).length ≤ 32 := by
  have := (List.filter_sublist (p := mn U) (l := tl)).length_le
  exact this
end M10

/-! E22: families as the program makes them. -/
namespace K15
open PySem PySem.Spec L2 Gx M10
open PyProof.Rows hiding St
theorem frzF {ρ ρ1 : Ev} {f : Dn Rv} {d : PyData} (h : f ρ = .ok (.fz d, ρ1)) : frz f ρ = .ok (d, ρ1) := ev_frz h
theorem frzL {ρ ρ1 : Ev} {f : Dn Rv} {xs : List PyData} (h : f ρ = .ok (.ol xs, ρ1)) : frz f ρ = .ok (.list xs, ρ1) := ev_frz h
abbrev toI (m : Nat) : Int := (m : Int)
theorem bb_ev (b : Bool) : truth (.bool b) = some b := rfl
theorem bools_map {ι : Type} (b : ι → Bool) : ∀ l : List ι, bools (l.map fun k => .bool (b k)) = some (l.map b)
  | [] => rfl
  | k :: l => by
    show (bools (l.map fun k => .bool (b k))).map (b k :: ·) = _
    rw [bools_map b l]
    rfl
theorem all_ev {ι : Type} (b : ι → Bool) (l : List ι) : allD [.list (l.map fun k => .bool (b k))] = some (.fz (.bool (l.all b))) := by
  show (bools _).bind _ = _
  rw [bools_map]
  show fB ((l.map b).all id) = _
  rw [List.all_map]
  rfl
def isR (x : Option Rv) (r : Rv) : Bool := match x, r with
  | some (.fz d), .fz e => eqP d e
  | some (.ol d), .ol e => eqPs d e
  | _, _ => false
theorem isR_ok {x : Option Rv} {r : Rv} (h : isR x r = true) : x = some r := by
  unfold isR at h
  cases x with
  | none => cases h
  | some v =>
    cases v with
    | fz d =>
      cases r with
      | fz e => rw [eqP_ok _ _ h]
      | ol _ => cases h
    | ol d =>
      cases r with
      | fz _ => cases h
      | ol e => rw [eqPs_ok _ _ h]
theorem c_band : (List.range 32).all (fun a => (List.range 32).all fun b => isR (bandD (intM a) (intM b)) (.fz (intM (a &&& b)))) = true := by kernel_rfl
theorem c_bor : (List.range 32).all (fun a => (List.range 32).all fun b => isR (borD (intM a) (intM b)) (.fz (intM (a ||| b)))) = true := by kernel_rfl
theorem c_ne : (List.range 32).all (fun a => (List.range 32).all fun b => isR (neD (intM a) (intM b)) (.fz (.bool (a != b)))) = true := by kernel_rfl
theorem c_neL : (List.range 32).all (fun a => (List.range 32).all fun b => isR (neD (lotM a) (lotM b)) (.fz (.bool (a != b)))) = true := by kernel_rfl
theorem and_lt {a b : Nat} (h : a < 32) : a &&& b < 32 := Nat.lt_of_le_of_lt Nat.and_le_left h
theorem ev_appS {i : Nat} {f : Dn PyData} {ρ ρ1 : Ev} {d : PyData} {xs : List PyData} (h0 : (ownOf ρ[i]?).isSome = true) (h1 : f ρ = .ok (d, ρ1)) (h2 : ownOf ρ1[i]? = some xs) (hl : xs.length < 16777216) : sApp i f ρ = .ok (.nx, ρ1.set i (reKind ρ1[i]? (xs ++ [d]))) := by
  unfold sApp
  rw [if_pos h0]
  refine ev_bnd h1 ?_
  unfold sUpd
  rw [h2]
  show (match appD d xs with | some ys => _ | none => _) = _
  have : appD d xs = some (xs ++ [d]) := by
    unfold appD
    rw [if_pos (show okLen (xs.length + 1) = true from decide_eq_true (by omega))]
  rw [this]
/-! frozen, masks_of -/
theorem frozen_fam {ms : List Nat} (h : Lt ms) (hl : ms.length ≤ 1000) : Gv (den_frozen 7) [.fz (famM ms)] (.fz (famM ms)) := by
  show Gv (runF 1 2 (b_frozen (den_frozen 6))) _ _
  exact gv_run ⟨_, ev_seqR (ev_if (b := true) rfl (ev_ret (ev_call (ev_cons (frzL (ev_comp0 (ds := ms) (u := lotM) lotM rfl rfl (fun m hm => frzF (gv_fn rfl rfl rfl (isG_ok (all1 c_frozen (h m hm))))) (by omega))) rfl) rfl)))⟩
theorem masks_fam {ms : List Nat} (h : Lt ms) (hl : ms.length ≤ 1000) : Gv den_masks_of [.fz (famM ms)] (.ol (ms.map intM)) :=
  gv_run ⟨_, ev_ret (ev_comp0 (ds := ms) (u := lotM) intM rfl rfl (fun m hm => frzF (gv_fn rfl rfl rfl (isG_ok (all1 c_mask (h m hm))))) (by omega))⟩
/-! least_masks -/
theorem intsD_M : ∀ ms : List Nat, intsD (ms.map intM) = some (ms.map toI)
  | [] => rfl
  | m :: ms => by
    show (intsD (ms.map intM)).map (toI m :: ·) = _
    rw [intsD_M ms]
    rfl
theorem setI_M {ms : List Nat} (h : Lt ms) : setI (ms.map toI) = (srt ms).map toI := by
  refine asc_uniq (setI_srt _) ?_ fun z => ?_
  · refine List.pairwise_map.mpr ?_
    have : (List.range 32).Pairwise (· < ·) := List.pairwise_lt_range
    exact (this.sublist List.filter_sublist).imp fun {a b} (q : a < b) => (by show (a : Int) < (b : Int); omega)
  · rw [setI_mem, List.mem_map, List.mem_map]
    constructor
    · rintro ⟨m, hm, rfl⟩; exact ⟨m, (srt_mem h m).mpr hm, rfl⟩
    · rintro ⟨m, hm, rfl⟩; exact ⟨m, (srt_mem h m).mp hm, rfl⟩
theorem srt_len (ms : List Nat) : (srt ms).length ≤ 32 := by
  have h := (List.filter_sublist (p := fun m => ms.contains m) (l := List.range 32)).length_le
  rw [List.length_range] at h
  exact h
theorem setSort_M {ms : List Nat} (h : Lt ms) (hl : ms.length < 1000) : setSortD [.list (ms.map intM)] = some (.ol ((srt ms).map intM)) := by
  show setSortL (ms.map intM) = _
  unfold setSortL
  simp only [intsD_M, setI_M h]
  have := srt_len ms
  rw [if_pos ⟨by simpa using hl, by simp; omega⟩, List.map_map]
  rfl
def kE (ms kept : List Nat) : Ev := [.fz (.list (ms.map intM)), .ol (kept.map intM), .no, .no]
theorem keep_body {ms kept : List Nat} {m : Nat} (hk : Lt kept) (hm : m < 32) (hl : kept.length ≤ 1000) :
    (sIf (dTru (frz (dCall allD (dCons (frz (dCompO 1 (hName 3) yesT (frz (dBin neD (frz (dBin bandD (dName 3) (dName 2))) (dName 3))) [3])) dNil)))) (sApp 1 (dName 2)) sNx) ((kE ms kept).set 2 (.fz (intM m))) = .ok (.nx, (kE ms (keep kept m)).set 2 (.fz (intM m))) := by
  refine ev_if (b := kept.all fun k => k &&& m != k) (ρ1 := (kE ms kept).set 2 (.fz (intM m))) (ev_bnd (frzF (ev_call (ev_cons (frzL (ev_compO (ds := kept) (u := intM) (fun k => .bool (k &&& m != k)) rfl (by decide) rfl (fun k hk2 => ?_) (by omega))) rfl) (all_ev _ _))) rfl) ?_
  · exact frzF (ev_bin (frzF (ev_bin rfl rfl (isR_ok (all2 c_band (hk k hk2) hm)))) rfl (isR_ok (all2 c_ne (and_lt (hk k hk2)) (hk k hk2))))
  · unfold keep
    cases c : kept.all fun k => k &&& m != k with
    | true =>
      refine (ev_appS (i := 1) (f := dName 2) (ρ := (kE ms kept).set 2 (.fz (intM m))) (ρ1 := (kE ms kept).set 2 (.fz (intM m))) (d := intM m) (xs := kept.map intM) rfl rfl rfl (by rw [List.length_map]; omega)).trans ?_
      show Rs.ok (Fl.nx, [En.fz (.list (ms.map intM)), .ol (kept.map intM ++ [intM m]), .fz (intM m), .no]) = Rs.ok (Fl.nx, [En.fz (.list (ms.map intM)), .ol ((kept ++ [m]).map intM), .fz (intM m), .no])
      rw [List.map_append]
      rfl
    | false => rfl
theorem keep_inv {ms kept : List Nat} (h : Lt ms) (n : Nat) {m : Nat} (hm : m < 32) (hk : Lt kept ∧ kept.length ≤ n) : Lt (keep kept m) ∧ (keep kept m).length ≤ n + 1 := by
  unfold keep
  split
  · exact ⟨fun k hk2 => by rcases List.mem_append.mp hk2 with z | z; exact hk.1 k z; simp at z; omega, by simp; omega⟩
  · exact ⟨hk.1, by omega⟩
theorem keep_loop {ms : List Nat} : ∀ (l : List Nat) (kept : List Nat) (e : En), Lt l → Lt kept → kept.length + l.length ≤ 1000 → okEn e →
    ∃ e', loopF (hName 2) (sIf (dTru (frz (dCall allD (dCons (frz (dCompO 1 (hName 3) yesT (frz (dBin neD (frz (dBin bandD (dName 3) (dName 2))) (dName 3))) [3])) dNil)))) (sApp 1 (dName 2)) sNx) (l.map intM) ((kE ms kept).set 2 e) = .ok (.nx, (kE ms (l.foldl keep kept)).set 2 e')
  | [], kept, e, _, _, _, _ => ⟨e, rfl⟩
  | m :: l, kept, e, hl, hk, hn, he => by
    have hm := hl m (by simp)
    simp only [List.length_cons] at hn
    have b := keep_body (ms := ms) hk hm (by omega)
    have kl : (keep kept m).length ≤ kept.length + 1 := by unfold keep; split <;> simp
    have klt : Lt (keep kept m) := by
      unfold keep
      split
      · intro k hk2
        rcases List.mem_append.mp hk2 with z | z
        · exact hk k z
        · simp at z; omega
      · exact hk
    obtain ⟨e', ih⟩ := keep_loop (ms := ms) l (keep kept m) (.fz (intM m)) (fun k hk2 => hl k (by simp [hk2])) klt (by omega) (.inr ⟨_, rfl⟩)
    refine ⟨e', ?_⟩
    have n1 : hName 2 (intM m) ((kE ms kept).set 2 e) = some ((kE ms kept).set 2 (.fz (intM m))) := by
      rcases he with rfl | ⟨d, rfl⟩ <;> rfl
    rw [List.map_cons]
    unfold loopF
    simp only [n1, b]
    exact ih
/-! family_of -/
def bitsI (m : Nat) : List Int := (bits m).map toI
theorem lotM_eq (m : Nat) : lotM m = tupI (bitsI m) := by
  unfold lotM tupI bitsI
  rw [List.map_map]
  rfl
theorem intsD_lot : ∀ (m : Nat) (ms : List Nat), intsD ((m :: ms).map lotM) = none := fun m ms => rfl
theorem intsD_I : ∀ l : List Nat, intsD (l.map intM) = some (l.map toI) := intsD_M
theorem lotsD_M : ∀ ms : List Nat, lotsD (ms.map lotM) = some (ms.map bitsI)
  | [] => rfl
  | m :: ms => by
    show (intsD ((bits m).map intM)).bind (fun ns => (lotsD (ms.map lotM)).map (ns :: ·)) = _
    rw [intsD_I, lotsD_M ms]
    rfl
theorem bits_back {m n : Nat} (hm : m < 32) (hn : n < 32) (h : bitsI m = bitsI n) : m = n := by
  have k : (List.range 32).all (fun a => (List.range 32).all fun b => (bitsI a != bitsI b) || a == b) = true := by decide +kernel
  have q := all2 k hm hn
  rw [h] at q
  simpa using q
theorem tl_srt : (tl.map bitsI).Pairwise Lt2 := by
  have h : tl.Pairwise fun a b => HT.lexLt (bitsI a) (bitsI b) = true := by decide +kernel
  exact List.pairwise_map.mpr h
theorem tl_fil_srt (p : Nat → Bool) : ((tl.filter p).map bitsI).Pairwise Lt2 := List.pairwise_map.mpr ((List.pairwise_map.mp tl_srt).sublist List.filter_sublist)
theorem map_tupI (ms : List Nat) : (ms.map bitsI).map tupI = ms.map lotM := by
  rw [List.map_map]
  exact List.map_congr_left fun m _ => (lotM_eq m).symm
theorem sort_lots {ms : List Nat} (h : Lt ms) (nd : ms.Nodup) : sort2D [.list (ms.map lotM)] = some (.ol ((tl.filter fun m => ms.contains m).map lotM)) := by
  cases ms with
  | nil => rfl
  | cons m ms =>
    show (match intsD (List.map lotM (m :: ms)) with
      | some ns => if ns.length < 64 then some (Rv.ol ((srtI ns).map .int)) else none
      | none => (lotsD (List.map lotM (m :: ms))).map fun nss => Rv.ol ((srtL nss).map tupI)) = _
    rw [intsD_lot, lotsD_M]
    show some (Rv.ol _) = _
    have e : (tl.filter fun k => (m :: ms).contains k).map bitsI = srtL ((m :: ms).map bitsI) := by
      refine srtL_eq (lt_le (tl_fil_srt _)) (List.Perm.map _ ?_)
      refine (List.perm_ext_iff_of_nodup (tl_nodup.sublist List.filter_sublist) nd).mpr fun k => ?_
      rw [List.mem_filter, List.contains_iff_mem]
      exact ⟨fun z => z.2, fun z => ⟨tl_all k (h k z), z⟩⟩
    rw [← e, map_tupI]
theorem setSort_L {ms : List Nat} (h : Lt ms) (hl : ms.length < 64) : setSortL (ms.map lotM) = some (.ol ((tl.filter fun m => ms.contains m).map lotM)) := by
  cases ms with
  | nil => rfl
  | cons m ms =>
    unfold setSortL
    rw [intsD_lot, lotsD_M]
    show (if _ then some (Rv.ol _) else none) = _
    rw [if_pos (by simpa using hl)]
    have e : (tl.filter fun k => (m :: ms).contains k).map bitsI = setL ((m :: ms).map bitsI) := by
      refine setL_eq (lt_le (tl_fil_srt _)) (lt_nodup (tl_fil_srt _)) fun z => ?_
      rw [List.mem_map, List.mem_map]
      constructor
      · rintro ⟨k, hk, rfl⟩
        exact ⟨k, List.contains_iff_mem.mp (List.mem_filter.mp hk).2, rfl⟩
      · rintro ⟨k, hk, rfl⟩
        exact ⟨k, List.mem_filter.mpr ⟨tl_all k (h k hk), List.contains_iff_mem.mpr hk⟩, rfl⟩
    rw [← e, map_tupI]
end K15

/-! E4: a thing is the same as itself, at every depth (the laws' own comparison). -/
namespace Gx
open PySem PySem.Spec L2
open PyProof.Rows hiding St

def bSame (self : Den) : Dn Fl := (sSeq (sIf (dTru (dUn (isi2D .lst .tup) (dName 1))) (sSeq (sIf (dOrT (dCmpT neD (dUn (isiD .lst) (dName 0)) (dUn (isiD .lst) (dName 1))) (dCmpT neD (dUn (isiD .tup) (dName 0)) (dUn (isiD .tup) (dName 1)))) (sRet (ofD (dC (.bool false)))) sNx)
  (sRet (ofD (dAnd (frz (dBin eqD (dLenP 0) (dLenP 1))) (frz (dCall allD (dCons (frz (dComp (iZp (dCons (dName 0) (dCons (dName 1) dNil))) (hTup 2 (hCons (hName 2) (hCons (hName 3) hNil))) yesT (frz (dFn self (aCons (ofD (dName 2)) (aCons (ofD (dName 3)) aNil)))) [2, 3])) dNil))))))) sNx)
  (sSeq (sIf (dOrT (dCmpT isND (dName 1) (dC .none)) (dTru (dUn (isi2D .bl .str) (dName 1)))) (sRet (ofD (dAnd (frz (dBin eqD (dName 0) (dName 1))) (dAnd (frz (dBin eqD (dUn (isiD .bl) (dName 0)) (dUn (isiD .bl) (dName 1)))) (frz (dBin eqD (frz (dBin isND (dName 0) (dC .none))) (frz (dBin isND (dName 1) (dC .none))))))))) sNx)
  (sRet (ofD (dAnd (dUn (isiD .int) (dName 0)) (dAnd (dNot (dUn (isiD .bl) (dName 0))) (frz (dBin eqD (dName 0) (dName 1)))))))))
def denSame : Nat → Den
  | 0 => fun _ => .st
  | n + 1 => runF 2 4 (bSame (denSame n))
/-- plain things of no great depth: numbers, truths, None in lists and tuples -/
def pln : Nat → PyData → Bool
  | _, .none => true
  | _, .bool _ => true
  | _, .int _ => true
  | k + 1, .list xs => okLen xs.length && xs.all (pln k)
  | k + 1, .tuple xs => okLen xs.length && xs.all (pln k)
  | _, _ => false
theorem eqv_int (a : Int) : PyData.eqv (.int a) (.int a) = true := by
  show (a == a) = true
  exact beq_self_eq_true a
theorem eqD_int (a : Int) : eqD (.int a) (.int a) = some (.fz (.bool true)) := by
  show (if true then some (Rv.fz (.bool (PyData.eqv (.int a) (.int a)))) else none) = _
  rw [eqv_int]
  rfl
section
variable {ρ ρ1 ρ2 : Ev}
theorem ev_and {f g : Dn PyData} {x : PyData} {r : Rs (PyData × Ev)} (h1 : f ρ = .ok (x, ρ1)) (h2 : truth x = some true) (h3 : g ρ1 = r) : dAnd f g ρ = r := ev_bnd h1 (ev_bnd (ev_lft h2) h3)
end
theorem zip_self : ∀ xs : List PyData, zipD xs xs = xs.map fun x => .tuple [x, x]
  | [] => rfl
  | x :: xs => by
    show PyData.tuple [x, x] :: zipD xs xs = _
    rw [zip_self xs]
    rfl
theorem comp_same {self : Den} {d : PyData} : ∀ (xs acc : List PyData), (∀ x ∈ xs, self [.fz x, .fz x] = .ok (.fz (.bool true), [.fz x, .fz x])) → okLen (acc.length + xs.length) = true →
    compL (hTup 2 (hCons (hName 2) (hCons (hName 3) hNil))) yesT (frz (dFn self (aCons (ofD (dName 2)) (aCons (ofD (dName 3)) aNil)))) [2, 3] (xs.map fun x => .tuple [x, x]) acc [.fz d, .fz d, .no, .no] = .ok (acc ++ List.replicate xs.length (.bool true), [.fz d, .fz d, .no, .no])
  | [], acc, _, _ => by
    simp [compL]
  | x :: xs, acc, h, hl => by
    have hx := h x (by simp)
    have e : (frz (dFn self (aCons (ofD (dName 2)) (aCons (ofD (dName 3)) aNil)))) [.fz d, .fz d, .fz x, .fz x] = .ok (.bool true, [.fz d, .fz d, .fz x, .fz x]) := by
      refine ev_frz (r := .fz (.bool true)) (ev_bnd (a := [.fz x, .fz x]) (ρ1 := [.fz d, .fz d, .fz x, .fz x]) rfl ?_)
      show (match self [.fz x, .fz x] with
        | .st => .st
        | .ex e => if [Ar.fz x, Ar.fz x].any Ar.isTp then .st else .ex e
        | .ok (r, es) => .ok (r, putBack [.fz d, .fz d, .fz x, .fz x] es none) : Rs (Rv × Ev)) = _
      rw [hx]
      rfl
    have hl2 : okLen (acc.length + 1) = true := by
      unfold okLen at hl ⊢
      simp only [List.length_cons] at hl
      have := of_decide_eq_true hl
      exact decide_eq_true (by omega)
    show (match (frz (dFn self (aCons (ofD (dName 2)) (aCons (ofD (dName 3)) aNil)))) [.fz d, .fz d, .fz x, .fz x] with
        | .ok (y, ρ3) => if okLen (acc.length + 1) then compL (hTup 2 (hCons (hName 2) (hCons (hName 3) hNil))) yesT (frz (dFn self (aCons (ofD (dName 2)) (aCons (ofD (dName 3)) aNil)))) [2, 3] (xs.map fun x => .tuple [x, x]) (acc ++ [y]) (wipeE ρ3 [2, 3]) else .st
        | _ => .st) = _
    rw [e]
    simp only [hl2, if_true]
    have ih := comp_same (self := self) (d := d) xs (acc ++ [.bool true]) (fun y hy => h y (by simp [hy])) (by
      have : (acc ++ [PyData.bool true]).length + xs.length = acc.length + (x :: xs).length := by simp; omega
      rw [this]; exact hl)
    refine Eq.trans ih ?_
    simp [List.replicate_succ]
theorem bools_rep : ∀ n : Nat, bools (List.replicate n (.bool true)) = some (List.replicate n true)
  | 0 => rfl
  | n + 1 => by
    show (bools (List.replicate n (.bool true))).map (true :: ·) = _
    rw [bools_rep n]
    rfl
theorem all_rep (n : Nat) : allD [.list (List.replicate n (.bool true))] = some (.fz (.bool true)) := by
  show (bools (List.replicate n (.bool true))).bind (fun bs => fB (bs.all id)) = _
  rw [bools_rep]
  show fB ((List.replicate n true).all id) = _
  have : (List.replicate n true).all id = true := by simp
  rw [this]
  rfl
theorem same_seq {self : Den} {d : PyData} {xs : List PyData} (hd : d = .list xs ∨ d = .tuple xs) (hl : okLen xs.length = true) (h : ∀ x ∈ xs, self [.fz x, .fz x] = .ok (.fz (.bool true), [.fz x, .fz x])) : runF 2 4 (bSame self) [.fz d, .fz d] = .ok (.fz (.bool true), [.fz d, .fz d]) := by
  have key : bSame self [.fz d, .fz d, .no, .no] = .ok (.rt (.fz (.bool true)), [.fz d, .fz d, .no, .no]) := by
    unfold bSame
    have cm : dComp (iZp (dCons (dName 0) (dCons (dName 1) dNil))) (hTup 2 (hCons (hName 2) (hCons (hName 3) hNil))) yesT (frz (dFn self (aCons (ofD (dName 2)) (aCons (ofD (dName 3)) aNil)))) [2, 3] [.fz d, .fz d, .no, .no] = .ok (.ol (List.replicate xs.length (.bool true)), [.fz d, .fz d, .no, .no]) := by
      refine ev_bnd (a := xs.map fun x => .tuple [x, x]) (ρ1 := [.fz d, .fz d, .no, .no]) ?_ ?_
      · refine ev_bnd (a := [d, d]) (ρ1 := [.fz d, .fz d, .no, .no]) rfl (ev_lft ?_)
        rcases hd with rfl | rfl
        · show some (zipD xs xs) = _
          rw [zip_self]
        · show some (zipD xs xs) = _
          rw [zip_self]
      · have c := comp_same (self := self) (d := d) xs [] h (by simpa using hl)
        show (match compL _ _ _ _ _ [] [.fz d, .fz d, .no, .no] with
          | .ok (ys, ρ2) => Rs.ok (Rv.ol ys, restE [.fz d, .fz d, .no, .no] ρ2 [2, 3])
          | _ => Rs.st) = _
        rw [c]
        rfl
    have body : sRet (ofD (dAnd (frz (dBin eqD (dLenP 0) (dLenP 1))) (frz (dCall allD (dCons (frz (dComp (iZp (dCons (dName 0) (dCons (dName 1) dNil))) (hTup 2 (hCons (hName 2) (hCons (hName 3) hNil))) yesT (frz (dFn self (aCons (ofD (dName 2)) (aCons (ofD (dName 3)) aNil)))) [2, 3])) dNil))))) [.fz d, .fz d, .no, .no] = .ok (.rt (.fz (.bool true)), [.fz d, .fz d, .no, .no]) := by
      refine ev_ret (ev_ofD (ev_and (x := .bool true) (ρ1 := [.fz d, .fz d, .no, .no]) (ev_frz (r := .fz (.bool true)) (ev_bin (x := .int xs.length) (y := .int xs.length) (ρ1 := [.fz d, .fz d, .no, .no]) ?_ ?_ (eqD_int _))) rfl (ev_frz (r := .fz (.bool true)) (ev_call (ev_cons (ev_frz cm) ev_nil) (all_rep _)))))
      · rcases hd with rfl | rfl <;> rfl
      · rcases hd with rfl | rfl <;> rfl
    refine ev_seqR (ev_if (b := true) (ρ1 := [.fz d, .fz d, .no, .no]) ?_ ?_)
    · rcases hd with rfl | rfl <;> rfl
    · refine ev_seq (ρ1 := [.fz d, .fz d, .no, .no]) ?_ body
      rcases hd with rfl | rfl <;> rfl
  unfold runF
  show (match bSame self [.fz d, .fz d, .no, .no] with
    | .st => .st
    | .ex e => .ex e
    | .ok (.nx, ρ') => .ok (.fz .none, back [.fz d, .fz d] ρ')
    | .ok (.rt r, ρ') => .ok (r, back [.fz d, .fz d] ρ')
    | .ok (_, _) => .st : Rs (Rv × List En)) = _
  rw [key]
  rfl
theorem same_refl : ∀ (k : Nat) (d : PyData), pln k d = true → denSame (k + 1) [.fz d, .fz d] = .ok (.fz (.bool true), [.fz d, .fz d])
  | k, .none, _ => by
    show runF 2 4 (bSame (denSame k)) _ = _
    rfl
  | k, .bool b, _ => by
    show runF 2 4 (bSame (denSame k)) _ = _
    cases b <;> rfl
  | k, .int n, _ => by
    have key : bSame (denSame k) [.fz (.int n), .fz (.int n), .no, .no] = .ok (.rt (.fz (.bool true)), [.fz (.int n), .fz (.int n), .no, .no]) := by
      unfold bSame
      refine ev_seq (ρ1 := [.fz (.int n), .fz (.int n), .no, .no]) rfl ?_
      refine ev_seq (ρ1 := [.fz (.int n), .fz (.int n), .no, .no]) rfl ?_
      refine ev_ret (ev_ofD (ev_and (x := .bool true) (ρ1 := [.fz (.int n), .fz (.int n), .no, .no]) rfl rfl (ev_and (x := .bool true) (ρ1 := [.fz (.int n), .fz (.int n), .no, .no]) rfl rfl (ev_frz (r := .fz (.bool true)) (ev_bin rfl rfl (eqD_int n))))))
    show (match bSame (denSame k) [.fz (.int n), .fz (.int n), .no, .no] with
      | .st => .st
      | .ex e => .ex e
      | .ok (.nx, ρ') => .ok (.fz .none, back [.fz (.int n), .fz (.int n)] ρ')
      | .ok (.rt r, ρ') => .ok (r, back [.fz (.int n), .fz (.int n)] ρ')
      | .ok (_, _) => .st : Rs (Rv × List En)) = _
    rw [key]
    rfl
  | k + 1, .list xs, h => by
    unfold pln at h
    rw [Bool.and_eq_true, List.all_eq_true] at h
    exact same_seq (.inl rfl) h.1 fun x hx => same_refl k x (h.2 x hx)
  | k + 1, .tuple xs, h => by
    unfold pln at h
    rw [Bool.and_eq_true, List.all_eq_true] at h
    exact same_seq (.inr rfl) h.1 fun x hx => same_refl k x (h.2 x hx)
  | 0, .list xs, h => by cases h
  | 0, .tuple xs, h => by cases h
  | 0, .str _, h => by cases h
  | k + 1, .str _, h => by cases h
  | 0, .dict _, h => by cases h
  | k + 1, .dict _, h => by cases h
end Gx

/-! E23: equality of plain data; either, both, hitting, blockers. -/
namespace K15
open PySem PySem.Spec L2 Gx M10
open PyProof.Rows hiding St
theorem ev_iseq {ρ ρ1 : Ev} {f : Dn PyData} {d : PyData} {ds : List PyData} (h : f ρ = .ok (d, ρ1)) (h2 : seqOf d = some ds) : iSeq f ρ = .ok (ds, ρ1) := ev_bnd h (ev_lft h2)
theorem pln_ok : ∀ (k : Nat) (d : PyData), pln k d = true → cln d = true ∧ PyData.canLay0 d = true ∧ PyData.depth d ≤ k + 1 := by
  intro k
  induction k with
  | zero =>
    intro d h
    cases d <;> simp_all [pln, cln, PyData.canLay0, PyData.depth]
  | succ k ih =>
    have al : ∀ xs : List PyData, xs.all (pln k) = true → clns xs = true ∧ PyData.canLayAll0 xs = true ∧ PyData.depthAll xs ≤ k + 1 := by
      intro xs
      induction xs with
      | nil => intro _; simp [clns, PyData.canLayAll0, PyData.depthAll]
      | cons x xs ihx =>
        intro h
        simp only [List.all_cons, Bool.and_eq_true] at h
        obtain ⟨a1, a2, a3⟩ := ih x h.1
        obtain ⟨b1, b2, b3⟩ := ihx h.2
        refine ⟨by simp [clns, a1, b1], by simp [PyData.canLayAll0, a2, b2], ?_⟩
        simp only [PyData.depthAll]
        omega
    intro d h
    cases d with
    | list xs =>
      simp only [pln, Bool.and_eq_true] at h
      obtain ⟨b1, b2, b3⟩ := al xs h.2
      exact ⟨by simp [cln, b1], by simp [PyData.canLay0, b2], by simp only [PyData.depth]; omega⟩
    | tuple xs =>
      simp only [pln, Bool.and_eq_true] at h
      obtain ⟨b1, b2, b3⟩ := al xs h.2
      exact ⟨by simp [cln, b1], by simp [PyData.canLay0, b2], by simp only [PyData.depth]; omega⟩
    | dict _ => simp [pln] at h
    | str _ => simp [pln] at h
    | _ => simp [cln, PyData.canLay0, PyData.depth]
theorem okEq_p {d e : PyData} (h1 : pln 9 d = true) (h2 : pln 9 e = true) : okEq d e = true := by
  obtain ⟨a1, a2, a3⟩ := pln_ok 9 d h1
  obtain ⟨b1, b2, b3⟩ := pln_ok 9 e h2
  unfold okEq SeqAt.shaped
  rw [a1, b1, a2, b2, decide_eq_true (show d.depth ≤ 64 by omega), decide_eq_true (show e.depth ≤ 64 by omega)]
  rfl
theorem eqD_p {d e : PyData} (h1 : pln 9 d = true) (h2 : pln 9 e = true) : eqD d e = some (.fz (.bool (d.eqv e))) := by
  unfold eqD
  rw [okEq_p h1 h2]
  rfl
theorem neD_p {d e : PyData} (h1 : pln 9 d = true) (h2 : pln 9 e = true) : neD d e = some (.fz (.bool (!d.eqv e))) := by
  unfold neD
  rw [okEq_p h1 h2]
  rfl
theorem pln_M (k m : Nat) : pln k (intM m) = true := by cases k <;> rfl
theorem bits_len (m : Nat) : (bits m).length ≤ 5 := by
  have h := (List.filter_sublist (p := fun p => m >>> p &&& 1 == 1) (l := List.range 5)).length_le
  rw [List.length_range] at h
  exact h
theorem pln_lot (k m : Nat) : pln (k + 1) (lotM m) = true := by
  show (okLen ((bits m).map intM).length && ((bits m).map intM).all (pln k)) = true
  have := bits_len m
  rw [Bool.and_eq_true]
  refine ⟨decide_eq_true (by simp; omega), ?_⟩
  rw [List.all_eq_true]
  intro d hd
  obtain ⟨p, _, rfl⟩ := List.mem_map.mp hd
  exact pln_M k p
theorem pln_tup {k : Nat} {xs : List PyData} (h : ∀ x ∈ xs, pln k x = true) (hl : xs.length ≤ 16777216) : pln (k + 1) (.tuple xs) = true := by
  show (okLen xs.length && xs.all (pln k)) = true
  rw [Bool.and_eq_true]
  exact ⟨decide_eq_true hl, List.all_eq_true.mpr h⟩
theorem pln_lst {k : Nat} {xs : List PyData} (h : ∀ x ∈ xs, pln k x = true) (hl : xs.length ≤ 16777216) : pln (k + 1) (.list xs) = true := by
  show (okLen xs.length && xs.all (pln k)) = true
  rw [Bool.and_eq_true]
  exact ⟨decide_eq_true hl, List.all_eq_true.mpr h⟩
theorem pln_fam (k : Nat) {ms : List Nat} (hl : ms.length ≤ 1000) : pln (k + 2) (famM ms) = true := pln_tup (fun x hx => by
  obtain ⟨m, _, rfl⟩ := List.mem_map.mp hx
  exact pln_lot k m) (by simp; omega)
theorem pln_ones (k : Nat) {ι : Type} {l : List ι} (hl : l.length ≤ 1000) : pln (k + 1) (.list (l.map fun _ => PyData.int 1)) = true := pln_lst (fun x hx => by
  obtain ⟨m, _, rfl⟩ := List.mem_map.mp hx
  exact pln_M k 1) (by simp; omega)
theorem eqv_nil (xs : List PyData) : PyData.eqv (.list xs) (.list []) = xs.isEmpty := by cases xs <;> simp [PyData.eqv, PyData.eqvAll]
theorem ones_eq {ι : Type} (l : List ι) (hl : l.length ≤ 1000) : eqD (.list (l.map fun _ => PyData.int 1)) (.list []) = some (.fz (.bool l.isEmpty)) := by
  rw [eqD_p (pln_ones 8 hl) rfl, eqv_nil]
  cases l <;> rfl
theorem ones_ne {ι : Type} (l : List ι) (hl : l.length ≤ 1000) : neD (.list (l.map fun _ => PyData.int 1)) (.list []) = some (.fz (.bool (!l.isEmpty))) := by
  rw [neD_p (pln_ones 8 hl) rfl, eqv_nil]
  cases l <;> rfl
def one0 : PyData := .tuple [.tuple []]
theorem c_lot0 : (List.range 32).all (fun a => PyData.eqv (lotM a) (.tuple []) == (a == 0)) = true := by kernel_rfl
theorem fam_one {ms : List Nat} (h : Lt ms) (hl : ms.length ≤ 1000) : eqD (famM ms) one0 = some (.fz (.bool (ms == [0]))) := by
  rw [eqD_p (pln_fam 7 hl) rfl]
  congr 3
  cases ms with
  | nil => rfl
  | cons m ms =>
    have e := all1 c_lot0 (h m (by simp))
    have e2 : PyData.eqv (lotM m) (.tuple []) = (m == 0) := by simpa using e
    show PyData.eqv (.tuple (lotM m :: ms.map lotM)) (.tuple [.tuple []]) = _
    simp only [PyData.eqv, PyData.eqvAll]
    rw [e2]
    cases ms with
    | nil => simp [PyData.eqvAll]
    | cons n ms => simp [PyData.eqvAll]
/-! either, both -/
section
variable {ρ : Ev} {i : Nat} {ks fs ms : List Nat}
theorem froz_at {ms : List Nat} (hn : dName i ρ = .ok (famM ms, ρ)) (h : Lt ms) (hl : ms.length ≤ 1000) : dFn (den_frozen 7) (aCons (ofD (dName i)) aNil) ρ = .ok (.fz (famM ms), ρ) :=
  gv_fn (as := [.fz (famM ms)]) (ev_aconsF (ev_ofD hn) rfl) rfl rfl (frozen_fam h hl)
theorem masks_at {ms : List Nat} (hn : dName i ρ = .ok (famM ms, ρ)) (h : Lt ms) (hl : ms.length ≤ 1000) : frz (dFn den_masks_of (aCons (ofD (frz (dFn (den_frozen 7) (aCons (ofD (dName i)) aNil)))) aNil)) ρ = .ok (.list (ms.map intM), ρ) :=
  frzL (gv_fn (as := [.fz (famM ms)]) (ev_aconsF (ev_ofD (frzF (froz_at hn h hl))) rfl) rfl rfl (masks_fam h hl))
theorem addD_l {xs ys : List PyData} (h : xs.length + ys.length ≤ 16777216) : addD (.list xs) (.list ys) = some (.ol (xs ++ ys)) := by
  show (if okLen (xs.length + ys.length) then _ else _) = _
  rw [if_pos (show okLen _ = true from decide_eq_true h)]
theorem lt_app (h1 : Lt ks) (h2 : Lt fs) : Lt (ks ++ fs) := fun m hm => by
  rcases List.mem_append.mp hm with z | z
  · exact h1 m z
  · exact h2 m z
theorem or_lt {a b : Nat} (h1 : a < 32) (h2 : b < 32) : a ||| b < 32 := Nat.or_lt_two_pow (n := 5) h1 h2
theorem ors_lt (h1 : Lt ks) (h2 : Lt fs) : Lt (ors ks fs) := fun m hm => by
  obtain ⟨a, ha, hb⟩ := List.mem_flatMap.mp hm
  obtain ⟨b, hb2, rfl⟩ := List.mem_map.mp hb
  exact or_lt (h1 a ha) (h2 b hb2)
theorem ors_len : (ors ks fs).length = ks.length * fs.length := by
  unfold ors
  induction ks with
  | nil => simp
  | cons k ks ih => simp [ih, Nat.succ_mul, Nat.add_comm]
end
end K15

/-! E24: hitting, blockers. -/
namespace K15
open PySem PySem.Spec L2 Gx M10
open PyProof.Rows hiding St
theorem c_shl : (List.range 5).all (fun p => isR (shlD (.int 1) (intM p)) (.fz (intM (1 <<< p)))) = true := by kernel_rfl
theorem shl_lt : ∀ p < 5, 1 <<< p < 32 := by decide
theorem bits_lt (l : Nat) : ∀ p ∈ bits l, p < 5 := fun p h => List.mem_range.mp (List.mem_filter.mp h).1
section
variable {fd : PyData} {l : Nat}
def hE (fd : PyData) (l : Nat) (acc : List Nat) (e4 e5 : En) : Ev := [.fz fd, .fz (lotM l), .ol (acc.map intM), .fz (intM l), e4, e5]
abbrev iBody : Dn Fl := sApp 2 (frz (dBin borD (dName 4) (frz (dBin shlD (dC (.int 1)) (dName 5)))))
theorem in_body {acc : List Nat} {m p : Nat} (hm : m < 32) (hp : p < 5) (hl : acc.length ≤ 10000) : iBody (hE fd l acc (.fz (intM m)) (.fz (intM p))) = .ok (.nx, hE fd l (acc ++ [m ||| 1 <<< p]) (.fz (intM m)) (.fz (intM p))) := by
  have e : (frz (dBin borD (dName 4) (frz (dBin shlD (dC (.int 1)) (dName 5))))) (hE fd l acc (.fz (intM m)) (.fz (intM p))) = .ok (intM (m ||| 1 <<< p), hE fd l acc (.fz (intM m)) (.fz (intM p))) :=
    frzF (ev_bin rfl (frzF (ev_bin rfl rfl (isR_ok (all1 c_shl hp)))) (isR_ok (all2 c_bor hm (shl_lt p hp))))
  refine (ev_appS (i := 2) (d := intM (m ||| 1 <<< p)) (xs := acc.map intM) rfl e rfl (by rw [List.length_map]; omega)).trans ?_
  show Rs.ok (Fl.nx, [En.fz fd, .fz (lotM l), .ol (acc.map intM ++ [intM (m ||| 1 <<< p)]), .fz (intM l), .fz (intM m), .fz (intM p)]) = _
  unfold hE
  rw [List.map_append]
  rfl
theorem in_loop {m : Nat} (hm : m < 32) : ∀ (ps : List Nat) (acc : List Nat) (e : En), (∀ p ∈ ps, p < 5) → acc.length + ps.length ≤ 10000 → okEn e →
    ∃ e', okEn e' ∧ loopF (hName 5) iBody (ps.map intM) (hE fd l acc (.fz (intM m)) e) = .ok (.nx, hE fd l (acc ++ ps.map fun p => m ||| 1 <<< p) (.fz (intM m)) e')
  | [], acc, e, _, _, he => ⟨e, he, by simp [loopF]⟩
  | p :: ps, acc, e, hp, hl, he => by
    simp only [List.length_cons] at hl
    have b := in_body (fd := fd) (l := l) (acc := acc) hm (hp p (by simp)) (by omega)
    obtain ⟨e', h1, ih⟩ := in_loop hm ps (acc ++ [m ||| 1 <<< p]) (.fz (intM p)) (fun q hq => hp q (by simp [hq])) (by simp; omega) (.inr ⟨_, rfl⟩)
    refine ⟨e', h1, ?_⟩
    have n1 : hName 5 (intM p) (hE fd l acc (.fz (intM m)) e) = some (hE fd l acc (.fz (intM m)) (.fz (intM p))) := by
      rcases he with rfl | ⟨d, rfl⟩ <;> rfl
    rw [List.map_cons]
    unfold loopF
    simp only [n1, b]
    rw [List.append_assoc] at ih
    exact ih
abbrev oBody : Dn Fl := sIf (dTru (frz (dBin bandD (dName 4) (dName 3)))) (sApp 2 (dName 4)) (sFor (iSeq (dName 1)) (hName 5) iBody)
theorem out_body {acc : List Nat} {m : Nat} {e : En} (hm : m < 32) (hl : l < 32) (hn : acc.length ≤ 9000) (he : okEn e) : ∃ e', okEn e' ∧ oBody (hE fd l acc (.fz (intM m)) e) = .ok (.nx, hE fd l (acc ++ hit1 l m) (.fz (intM m)) e') := by
  have c : (dTru (frz (dBin bandD (dName 4) (dName 3)))) (hE fd l acc (.fz (intM m)) e) = .ok (m &&& l != 0, hE fd l acc (.fz (intM m)) e) := by
    refine ev_bnd (frzF (ev_bin rfl rfl (isR_ok (all2 c_band hm hl)))) ?_
    refine ev_lft ?_
    show some (_ : Bool) = some _
    congr 1
    have : (((m &&& l : Nat) : Int) != 0) = (m &&& l != 0) := by
      rw [Bool.eq_iff_iff]
      simp
    exact this
  unfold hit1
  by_cases z : m &&& l = 0
  · obtain ⟨e', h1, h2⟩ := in_loop (fd := fd) (l := l) hm (bits l) acc e (bits_lt l) (by have := bits_len l; omega) he
    refine ⟨e', h1, ?_⟩
    rw [if_pos (by simp [z])]
    exact ev_if (b := m &&& l != 0) c (by rw [show (m &&& l != 0) = false by simp [z]]; exact ev_bnd (show iSeq (dName 1) (hE fd l acc (.fz (intM m)) e) = .ok ((bits l).map intM, hE fd l acc (.fz (intM m)) e) from rfl) h2)
  · refine ⟨e, he, ?_⟩
    rw [if_neg (by simp [z])]
    refine ev_if (b := m &&& l != 0) c ?_
    rw [show (m &&& l != 0) = true by simp [z]]
    refine (ev_appS (i := 2) (f := dName 4) (ρ := hE fd l acc (.fz (intM m)) e) (ρ1 := hE fd l acc (.fz (intM m)) e) (d := intM m) (xs := acc.map intM) rfl rfl rfl (by rw [List.length_map]; omega)).trans ?_
    show Rs.ok (Fl.nx, [En.fz fd, .fz (lotM l), .ol (acc.map intM ++ [intM m]), .fz (intM l), .fz (intM m), e]) = _
    unfold hE
    rw [List.map_append]
    rfl
theorem hit1_len (l m : Nat) : (hit1 l m).length ≤ 5 := by
  unfold hit1
  have := bits_len l
  split
  · simpa using this
  · simp
theorem out_loop (hl : l < 32) : ∀ (ms acc : List Nat) (e4 e5 : En), Lt ms → acc.length + 5 * ms.length ≤ 9000 → okEn e4 → okEn e5 →
    ∃ e4' e5', loopF (hName 4) oBody (ms.map intM) (hE fd l acc e4 e5) = .ok (.nx, hE fd l (acc ++ hits l ms) e4' e5')
  | [], acc, e4, e5, _, _, _, _ => ⟨e4, e5, by simp [loopF, hits]⟩
  | m :: ms, acc, e4, e5, hm, hn, h4, h5 => by
    simp only [List.length_cons] at hn
    obtain ⟨e5', g1, g2⟩ := out_body (fd := fd) (l := l) (acc := acc) (e := e5) (hm m (by simp)) hl (by omega) h5
    have hh := hit1_len l m
    obtain ⟨a, b, ih⟩ := out_loop hl ms (acc ++ hit1 l m) (.fz (intM m)) e5' (fun k hk => hm k (by simp [hk])) (by simp; omega) (.inr ⟨_, rfl⟩) g1
    refine ⟨a, b, ?_⟩
    have n1 : hName 4 (intM m) (hE fd l acc e4 e5) = some (hE fd l acc (.fz (intM m)) e5) := by
      rcases h4 with rfl | ⟨d, rfl⟩ <;> rfl
    rw [List.map_cons]
    unfold loopF
    simp only [n1, g2]
    rw [List.append_assoc] at ih
    exact ih
theorem hits_len (l : Nat) : ∀ ms : List Nat, (hits l ms).length ≤ 5 * ms.length
  | [] => by simp [hits]
  | m :: ms => by
    have h1 := hits_len l ms
    have h2 := hit1_len l m
    have e : hits l (m :: ms) = hit1 l m ++ hits l ms := by simp [hits]
    rw [e, List.length_append, List.length_cons]
    omega
end
/-! blockers -/
def bE (ks found : List Nat) : Ev := [.fz (famM ks), .ol (found.map intM), .no]
end K15

/-! E25: apart, least_common, and the law's own least, has, pairs. -/
namespace K15
open PySem PySem.Spec L2 Gx M10
open PyProof.Rows hiding St
theorem c_eq0 : (List.range 6).all (fun a => isR (eqD (intM a) (.int 0)) (.fz (.bool (a == 0)))) = true := by kernel_rfl
theorem c_pop0 : (List.range 32).all (fun a => (pop a == 0) == (a == 0)) = true := by decide +kernel
theorem pop0 {a : Nat} (h : a < 32) : (pop a == 0) = (a == 0) := by simpa using all1 c_pop0 h
theorem pop_lt (a : Nat) : pop a < 6 := by have := bits_len a; unfold pop; omega
section
variable {ks fs : List Nat}
/-! apart -/
def aE (ks fs : List Nat) (e2 e3 : En) : Ev := [.fz (famM ks), .fz (famM fs), e2, e3]
def pairM (p : Nat × Nat) : PyData := .tuple [lotM p.1, lotM p.2]
def prs (ks fs : List Nat) : List (Nat × Nat) := ks.flatMap fun a => fs.map fun b => (a, b)
def far0 (ks fs : List Nat) : Option (Nat × Nat) := (prs ks fs).find? fun p => p.1 &&& p.2 == 0
def apartV (ks fs : List Nat) : PyData := match far0 ks fs with
  | some p => pairM p
  | none => .none
theorem find_map {a : Nat} (l : List Nat) : (l.map fun b => (a, b)).find? (fun p => p.1 &&& p.2 == 0) = (l.find? fun b => a &&& b == 0).map fun b => (a, b) := by
  induction l with
  | nil => rfl
  | cons b l ih =>
    rw [List.map_cons, List.find?_cons, List.find?_cons]
    cases c : (a &&& b == 0) with
    | true => rfl
    | false => exact ih
/-! least_common -/
def pops (ks fs : List Nat) : List Nat := (prs ks fs).map fun p => pop (p.1 &&& p.2)
/-! the law's least -/
def lE (d : PyData) (acc : List Nat) (e2 : En) : Ev := [.fz d, .ol (acc.map lotM), e2, .no]
abbrev lBody : Dn Fl := sIf (dCmpT eqD (frz (dComp (iSeq (dName 0)) (hName 3) (dAndT (dCmpT neD (dName 3) (dName 2)) (dTru (frz (dFn (den_within) (aCons (ofD (dName 3)) (aCons (ofD (dName 2)) aNil)))))) (dC (.int 1)) [3])) (frz (dLst dNil))) (sApp 1 (dName 2)) sNx
def alone (ms : List Nat) (m : Nat) : Bool := !(ms.any fun n => n != m && sub n m)
theorem l_body {d : PyData} {ms acc : List Nat} {m : Nat} (hd : seqOf d = some (ms.map lotM)) (h : Lt ms) (hm : m < 32) (hl : acc.length ≤ 1000) (hn : ms.length ≤ 1000) :
    lBody ((lE d acc .no).set 2 (.fz (lotM m))) = .ok (.nx, (lE d (if alone ms m then acc ++ [m] else acc) .no).set 2 (.fz (lotM m))) := by
  have ht : ∀ n, n < 32 → (dAndT (dCmpT neD (dName 3) (dName 2)) (dTru (frz (dFn (den_within) (aCons (ofD (dName 3)) (aCons (ofD (dName 2)) aNil)))))) [.fz d, .ol (acc.map lotM), .fz (lotM m), .fz (lotM n)] = .ok (n != m && sub n m, [.fz d, .ol (acc.map lotM), .fz (lotM m), .fz (lotM n)]) := fun n hn => by
    have t1 : (dCmpT neD (dName 3) (dName 2)) [.fz d, .ol (acc.map lotM), .fz (lotM m), .fz (lotM n)] = .ok (n != m, [.fz d, .ol (acc.map lotM), .fz (lotM m), .fz (lotM n)]) := ev_cmpT rfl rfl (isR_ok (all2 c_neL hn hm))
    have t2 : (dTru (frz (dFn (den_within) (aCons (ofD (dName 3)) (aCons (ofD (dName 2)) aNil))))) [.fz d, .ol (acc.map lotM), .fz (lotM m), .fz (lotM n)] = .ok (sub n m, [.fz d, .ol (acc.map lotM), .fz (lotM m), .fz (lotM n)]) :=
      ev_bnd (frzF (gv_fn (as := [.fz (lotM n), .fz (lotM m)]) rfl rfl rfl (isG_ok (all2 c_within hn hm)))) rfl
    refine ev_bnd t1 ?_
    cases n != m with
    | true => exact t2
    | false => rfl
  have it : iSeq (dName 0) [.fz d, .ol (acc.map lotM), .fz (lotM m), .no] = .ok (ms.map lotM, [.fz d, .ol (acc.map lotM), .fz (lotM m), .no]) := ev_iseq rfl hd
  have c := ev_comp1 (ρ := [.fz d, .ol (acc.map lotM), .fz (lotM m), .no]) (ρ1 := [.fz d, .ol (acc.map lotM), .fz (lotM m), .no]) (i := 3) (ft := dAndT (dCmpT neD (dName 3) (dName 2)) (dTru (frz (dFn (den_within) (aCons (ofD (dName 3)) (aCons (ofD (dName 2)) aNil)))))) (fe := dC (.int 1)) (ds := ms) (u := lotM) (fun n => n != m && sub n m) (fun _ => .int 1) it rfl (fun n hn => ht n (h n hn)) (fun _ _ _ => rfl) (by omega)
  have el : (ms.filter fun n => n != m && sub n m).length ≤ 1000 := Nat.le_trans (List.filter_sublist.length_le) hn
  have t : (dCmpT eqD (frz (dComp (iSeq (dName 0)) (hName 3) (dAndT (dCmpT neD (dName 3) (dName 2)) (dTru (frz (dFn (den_within) (aCons (ofD (dName 3)) (aCons (ofD (dName 2)) aNil)))))) (dC (.int 1)) [3])) (frz (dLst dNil))) [.fz d, .ol (acc.map lotM), .fz (lotM m), .no] = .ok (alone ms m, [.fz d, .ol (acc.map lotM), .fz (lotM m), .no]) := by
    refine ev_cmpT (y := .list []) (frzL c) rfl ((ones_eq _ el).trans ?_)
    show some (Rv.fz (.bool _)) = some (Rv.fz (.bool _))
    congr 3
    unfold alone
    rw [Bool.eq_iff_iff]
    simp [List.isEmpty_iff, List.filter_eq_nil_iff]
  refine ev_if t ?_
  cases alone ms m with
  | true =>
    refine (ev_appS (i := 1) (f := dName 2) (ρ := [.fz d, .ol (acc.map lotM), .fz (lotM m), .no]) (ρ1 := [.fz d, .ol (acc.map lotM), .fz (lotM m), .no]) (d := lotM m) (xs := acc.map lotM) rfl rfl rfl (by rw [List.length_map]; omega)).trans ?_
    show Rs.ok (Fl.nx, [En.fz d, .ol (acc.map lotM ++ [lotM m]), .fz (lotM m), .no]) = Rs.ok (Fl.nx, [En.fz d, .ol ((acc ++ [m]).map lotM), .fz (lotM m), .no])
    rw [List.map_append]
    rfl
  | false => rfl
theorem fold_filter (p : Nat → Bool) : ∀ (l acc : List Nat), l.foldl (fun acc m => if p m then acc ++ [m] else acc) acc = acc ++ l.filter p
  | [], acc => by simp
  | m :: l, acc => by
    rw [List.foldl_cons, fold_filter p l, List.filter_cons]
    cases p m <;> simp
theorem l_loop {d : PyData} {ms : List Nat} (hd : seqOf d = some (ms.map lotM)) (h : Lt ms) (hn : ms.length ≤ 1000) : ∀ (l acc : List Nat) (e : En), Lt l → acc.length + l.length ≤ 1000 → okEn e →
    ∃ e', loopF (hName 2) lBody (l.map lotM) ((lE d acc .no).set 2 e) = .ok (.nx, (lE d (acc ++ l.filter (alone ms)) .no).set 2 e')
  | [], acc, e, _, _, _ => ⟨e, by simp [loopF]⟩
  | m :: l, acc, e, hl, ha, he => by
    simp only [List.length_cons] at ha
    have hm := hl m (by simp)
    have b := l_body (acc := acc) hd h hm (by omega) hn
    have kl : (if alone ms m then acc ++ [m] else acc).length ≤ acc.length + 1 := by split <;> simp
    obtain ⟨e', ih⟩ := l_loop hd h hn l (if alone ms m then acc ++ [m] else acc) (.fz (lotM m)) (fun k hk => hl k (by simp [hk])) (by omega) (.inr ⟨_, rfl⟩)
    refine ⟨e', ?_⟩
    have n1 : hName 2 (lotM m) ((lE d acc .no).set 2 e) = some ((lE d acc .no).set 2 (.fz (lotM m))) := by
      rcases he with rfl | ⟨x, rfl⟩ <;> rfl
    rw [List.map_cons]
    unfold loopF
    simp only [n1, b]
    rw [List.filter_cons]
    cases c : alone ms m with
    | true => simp only [c, if_true] at ih ⊢; rw [List.append_assoc] at ih; exact ih
    | false => simp only [c] at ih ⊢; exact ih
theorem least_ev {d : PyData} {ms : List Nat} (hd : d = .list (ms.map lotM) ∨ d = .tuple (ms.map lotM)) (h : Lt ms) (hn : ms.length < 64) : Gv den_least [.fz d] (.fz (famM (FU (up ms)))) := by
  have hs : seqOf d = some (ms.map lotM) := by rcases hd with rfl | rfl <;> rfl
  have hq : setSortD [d] = some (.ol ((tl.filter fun m => ms.contains m).map lotM)) := by rcases hd with rfl | rfl <;> exact setSort_L h hn
  have hl : (tl.filter fun m => ms.contains m).length ≤ 32 := (List.filter_sublist (p := fun m => ms.contains m) (l := tl)).length_le
  obtain ⟨e', lp⟩ := l_loop hs h (by omega) (tl.filter fun m => ms.contains m) [] .no (fun m hm => tl_lt m (List.mem_filter.mp hm).1) (by show 0 + _ ≤ 1000; omega) (.inl rfl)
  have e : (tl.filter fun m => ms.contains m).filter (alone ms) = FU (up ms) := by
    rw [← least_FU h, List.filter_filter]
    refine List.filter_congr fun m _ => ?_
    unfold mo alone
    exact Bool.and_comm ..
  rw [List.nil_append, e] at lp
  have it : iSeq (frz (dCall setSortD (dCons (dName 0) dNil))) (lE d [] .no) = .ok ((tl.filter fun m => ms.contains m).map lotM, lE d [] .no) := ev_iseq (frzL (ev_call (xs := [d]) rfl hq)) rfl
  have fin : (dCall tupleD (dCons (dName 1) dNil)) ((lE d (FU (up ms)) .no).set 2 e') = .ok (.fz (famM (FU (up ms))), [.fz d, .fz (.list ((FU (up ms)).map lotM)), e', .no]) := rfl
  exact gv_run ⟨_, ev_seq (ρ1 := (lE d [] .no).set 2 .no) rfl (ev_seq (ev_bnd it lp) (ev_ret fin))⟩
/-! has -/
end
end K15

set_option maxHeartbeats 0
/-! E26: what is drawn. -/
namespace K15
open PySem PySem.Spec L2 Gx M10
open PyProof.Rows hiding St
def tinD (a s c : Int) : List PyData := [.int a, .int s, .int c]
theorem take_ev (a s c b : Int) (ha : 0 ≤ a) (hb : 0 < b) (hb2 : b < 1073741824) (hc : 0 ≤ c) (hc2 : c < 1000000) : ∃ d a' c' : Int, den_take [.bl (tinD a s c), .fz (.int b)] = .ok (.fz (.int d), [.bl (tinD a' s c'), .fz (.int b)]) ∧ 0 ≤ d ∧ d < b ∧ 0 ≤ a' ∧ (c' = c ∨ c' = c + 1) := by
  by_cases h0 : 0 < a
  · refine ⟨a % b, a / b, c, ?_, Int.emod_nonneg _ (by omega), Int.emod_lt_of_pos _ hb, Int.ediv_nonneg ha (by omega), .inl rfl⟩
    refine Eq.trans (ev_run (n := 2) (N := 6) (as := [.bl (tinD a s c), .fz (.int b)]) (r := .fz (.int (a % b))) (ρ1 := [.bl (tinD (a / b) s c), .fz (.int b), .no, .no, .no, .fz (.int (a % b))]) ?_) rfl
    show b_take [.bl (tinD a s c), .fz (.int b), .no, .no, .no, .no] = _
    refine ev_seqR (ev_if (b := true) (ρ1 := [.bl (tinD a s c), .fz (.int b), .no, .no, .no, .no]) (ev_cmpT (x := .int a) (y := .int 0) rfl rfl (by show fB (decide (0 < a)) = _; rw [decide_eq_true h0])) ?_)
    refine ev_seq (ev_set (ev_bin (ev_frz (ev_call (ev_cons (ev_peek rfl rfl rfl) ev_nil) rfl)) rfl (modD_ev hb)) rfl) ?_
    refine ev_seq (ev_setIx (ev_frz (ev_bin (ev_peek rfl rfl rfl) rfl (fdivD_ev hb hb2))) rfl rfl rfl) ?_
    rfl
  · let c1 := c + 1
    let once := ((s + 48271 * c1) * (39373 + c1)) % 2147483647
    let wide := once % 40009 + 7
    let twice := ((once + c1 + s / 1000003) * wide) % 2147483629
    let d := ((twice * 48271 + once) % 2147483587 / 64) % b
    have o1 : 0 ≤ once := Int.emod_nonneg _ (by decide)
    have o2 : once < 2147483647 := Int.emod_lt_of_pos _ (by decide)
    have w1 : 7 ≤ wide := by have := Int.emod_nonneg once (b := 40009) (by decide); omega
    have w2 : wide < 50000 := by have := Int.emod_lt_of_pos once (b := 40009) (by decide); omega
    have hw1 : w64 (39373 + c1) = true := w64_of (by omega) (by omega)
    have hw2 : w64 wide = true := w64_of (by omega) (by omega)
    refine ⟨d, a, c1, ?_, Int.emod_nonneg _ (by omega), Int.emod_lt_of_pos _ hb, ha, .inr rfl⟩
    refine Eq.trans (ev_run (n := 2) (N := 6) (as := [.bl (tinD a s c), .fz (.int b)]) (r := .fz (.int d)) (ρ1 := [.bl (tinD a s c1), .fz (.int b), .fz (.int once), .fz (.int wide), .fz (.int twice), .no]) ?_) rfl
    show b_take [.bl (tinD a s c), .fz (.int b), .no, .no, .no, .no] = _
    refine ev_seq (ev_if (b := false) (ρ1 := [.bl (tinD a s c), .fz (.int b), .no, .no, .no, .no]) (ev_cmpT (x := .int a) (y := .int 0) rfl rfl (by show fB (decide (0 < a)) = _; rw [decide_eq_false h0])) rfl) ?_
    refine ev_seq (ev_setIx (ev_frz (ev_bin (ev_peek rfl rfl rfl) rfl rfl)) rfl rfl rfl) ?_
    refine ev_seq (ev_set (ev_bin (ev_frz (ev_call (ev_cons (ev_frz (ev_bin (ev_frz (ev_bin (ev_peek rfl rfl rfl) (ev_frz (ev_bin rfl (ev_peek rfl rfl rfl) (mulD_l (by rfl)))) rfl)) (ev_frz (ev_bin rfl (ev_peek rfl rfl rfl) rfl)) (mulD_r hw1))) ev_nil) rfl)) rfl (modD_ev (by decide))) rfl) ?_
    refine ev_seq (ev_set (ev_bin (ev_frz (ev_bin (ev_frz (ev_call (ev_cons rfl ev_nil) rfl)) rfl (modD_ev (by decide)))) rfl rfl) rfl) ?_
    refine ev_seq (ev_set (ev_bin (ev_frz (ev_call (ev_cons (ev_frz (ev_bin (ev_frz (ev_bin (ev_frz (ev_bin rfl (ev_peek rfl rfl rfl) rfl)) (ev_frz (ev_bin (ev_peek rfl rfl rfl) rfl (fdivD_ev (by decide) (by decide)))) rfl)) rfl (mulD_r hw2))) ev_nil) rfl)) rfl (modD_ev (by decide))) rfl) ?_
    refine Eq.trans (ev_ret (ev_bin (ev_frz (ev_call (ev_cons (ev_frz (ev_bin (ev_frz (ev_bin (ev_frz (ev_call (ev_cons (ev_frz (ev_bin (ev_frz (ev_bin rfl rfl (mulD_r (by rfl)))) rfl rfl)) ev_nil) rfl)) rfl (modD_ev (by decide)))) rfl (fdivD_ev (by decide) (by decide)))) ev_nil) rfl)) rfl (modD_ev hb))) rfl
theorem box_ev (cs : List PyData) (k : Nat) (z : Int) (hk : cs[k]? = some (.int z)) (hk2 : k < 1000) (hl : cs.length < 1000) : ∃ a s : Int, den_box [.fz (.list cs), .fz (.int k)] = .ok (.ol (tinD a s 0), [.fz (.list cs), .fz (.int k)]) ∧ 0 ≤ a := by
  have hkl : k < cs.length := (List.getElem?_eq_some_iff.mp hk).1
  let az : Int := if z < 0 then -z else z
  let t : Bool := decide (1000000000000000000 ≤ az)
  let a : Int := az * (if t = true then 1 else 0)
  let s : Int := z % 2305843009213693951 + 39373 * k + 1940015
  have haz : 0 ≤ az := by
    show 0 ≤ if z < 0 then -z else z
    split <;> omega
  have ha : 0 ≤ a := by
    show 0 ≤ az * (if t = true then 1 else 0)
    split <;> omega
  have hw : w64 (if t = true then 1 else 0) = true := by
    cases t <;> rfl
  have hat : atI cs k = some (.int z) := by
    unfold atI ixN
    rw [if_pos (by omega), if_pos (by omega)]
    show cs[(k : Int).toNat]? = _
    rw [Int.toNat_natCast]
    exact hk
  refine ⟨a, s, ?_, ha⟩
  let ρ1 : Ev := [.fz (.list cs), .fz (.int k), .fz (.int z)]
  refine Eq.trans (ev_run (n := 2) (N := 3) (as := [.fz (.list cs), .fz (.int k)]) (r := .ol (tinD a s 0)) (ρ1 := ρ1) ?_) rfl
  show b_box [.fz (.list cs), .fz (.int k), .no] = _
  refine ev_seq (ρ1 := ρ1) (Eq.trans (ev_set (r := .fz (.int z)) (ρ1 := [.fz (.list cs), .fz (.int k), .no]) (ev_ofD (ev_bnd (a := true) (ρ1 := [.fz (.list cs), .fz (.int k), .no]) (ev_cmpT (x := .int k) (y := .int cs.length) rfl rfl ?_) ?_)) rfl) rfl) ?_
  · show fB (decide ((k : Int) < cs.length)) = _
    rw [decide_eq_true (by omega)]
  · show dPeek 0 (dName 1) [.fz (.list cs), .fz (.int k), .no] = .ok (.int z, [.fz (.list cs), .fz (.int k), .no])
    exact ev_peek rfl rfl hat
  have A : (frz (dCall absD (dCons (dName 2) dNil))) ρ1 = .ok (.int az, ρ1) := ev_frz (r := .fz (.int az)) (ev_call (ev_cons rfl ev_nil) rfl)
  have B : (frz (dCall intD (dCons (frz (dBin geD (frz (dCall absD (dCons (dName 2) dNil))) (frz (dBin powD (dC (.int 10)) (dC (.int 18)))))) dNil))) ρ1 = .ok (.int (if t = true then 1 else 0), ρ1) :=
    ev_frz (r := .fz (.int (if t = true then 1 else 0))) (ev_call (xs := [.bool t]) (ev_cons (ev_frz (r := .fz (.bool t)) (ev_bin A (y := .int 1000000000000000000) (ρ2 := ρ1) (by rfl) rfl)) ev_nil) rfl)
  have C : (frz (dBin addD (frz (dBin addD (frz (dBin modD (frz (dCall intD (dCons (dName 2) dNil))) (dC (.int 2305843009213693951)))) (frz (dBin mulD (dC (.int 39373)) (dName 1))))) (dC (.int 1940015)))) ρ1 = .ok (.int s, ρ1) :=
    ev_frz (r := .fz (.int s)) (ev_bin (ev_frz (ev_bin (ev_frz (ev_bin (ev_frz (ev_call (ev_cons rfl ev_nil) rfl)) rfl (modD_ev (by decide)))) (ev_frz (ev_bin rfl rfl (mulD_l (by rfl)))) rfl)) rfl rfl)
  exact ev_ret (ev_lst (ev_cons (ev_frz (r := .fz (.int a)) (ev_bin A B (mulD_r hw))) (ev_cons C (ev_cons rfl ev_nil))) rfl)

/-! the script folded into one number -/
def cTgt : PyData → Ev → Option Ev := hTup 2 (hCons (hName 3) (hCons (hName 4) hNil))
def cBody : Dn Fl := sSeq (sSet 5 (dBin modD (frz (dCall intD (dCons (dName 3) dNil))) (dName 1)))
  (sSetIx 2 (dName 5) (frz (dBin addD (dPeek 2 (dName 5)) (frz (dBin mulD (dName 4) (frz (dBin addD (dName 3) (dC (.int 2)))))))))
def cEnv (ns : List Int) (p : Int) (e3 e4 e5 : En) : Ev := [.sc (.l ns), .fz (.int 1), .ol [.int p], e3, e4, e5]
theorem cbody_ev (ns : List Int) (p : Int) (i : Nat) (z : Int) (e5 : En) (hi : i < 1000) (he : isBl (some e5) = false) : ∃ p' d, cBody (cEnv ns p (.fz (.int i)) (.fz (.int z)) e5) = .ok (.nx, cEnv ns p' (.fz (.int i)) (.fz (.int z)) (.fz d)) := by
  have hw : w64 ((i : Int) + 2) = true := w64_of (by omega) (by omega)
  have h : (i : Int) % 1 = 0 := by omega
  refine ⟨p + z * (i + 2), .int 0, ?_⟩
  refine ev_seq (ρ1 := cEnv ns p (.fz (.int i)) (.fz (.int z)) (.fz (.int 0))) (Eq.trans (ev_set (r := .fz (.int 0)) (ρ1 := cEnv ns p (.fz (.int i)) (.fz (.int z)) e5) (ev_bin (ev_frz (ev_call (ev_cons rfl ev_nil) rfl)) rfl (by show modD (.int i) (.int 1) = _; rw [modD_ev (by decide), h])) he) rfl) ?_
  exact Eq.trans (ev_setIx (ev_frz (ev_bin (ev_peek rfl rfl rfl) (ev_frz (ev_bin rfl (ev_frz (ev_bin rfl rfl rfl)) (mulD_r hw))) rfl)) rfl rfl rfl) rfl
def okE (e3 e4 e5 : En) : Prop := (e3 = .no ∧ e4 = .no ∧ e5 = .no) ∨ ∃ a b c, e3 = .fz a ∧ e4 = .fz b ∧ e5 = .fz c
theorem cloop_ev (ns : List Int) : ∀ (l : List Int) (i : Nat) (p : Int) (e3 e4 e5 : En), okE e3 e4 e5 → i + l.length < 1000 → ∃ p' f3 f4 f5, loopF cTgt cBody (enumD i (l.map .int)) (cEnv ns p e3 e4 e5) = .ok (.nx, cEnv ns p' f3 f4 f5)
  | [], i, p, e3, e4, e5, _, _ => ⟨p, e3, e4, e5, rfl⟩
  | z :: l, i, p, e3, e4, e5, he, hl => by
    simp only [List.length_cons] at hl
    have ht : cTgt (.tuple [.int (i : Nat), .int z]) (cEnv ns p e3 e4 e5) = some (cEnv ns p (.fz (.int i)) (.fz (.int z)) e5) ∧ isBl (some e5) = false := by
      rcases he with ⟨rfl, rfl, rfl⟩ | ⟨a, b, c, rfl, rfl, rfl⟩
      · exact ⟨rfl, rfl⟩
      · exact ⟨rfl, rfl⟩
    obtain ⟨p1, d, e⟩ := cbody_ev ns p i z e5 (by omega) ht.2
    obtain ⟨p', f3, f4, f5, ih⟩ := cloop_ev ns l (i + 1) p1 (.fz (.int i)) (.fz (.int z)) (.fz d) (.inr ⟨_, _, _, rfl, rfl, rfl⟩) (by omega)
    refine ⟨p', f3, f4, f5, ?_⟩
    show (match cTgt (.tuple [.int (i : Nat), .int z]) (cEnv ns p e3 e4 e5) with
      | none => .st
      | some ρ1 => match cBody ρ1 with
        | .st => .st
        | .ex e => .ex e
        | .ok (.nx, ρ2) => loopF cTgt cBody (enumD (i + 1) (l.map .int)) ρ2
        | .ok (.ct, ρ2) => loopF cTgt cBody (enumD (i + 1) (l.map .int)) ρ2
        | .ok (.bk, ρ2) => .ok (.nx, ρ2)
        | .ok (.rt r, ρ2) => .ok (.rt r, ρ2) : Rs (Fl × Ev)) = _
    rw [ht.1]
    simp only [e]
    exact ih
theorem cut1 (xs : List PyData) : Gx.cutD xs none (some 1) = xs.take 1 := by
  unfold Gx.cutD
  rw [HT.sIx_none, show HT.sIx xs.length xs.length (some 1) = min 1 xs.length from HT.sIx_nat _ _ 1, List.drop_zero, Nat.sub_zero]
  by_cases h : 1 ≤ xs.length
  · rw [Nat.min_eq_left h]
  · rw [Nat.min_eq_right (by omega), List.take_length, List.take_of_length_le (by omega)]
theorem cut63 (x : PyData) (xs : List PyData) (h : xs.length + 1 ≤ 63) : Gx.cutD (x :: xs) (some 1) (some 63) = xs := by
  unfold Gx.cutD
  rw [show HT.sIx (x :: xs).length 0 (some 1) = min 1 (x :: xs).length from HT.sIx_nat _ _ 1, show HT.sIx (x :: xs).length (x :: xs).length (some 63) = min 63 (x :: xs).length from HT.sIx_nat _ _ 63]
  simp only [List.length_cons]
  rw [show min 1 (xs.length + 1) = 1 by omega, show min 63 (xs.length + 1) = xs.length + 1 by omega]
  show List.take (xs.length + 1 - 1) xs = xs
  exact List.take_of_length_le (by omega)
theorem cells_ev (ns : List Int) (hl : ns.length ≤ 63) : ∃ z : Int, den_cells [.sc (.l ns), .fz (.int 1)] = .ok (.ol [.int z], [.sc (.l ns), .fz (.int 1)]) := by
  match ns, hl with
  | [], _ => exact ⟨0, by kernel_rfl⟩
  | x :: rest, hl =>
    simp only [List.length_cons] at hl
    obtain ⟨p', f3, f4, f5, hlp⟩ := cloop_ev (x :: rest) rest 0 x .no .no .no (.inl ⟨rfl, rfl, rfl⟩) (by omega)
    refine ⟨p', ?_⟩
    refine Eq.trans (ev_run (n := 2) (N := 6) (as := [.sc (.l (x :: rest)), .fz (.int 1)]) (r := .ol [.int p']) (ρ1 := [.sc (.l (x :: rest)), .fz (.int 1), .no, f3, f4, f5]) ?_) rfl
    show b_cells [.sc (.l (x :: rest)), .fz (.int 1), .no, .no, .no, .no] = _
    have s1 : (dSlP 0 dOff (dOn (dName 1))) [.sc (.l (x :: rest)), .fz (.int 1), .no, .no, .no, .no] = .ok (.ol [.int x], [.sc (.l (x :: rest)), .fz (.int 1), .no, .no, .no, .no]) := by
      have e : Gx.cutD ((x :: rest).map .int) none (some 1) = [.int x] := by rw [cut1]; rfl
      rw [← e]
      rfl
    have s2 : (dSlP 0 (dOn (dName 1)) (dOn (dC (.int 63)))) (cEnv (x :: rest) x .no .no .no) = .ok (.ol (rest.map .int), cEnv (x :: rest) x .no .no .no) := by
      have e : Gx.cutD ((x :: rest).map .int) (some 1) (some 63) = rest.map .int := cut63 _ _ (by simpa using hl)
      rw [← e]
      rfl
    refine ev_seq (ρ1 := cEnv (x :: rest) x .no .no .no) (Eq.trans (ev_set (r := .ol [.int x]) (ρ1 := [.sc (.l (x :: rest)), .fz (.int 1), .no, .no, .no, .no]) (ev_bnd (ev_call (ev_cons (ev_frz s1) ev_nil) rfl) (ev_bnd (ev_lft rfl) rfl)) rfl) rfl) ?_
    refine ev_seq (ρ1 := cEnv (x :: rest) p' f3 f4 f5) (ev_bnd (a := enumD 0 (rest.map .int)) (ρ1 := cEnv (x :: rest) x .no .no .no) (ev_bnd (ev_cons (ev_frz s2) ev_nil) (ev_lft rfl)) hlp) ?_
    rfl
/-! drawing in general -/
def TinOk (n : Nat) (t : List PyData) : Prop := ∃ a s c : Int, t = tinD a s c ∧ 0 ≤ a ∧ 0 ≤ c ∧ c ≤ n
theorem take_n {n b : Nat} {t : List PyData} (h : TinOk n t) (hn : n < 900000) (hb : 0 < b) (hb2 : b < 1000000) : ∃ (d : Nat) (t' : List PyData), d < b ∧ TinOk (n + 1) t' ∧ den_take [.bl t, .fz (intM b)] = .ok (.fz (intM d), [.bl t', .fz (intM b)]) := by
  obtain ⟨a, s, c, rfl, ha, hc, hcn⟩ := h
  obtain ⟨d, a', c', e, d1, d2, a1, c1⟩ := take_ev a s c (b : Int) ha (by omega) (by omega) hc (by omega)
  obtain ⟨k, rfl⟩ := Int.eq_ofNat_of_zero_le d1
  refine ⟨k, tinD a' s c', by omega, ⟨a', s, c', rfl, a1, ?_, ?_⟩, e⟩
  · rcases c1 with rfl | rfl <;> omega
  · rcases c1 with rfl | rfl <;> omega
theorem take_at {ρ : Ev} {n b : Nat} {t : List PyData} {fb : Dn Rv} (h0 : ρ[0]? = some (.bl t)) (h : TinOk n t) (hn : n < 900000) (hb : 0 < b) (hb2 : b < 1000000) (hf : fb ρ = .ok (.fz (intM b), ρ)) :
    ∃ (d : Nat) (t' : List PyData), d < b ∧ TinOk (n + 1) t' ∧ frz (dFn den_take (aLend 0 (aCons fb aNil))) ρ = .ok (intM d, ρ.set 0 (.bl t')) := by
  obtain ⟨d, t', h1, h2, h3⟩ := take_n h hn hb hb2
  refine ⟨d, t', h1, h2, frzF ?_⟩
  have ha : (aLend 0 (aCons fb aNil)) ρ = .ok ([.sl 0, .fz (intM b)], ρ) := ev_lendB h0 (ev_aconsF hf rfl)
  have e := ev_fnL (ρ := ρ) (k := 0) (i := 0) ha rfl (es := [.bl t, .fz (intM b)]) (by show [enSl ρ[0]?, En.fz (intM b)] = _; rw [h0]; rfl) h3
  refine e.trans ?_
  show Rs.ok (_, ρ.set 0 (reKind ρ[0]? t')) = _
  rw [h0]
  rfl
end K15

/-! E27: picks, families drawn. -/
namespace K15
open PySem PySem.Spec L2 Gx M10
open PyProof.Rows hiding St
theorem ev_lend {den : Den} {f : Dn (List Ar)} {ρ ρ1 : Ev} {as : List Ar} {t1 t2 : List PyData} {es rest : List En} {r : Rv} (h0 : f ρ = .ok (.sl 0 :: as, ρ1)) (hl : lent as = some none) (ht : ρ1[0]? = some (.bl t1)) (he : as.map (Ar.en ρ1) = es) (h3 : den (.bl t1 :: es) = .ok (r, .bl t2 :: rest)) : dFn den f ρ = .ok (r, ρ1.set 0 (.bl t2)) := by
  have l1 : lent (.sl 0 :: as) = some (some (0, 0)) := by
    show (match lent as with
      | some none => some (some (0, 0))
      | _ => none) = _
    rw [hl]
  have e := ev_fnL (ρ := ρ) (k := 0) (i := 0) h0 l1 (es := .bl t1 :: es) (by
    show enSl ρ1[0]? :: as.map (Ar.en ρ1) = _
    rw [ht, he]
    rfl) h3
  refine e.trans ?_
  show Rs.ok (_, ρ1.set 0 (reKind ρ1[0]? t2)) = _
  rw [ht]
  rfl
theorem small_n {n : Nat} (h : n < 1000000) : small62 (n : Int) = true := by
  unfold small62
  rw [Bool.and_eq_true]
  exact ⟨decide_eq_true (by omega), decide_eq_true (by omega)⟩
theorem rg1_n {n : Nat} (h : n < 1000000) : rg1 [intM n] = some (rgD 0 n) := by
  unfold intM rg1
  simp only [small_n h, if_true]
  rw [Int.toNat_natCast]
theorem ev_popAt {i j : Nat} {f : Dn PyData} {ρ ρ1 : Ev} {n : Int} {x : PyData} {xs : List PyData} (h0 : (ownOf ρ[i]?).isSome = true) (h1 : f ρ = .ok (.int n, ρ1)) (h2 : ownOf ρ1[i]? = some xs) (h3 : small62 n = true) (h4 : seqIndex? n xs.length = some j) (h5 : xs[j]? = some x) :
    dPopAt i f ρ = .ok (x, ρ1.set i (reKind ρ1[i]? (xs.eraseIdx j))) := by
  unfold dPopAt
  rw [if_pos h0]
  refine ev_bnd h1 ?_
  simp only [h2, h3, h4, h5, if_true]
def pE (t xs : List PyData) (cnt : Nat) (e3 : En) (pool found : List PyData) : Ev := [.bl t, .fz (.list xs), .fz (intM cnt), e3, .ol pool, .ol found]
abbrev pTake : Dn PyData := frz (dFn (den_take) (aLend 0 (aCons (ofD (dLenP 4)) aNil)))
abbrev pBody : Dn Fl := sApp 5 (dPopAt 4 pTake)
theorem p_body {n : Nat} {t xs pool found : List PyData} {cnt : Nat} {e3 : En} (h : TinOk n t) (hn : n < 900000) (hp : 0 < pool.length) (hp2 : pool.length < 10000) (hf : found.length < 10000) :
    ∃ (d : Nat) (x : PyData) (t' : List PyData), pool[d]? = some x ∧ TinOk (n + 1) t' ∧ pBody (pE t xs cnt e3 pool found) = .ok (.nx, pE t' xs cnt e3 (pool.eraseIdx d) (found ++ [x])) := by
  obtain ⟨d, t', h1, h2, h3⟩ := take_at (ρ := pE t xs cnt e3 pool found) (n := n) (b := pool.length) (fb := ofD (dLenP 4)) rfl h hn hp (by omega) rfl
  have hx : pool[d]? = some pool[d] := List.getElem?_eq_getElem h1
  refine ⟨d, pool[d], t', hx, h2, ?_⟩
  have q : dPopAt 4 pTake (pE t xs cnt e3 pool found) = .ok (pool[d], pE t' xs cnt e3 (pool.eraseIdx d) found) := by
    have s1 : small62 (d : Int) = true := small_n (by omega)
    have s2 : seqIndex? (d : Int) pool.length = some d := by
      unfold seqIndex?
      simp
      omega
    exact (ev_popAt (i := 4) (f := pTake) (ρ := pE t xs cnt e3 pool found) (ρ1 := pE t' xs cnt e3 pool found) (xs := pool) rfl h3 rfl s1 s2 hx).trans rfl
  exact (ev_appS (i := 5) (f := dPopAt 4 pTake) (ρ := pE t xs cnt e3 pool found) (ρ1 := pE t' xs cnt e3 (pool.eraseIdx d) found) (d := pool[d]) (xs := found) rfl q rfl (by omega)).trans rfl
theorem erase_perm {α : Type} : ∀ (l : List α) (d : Nat) (x : α), l[d]? = some x → (x :: l.eraseIdx d).Perm l
  | [], d, x, h => by simp at h
  | a :: l, 0, x, h => by
    simp at h
    subst h
    exact .refl _
  | a :: l, d + 1, x, h => by
    have ih := erase_perm l d x (by simpa using h)
    simp only [List.eraseIdx_cons_succ]
    exact (List.Perm.swap ..).trans (ih.cons a)
theorem p_loop {xs : List PyData} {cnt : Nat} : ∀ (l : List PyData) (n : Nat) (t pool found : List PyData) (e3 : En), TinOk n t → n + l.length < 900000 → l.length ≤ pool.length → pool.length < 10000 → found.length + l.length < 10000 → okEn e3 →
    ∃ (t' pool' ys : List PyData) (e3' : En), loopF (hName 3) pBody l (pE t xs cnt e3 pool found) = .ok (.nx, pE t' xs cnt e3' pool' (found ++ ys)) ∧ TinOk (n + l.length) t' ∧ ys.length = l.length ∧ (ys ++ pool').Perm pool
  | [], n, t, pool, found, e3, h, _, _, _, _, _ => ⟨t, pool, [], e3, by simp [loopF], h, rfl, .refl _⟩
  | x :: l, n, t, pool, found, e3, h, hn, hl, hp, hf, he => by
    simp only [List.length_cons] at hn hl hf
    obtain ⟨d, y, t1, h1, h2, h3⟩ := p_body (xs := xs) (cnt := cnt) (pool := pool) (found := found) (e3 := .fz x) h (by omega) (by omega) hp (by omega)
    have hd : d < pool.length := (List.getElem?_eq_some_iff.mp h1).1
    have pe := erase_perm pool d y h1
    have le : (pool.eraseIdx d).length = pool.length - 1 := List.length_eraseIdx_of_lt hd
    obtain ⟨t', pool', ys, e3', k1, k2, k3, k4⟩ := p_loop l (n + 1) t1 (pool.eraseIdx d) (found ++ [y]) (.fz x) h2 (by omega) (by omega) (by omega) (by simp; omega) (.inr ⟨x, rfl⟩)
    refine ⟨t', pool', y :: ys, e3', ?_, by rw [List.length_cons, show n + (l.length + 1) = n + 1 + l.length by omega]; exact k2, by simp [k3], ?_⟩
    · have n1 : hName 3 x (pE t xs cnt e3 pool found) = some (pE t xs cnt (.fz x) pool found) := by
        rcases he with rfl | ⟨z, rfl⟩ <;> rfl
      unfold loopF
      simp only [n1, h3]
      rw [List.append_assoc] at k1
      exact k1
    · exact (k4.cons y).trans pe
theorem pick_ev {n : Nat} {t xs : List PyData} {cnt : Nat} (h : TinOk n t) (hn : n + xs.length < 900000) (hx : xs.length < 1000) (hc : cnt < 1000) :
    ∃ (t' ys rest : List PyData) (es : List En), den_pick [.bl t, .fz (.list xs), .fz (intM cnt)] = .ok (.ol ys, .bl t' :: es) ∧ TinOk (n + xs.length) t' ∧ ys.length = min cnt xs.length ∧ (ys ++ rest).Perm xs := by
  obtain ⟨t', pool', ys, e3, k1, k2, k3, k4⟩ := p_loop (xs := xs) (cnt := cnt) (rgD 0 (min cnt xs.length)) n t xs [] .no h (by simp [rgD]; omega) (by simp [rgD]; omega) (by omega) (by simp [rgD]; omega) (.inl rfl)
  have hlen : (rgD 0 (min cnt xs.length)).length = min cnt xs.length := by simp [rgD]
  rw [hlen] at k2 k3
  obtain ⟨a, s, c, e, h1, h2, h3⟩ := k2
  refine ⟨t', ys, pool', [.fz (.list xs), .fz (intM cnt)], ?_, ⟨a, s, c, e, h1, h2, by omega⟩, k3, k4⟩
  have it : iRg1 (dCons (frz (dCall minD (dCons (frz (dCall intD (dCons (dName 2) dNil))) (dCons (dLenP 4) dNil)))) dNil) (pE t xs cnt .no xs []) = .ok (rgD 0 (min cnt xs.length), pE t xs cnt .no xs []) := by
    have m : minD [intM cnt, .int xs.length] = some (.fz (intM (min cnt xs.length))) := by
      show fI (if (xs.length : Int) < (cnt : Int) then (xs.length : Int) else (cnt : Int)) = _
      by_cases c : xs.length < cnt
      · rw [if_pos (by omega), Nat.min_eq_right (by omega)]
        rfl
      · rw [if_neg (by omega), Nat.min_eq_left (by omega)]
        rfl
    have m2 : (frz (dCall minD (dCons (frz (dCall intD (dCons (dName 2) dNil))) (dCons (dLenP 4) dNil)))) (pE t xs cnt .no xs []) = .ok (intM (min cnt xs.length), pE t xs cnt .no xs []) := frzF (ev_call (xs := [intM cnt, .int xs.length]) rfl m)
    refine ev_bnd (ev_cons m2 rfl) (ev_lft ?_)
    exact rg1_n (by omega)
  have s0 : (sParA 4 5 (aCons (dCall listD (dCons (dName 1) dNil)) (aCons (dLst dNil) aNil))) [.bl t, .fz (.list xs), .fz (intM cnt), .no, .no, .no] = .ok (.nx, pE t xs cnt .no xs []) := rfl
  refine Eq.trans (ev_run (n := 3) (N := 6) (as := [.bl t, .fz (.list xs), .fz (intM cnt)]) (r := .ol ys) (ρ1 := (pE t' xs cnt e3 pool' ys).set 5 .no) ?_) rfl
  exact ev_seq s0 (ev_seq (ρ1 := pE t' xs cnt e3 pool' ys) (ev_bnd it k1) (ev_ret rfl))
end K15

/-! E28: homes and families drawn; pairs. -/
namespace K15
open PySem PySem.Spec L2 Gx M10
open PyProof.Rows hiding St
theorem TinOk.mono {n m : Nat} {t : List PyData} (h : TinOk n t) (q : n ≤ m) : TinOk m t := by
  obtain ⟨a, s, c, e, h1, h2, h3⟩ := h
  exact ⟨a, s, c, e, h1, h2, by omega⟩
theorem addD_n (k d : Nat) : addD (.int (k : Int)) (intM d) = some (.fz (intM (k + d))) := by
  show some (Rv.fz (.int ((k : Int) + (d : Int)))) = some (Rv.fz (.int ((k + d : Nat) : Int)))
  rw [Int.natCast_add]
theorem set0 {ρ : Ev} {a b : En} : (ρ.set 0 a).set 0 b = ρ.set 0 b := by simp
theorem get0 {ρ : Ev} {a b : En} (h : ρ[0]? = some a) : (ρ.set 0 b)[0]? = some b := by
  have : 0 < ρ.length := by
    cases ρ with
    | nil => simp at h
    | cons _ _ => simp
  rw [List.getElem?_set_self this]
/-- k + take(b) -/
theorem more_at {ρ : Ev} {n b k : Nat} {t : List PyData} {fb : Dn Rv} (h0 : ρ[0]? = some (.bl t)) (h : TinOk n t) (hn : n < 900000) (hb : 0 < b) (hb2 : b < 1000000) (hf : fb ρ = .ok (.fz (intM b), ρ)) :
    ∃ (d : Nat) (t' : List PyData), d < b ∧ TinOk (n + 1) t' ∧ frz (dBin addD (dC (.int (k : Int))) (frz (dFn den_take (aLend 0 (aCons fb aNil))))) ρ = .ok (intM (k + d), ρ.set 0 (.bl t')) := by
  obtain ⟨d, t', h1, h2, h3⟩ := take_at h0 h hn hb hb2 hf
  exact ⟨d, t', h1, h2, frzF (ev_bin rfl h3 (addD_n k d))⟩
def mkB (f : Nat → Bool) : Nat := (if f 0 then 1 else 0) + (if f 1 then 2 else 0) + (if f 2 then 4 else 0) + (if f 3 then 8 else 0) + (if f 4 then 16 else 0)
theorem bits_mk (f : Nat → Bool) : bits (mkB f) = (List.range 5).filter f := by
  unfold mkB
  show _ = ([0, 1, 2, 3, 4] : List Nat).filter f
  simp only [List.filter]
  cases f 0 <;> cases f 1 <;> cases f 2 <;> cases f 3 <;> cases f 4 <;> rfl
theorem mk_lt (f : Nat → Bool) : mkB f < 32 := by
  unfold mkB
  cases f 0 <;> cases f 1 <;> cases f 2 <;> cases f 3 <;> cases f 4 <;> decide
theorem sort_home {ps : List Nat} (nd : ps.Nodup) (hs : ∀ p ∈ ps, p < 5) : ∃ h, h < 32 ∧ pop h = ps.length ∧ sort2D [.list (ps.map intM)] = some (.ol ((bits h).map intM)) := by
  have pe : ((List.range 5).filter fun p => ps.contains p).Perm ps := (List.perm_ext_iff_of_nodup (List.nodup_range.sublist List.filter_sublist) nd).mpr fun p => by
    rw [List.mem_filter, List.mem_range, List.contains_iff_mem]
    exact ⟨fun z => z.2, fun z => ⟨hs p z, z⟩⟩
  refine ⟨mkB fun p => ps.contains p, mk_lt _, ?_, ?_⟩
  · unfold pop
    rw [bits_mk, pe.length_eq]
  · have len : ps.length ≤ 5 := by
      rw [← pe.length_eq]
      have := (List.filter_sublist (p := fun p => ps.contains p) (l := List.range 5)).length_le
      simpa using this
    show (match intsD (ps.map intM) with
      | some ns => if ns.length < 64 then some (Rv.ol ((srtI ns).map .int)) else none
      | none => (lotsD (ps.map intM)).map fun nss => Rv.ol ((srtL nss).map tupI)) = _
    rw [intsD_M]
    show (if (ps.map toI).length < 64 then some (Rv.ol ((srtI (ps.map toI)).map .int)) else none) = _
    rw [if_pos (by rw [List.length_map]; omega), bits_mk]
    have e : ((List.range 5).filter fun p => ps.contains p).map toI = srtI (ps.map toI) := by
      refine srtI_eq (List.pairwise_map.mpr ?_) (pe.map toI)
      have : (List.range 5).Pairwise (· < ·) := List.pairwise_lt_range
      exact (this.sublist List.filter_sublist).imp fun {a b} (q : a < b) => (by show (a : Int) ≤ (b : Int); omega)
    rw [← e, List.map_map]
    rfl
theorem pick_map {ι : Type} {u : ι → PyData} {l : List ι} {ys rest : List PyData} (h : (ys ++ rest).Perm (l.map u)) : ∃ ms r : List ι, ys = ms.map u ∧ (ms ++ r).Perm l := by
  obtain ⟨l', p, e⟩ := perm_map_ex h rfl
  refine ⟨l'.take ys.length, l'.drop ys.length, ?_, by rw [List.take_append_drop]; exact p⟩
  rw [List.map_take, ← e]
  simp
abbrev home : Dn Rv := dCall tupleD (dCons (frz (dCall sort2D (dCons (frz (dFn (den_pick) (aLend 0 (aCons (ofD (frz (dR1 (rg1X false) (dC (.int 5))))) (aCons (ofD (frz (dBin addD (dC (.int 2)) (frz (dFn (den_take) (aLend 0 (aCons (ofD (dC (.int 3))) aNil))))))) aNil))))) dNil))) dNil)
theorem home_at {ρ : Ev} {n : Nat} {t : List PyData} (h0 : ρ[0]? = some (.bl t)) (h : TinOk n t) (hn : n < 800000) : ∃ (m : Nat) (t' : List PyData), m < 32 ∧ 2 ≤ pop m ∧ pop m ≤ 4 ∧ TinOk (n + 6) t' ∧ home ρ = .ok (.fz (lotM m), ρ.set 0 (.bl t')) := by
  obtain ⟨d, t1, d1, d2, d3⟩ := more_at (k := 2) (b := 3) (fb := ofD (dC (.int 3))) h0 h (by omega) (by omega) (by omega) rfl
  obtain ⟨t2, ys, rest, es, k1, k2, k3, k4⟩ := pick_ev (xs := (List.range 5).map intM) (cnt := 2 + d) d2 (by simp; omega) (by simp) (by omega)
  obtain ⟨ps, r, e, pe⟩ := pick_map k4
  subst e
  have nd : ps.Nodup := (List.nodup_append.mp (pe.nodup_iff.mpr List.nodup_range)).1
  have hs : ∀ p ∈ ps, p < 5 := fun p hp => List.mem_range.mp (pe.mem_iff.mp (List.mem_append.mpr (.inl hp)))
  obtain ⟨m, m1, m2, m3⟩ := sort_home nd hs
  rw [List.length_map] at k3
  have hl : ps.length = 2 + d := by
    rw [k3]
    simp
    omega
  refine ⟨m, t2, m1, by omega, by omega, k2.mono (by simp), ?_⟩
  have ha : (aLend 0 (aCons (ofD (frz (dR1 (rg1X false) (dC (.int 5))))) (aCons (ofD (frz (dBin addD (dC (.int 2)) (frz (dFn (den_take) (aLend 0 (aCons (ofD (dC (.int 3))) aNil))))))) aNil))) ρ = .ok ([.sl 0, .fz (.list ((List.range 5).map intM)), .fz (intM (2 + d))], ρ.set 0 (.bl t1)) :=
    ev_lendB h0 (ev_aconsF rfl (ev_aconsF (ev_ofD d3) rfl))
  have hp := ev_lend ha rfl (get0 h0) (es := [.fz (.list ((List.range 5).map intM)), .fz (intM (2 + d))]) rfl k1
  rw [set0] at hp
  exact ev_call (ev_cons (frzL (ev_call (ev_cons (frzL hp) rfl) m3)) rfl) rfl
/-! families -/
structure KinOk (ks : List Nat) : Prop where
  can : Can ks
  ne : ks ≠ []
  len : ks.length ≤ 6
theorem KinOk.lt {ks : List Nat} (h : KinOk ks) : Lt ks := can_lt h.can
def cnt (h n : Nat) : List Nat := tl.filter fun m => sub m h && pop m == n
theorem c_kin : (List.range 32).all (fun h => (List.range 5).all fun n => n == 0 || decide (pop h < n) || decide (4 < pop h) || (FU (up (cnt h n)) == cnt h n && !(cnt h n).isEmpty && decide ((cnt h n).length ≤ 6))) = true := by decide +kernel
theorem cnt_ok {h n : Nat} (hh : h < 32) (h1 : 1 ≤ n) (h2 : n ≤ pop h) (h3 : pop h ≤ 4) : KinOk (cnt h n) := by
  have q := all2 c_kin hh (show n < 5 by omega)
  have a1 : (n == 0) = false := by simp; omega
  have a2 : decide (pop h < n) = false := decide_eq_false (by omega)
  have a3 : decide (4 < pop h) = false := decide_eq_false (by omega)
  rw [a1, a2, a3] at q
  simp only [Bool.false_or, Bool.and_eq_true, beq_iff_eq, decide_eq_true_eq, Bool.not_eq_true', List.isEmpty_eq_false_iff] at q
  exact ⟨q.1.1.symm, q.1.2, q.2⟩
theorem fu_ok {ms : List Nat} (h : Lt ms) (h0 : ms ≠ []) (hl : ms.length ≤ 6) : KinOk (FU (up ms)) := by
  refine ⟨can_FU ms, ?_, ?_⟩
  · obtain ⟨m, hm⟩ := List.exists_mem_of_ne_nil _ h0
    obtain ⟨k, k1, k2, k3⟩ := mn_below (U := up ms) m m (Nat.le_refl _) (h m hm) (up_iff.mpr ⟨m, hm, sub_self m⟩)
    exact List.ne_nil_of_mem (List.mem_filter.mpr ⟨tl_all k k1, k2⟩)
  · have := L2.nat_nodup_len (FU (up ms)) ms (tl_nodup.sublist List.filter_sublist) fun x hx => by
      rw [← least_FU h] at hx
      exact (mo_iff.mp (List.mem_filter.mp hx).2).1
    omega
theorem c_gt : (List.range 3).all (fun a => isR (gtD (intM a) (.int 0)) (.fz (.bool (a != 0)))) = true := by kernel_rfl
def goods (h : Nat) : List Nat := (tl.filter fun m => sub m h).filter fun m => m != 0
theorem goods_ne {h : Nat} (hh : h < 32) (h0 : 1 ≤ pop h) : goods h ≠ [] := by
  have z : h ≠ 0 := fun e => by subst e; exact absurd h0 (by decide)
  exact List.ne_nil_of_mem (List.mem_filter.mpr ⟨List.mem_filter.mpr ⟨tl_all h hh, sub_self h⟩, by simpa using z⟩)
theorem goods_len (h : Nat) : (goods h).length ≤ 32 := Nat.le_trans (List.filter_sublist.length_le) ((List.filter_sublist (p := fun m => sub m h) (l := tl)).length_le)
theorem kin_ev {n h : Nat} {t : List PyData} (hT : TinOk n t) (hn : n < 800000) (hh : h < 32) (h1 : 1 ≤ pop h) (h4 : pop h ≤ 4) :
    ∃ (ks : List Nat) (t' : List PyData) (es : List En), KinOk ks ∧ TinOk (n + 40) t' ∧ den_kin [.bl t, .fz (lotM h)] = .ok (.fz (famM ks), .bl t' :: es) := by
  have len1 : ∀ (t : List PyData) (e2 e3 e4 e5 : En), (ofD (dLenP 1)) [.bl t, .fz (lotM h), e2, e3, e4, e5] = .ok (.fz (intM (pop h)), [.bl t, .fz (lotM h), e2, e3, e4, e5]) := fun t e2 e3 e4 e5 => by
    show Rs.ok (Rv.fz (.int ((bits h).map intM).length), _) = Rs.ok (Rv.fz (.int ((bits h).length : Nat)), _)
    rw [List.length_map]
  obtain ⟨d1, t1, a1, a2, a3⟩ := take_at (ρ := [.bl t, .fz (lotM h), .no, .no, .no, .no]) (b := 3) (fb := ofD (dC (.int 3))) rfl hT (by omega) (by omega) (by omega) rfl
  obtain ⟨d2, t2, b1, b2, b3⟩ := more_at (ρ := [.bl t1, .fz (lotM h), .no, .no, .no, .no]) (k := 1) (b := pop h) (fb := ofD (dLenP 1)) rfl a2 (by omega) (by omega) (by have := pop_lt h; omega) (len1 ..)
  have s0 : (sPar [3, 4] (dCons (frz (dFn (den_take) (aLend 0 (aCons (ofD (dC (.int 3))) aNil)))) (dCons (frz (dBin addD (dC (.int 1)) (frz (dFn (den_take) (aLend 0 (aCons (ofD (dLenP 1)) aNil)))))) dNil))) [.bl t, .fz (lotM h), .no, .no, .no, .no] = .ok (.nx, [.bl t2, .fz (lotM h), .no, .fz (intM d1), .fz (intM (1 + d2)), .no]) :=
    ev_bnd (ev_cons a3 (ev_cons b3 rfl)) rfl
  have t0 : (dCmpT gtD (dName 3) (dC (.int 0))) [.bl t2, .fz (lotM h), .no, .fz (intM d1), .fz (intM (1 + d2)), .no] = .ok (d1 != 0, [.bl t2, .fz (lotM h), .no, .fz (intM d1), .fz (intM (1 + d2)), .no]) := ev_cmpT rfl rfl (isR_ok (all1 c_gt a1))
  by_cases z : d1 = 0
  · have s1 : (sIf (dCmpT gtD (dName 3) (dC (.int 0))) (sRet (dCall tupleD (dCons (frz (dFn (den_counted) (aCons (ofD (dName 1)) (aCons (ofD (dName 4)) aNil)))) dNil))) sNx) [.bl t2, .fz (lotM h), .no, .fz (intM d1), .fz (intM (1 + d2)), .no] = .ok (.nx, [.bl t2, .fz (lotM h), .no, .fz (intM d1), .fz (intM (1 + d2)), .no]) :=
      ev_if t0 (by rw [show (d1 != 0) = false by simp [z]]; rfl)
    have lots : (frz (dFn (den_lots) (aCons (ofD (dName 1)) aNil))) [.bl t2, .fz (lotM h), .no, .fz (intM d1), .fz (intM (1 + d2)), .no] = .ok (.list ((tl.filter fun m => sub m h).map lotM), [.bl t2, .fz (lotM h), .no, .fz (intM d1), .fz (intM (1 + d2)), .no]) :=
      frzL (gv_fn (as := [.fz (lotM h)]) rfl rfl rfl (isG_ok (all1 c_lots hh)))
    have ne0 : ∀ m, m < 32 → (dCmpT neD (dName 5) (dTup dNil)) [.bl t2, .fz (lotM h), .no, .fz (intM d1), .fz (intM (1 + d2)), .fz (lotM m)] = .ok (m != 0, [.bl t2, .fz (lotM h), .no, .fz (intM d1), .fz (intM (1 + d2)), .fz (lotM m)]) := fun m hm =>
      ev_cmpT (y := lotM 0) rfl rfl (isR_ok (all2 c_neL hm (by decide)))
    have fl : (tl.filter fun m => sub m h).length ≤ 32 := (List.filter_sublist (p := fun m => sub m h) (l := tl)).length_le
    have c := ev_comp1 (ρ := [.bl t2, .fz (lotM h), .no, .fz (intM d1), .fz (intM (1 + d2)), .no]) (ρ1 := [.bl t2, .fz (lotM h), .no, .fz (intM d1), .fz (intM (1 + d2)), .no]) (i := 5) (ft := dCmpT neD (dName 5) (dTup dNil)) (fe := dName 5) (ds := tl.filter fun m => sub m h) (u := lotM) (fun m => m != 0) lotM (ev_iseq lots rfl) rfl (fun m hm => ne0 m (tl_lt m (List.mem_filter.mp hm).1)) (fun _ _ _ => rfl) (by omega)
    have s2 : (sSet 2 (dComp (iSeq (frz (dFn (den_lots) (aCons (ofD (dName 1)) aNil)))) (hName 5) (dCmpT neD (dName 5) (dTup dNil)) (dName 5) [5])) [.bl t2, .fz (lotM h), .no, .fz (intM d1), .fz (intM (1 + d2)), .no] = .ok (.nx, [.bl t2, .fz (lotM h), .ol ((goods h).map lotM), .fz (intM d1), .fz (intM (1 + d2)), .no]) := ev_set c rfl
    obtain ⟨d3, t3, g1, g2, g3⟩ := more_at (ρ := [.bl t2, .fz (lotM h), .fz (.list ((goods h).map lotM)), .fz (intM d1), .fz (intM (1 + d2)), .no]) (k := 1) (b := 2) (fb := ofD (dC (.int 2))) rfl b2 (by omega) (by omega) (by omega) rfl
    have gl := goods_len h
    obtain ⟨t4, ys, rest, es, k1, k2, k3, k4⟩ := pick_ev (xs := (goods h).map lotM) (cnt := 1 + d3) g2 (by simp; omega) (by simp; omega) (by omega)
    obtain ⟨ms, r, e, pe⟩ := pick_map k4
    subst e
    rw [List.length_map, List.length_map] at k3
    have gn : 0 < (goods h).length := List.length_pos_iff.mpr (goods_ne hh h1)
    have mlt : Lt ms := fun m hm => tl_lt m (List.mem_filter.mp (List.mem_filter.mp (pe.mem_iff.mp (List.mem_append.mpr (.inl hm)))).1).1
    have mne : ms ≠ [] := by
      intro e
      rw [e] at k3
      simp at k3
      omega
    have ha : (aLend 0 (aCons (ofD (dName 2)) (aCons (ofD (frz (dBin addD (dC (.int 1)) (frz (dFn (den_take) (aLend 0 (aCons (ofD (dC (.int 2))) aNil))))))) aNil))) [.bl t2, .fz (lotM h), .ol ((goods h).map lotM), .fz (intM d1), .fz (intM (1 + d2)), .no] = .ok ([.sl 0, .fz (.list ((goods h).map lotM)), .fz (intM (1 + d3))], [.bl t3, .fz (lotM h), .fz (.list ((goods h).map lotM)), .fz (intM d1), .fz (intM (1 + d2)), .no]) :=
      ev_lendB (ρ := [.bl t2, .fz (lotM h), .ol ((goods h).map lotM), .fz (intM d1), .fz (intM (1 + d2)), .no]) rfl (ev_aconsF (ρ1 := [.bl t2, .fz (lotM h), .fz (.list ((goods h).map lotM)), .fz (intM d1), .fz (intM (1 + d2)), .no]) rfl (ev_aconsF (ev_ofD g3) rfl))
    have hp := ev_lend ha rfl rfl (es := [.fz (.list ((goods h).map lotM)), .fz (intM (1 + d3))]) rfl k1
    have s3 := gv_fn (den := den_least) (as := [.fz (.list (ms.map lotM))]) (ρ1 := [.bl t4, .fz (lotM h), .fz (.list ((goods h).map lotM)), .fz (intM d1), .fz (intM (1 + d2)), .no]) (ev_aconsF (g := aNil) (ev_ofD (frzL hp)) rfl) rfl rfl (least_ev (.inl rfl) mlt (by omega))
    refine ⟨FU (up ms), t4, [.fz (lotM h)], fu_ok mlt mne (by omega), k2.mono (by simp; omega), ?_⟩
    exact Eq.trans (ev_run (n := 2) (N := 6) (as := [.bl t, .fz (lotM h)]) (ev_seq s0 (ev_seq s1 (ev_seq s2 (ev_ret s3))))) rfl
  · have cn : (frz (dFn (den_counted) (aCons (ofD (dName 1)) (aCons (ofD (dName 4)) aNil)))) [.bl t2, .fz (lotM h), .no, .fz (intM d1), .fz (intM (1 + d2)), .no] = .ok (.list ((cnt h (1 + d2)).map lotM), [.bl t2, .fz (lotM h), .no, .fz (intM d1), .fz (intM (1 + d2)), .no]) :=
      frzL (gv_fn (as := [.fz (lotM h), .fz (intM (1 + d2))]) rfl rfl rfl (isG_ok (all2 c_counted hh (by omega))))
    have s1 : (sIf (dCmpT gtD (dName 3) (dC (.int 0))) (sRet (dCall tupleD (dCons (frz (dFn (den_counted) (aCons (ofD (dName 1)) (aCons (ofD (dName 4)) aNil)))) dNil))) sNx) [.bl t2, .fz (lotM h), .no, .fz (intM d1), .fz (intM (1 + d2)), .no] = .ok (.rt (.fz (famM (cnt h (1 + d2)))), [.bl t2, .fz (lotM h), .no, .fz (intM d1), .fz (intM (1 + d2)), .no]) :=
      ev_if t0 (by rw [show (d1 != 0) = true by simp [z]]; exact ev_ret (ev_call (ev_cons cn rfl) rfl))
    refine ⟨cnt h (1 + d2), t2, [.fz (lotM h)], cnt_ok hh (by omega) (by omega) h4, b2.mono (by omega), ?_⟩
    exact Eq.trans (ev_run (n := 2) (N := 6) (as := [.bl t, .fz (lotM h)]) (ev_seq s0 (ev_seqR s1))) rfl
theorem kin_at {ρ : Ev} {n h i : Nat} {t : List PyData} (h0 : ρ[0]? = some (.bl t)) (hi : dName i ρ = .ok (lotM h, ρ)) (hT : TinOk n t) (hn : n < 800000) (hh : h < 32) (h1 : 1 ≤ pop h) (h4 : pop h ≤ 4) :
    ∃ (ks : List Nat) (t' : List PyData), KinOk ks ∧ TinOk (n + 40) t' ∧ frz (dFn den_kin (aLend 0 (aCons (ofD (dName i)) aNil))) ρ = .ok (famM ks, ρ.set 0 (.bl t')) := by
  obtain ⟨ks, t', es, k1, k2, k3⟩ := kin_ev hT hn hh h1 h4
  exact ⟨ks, t', k1, k2, frzF (ev_lend (ρ1 := ρ) (as := [.fz (lotM h)]) (ev_lendB h0 (ev_aconsF (ev_ofD hi) rfl)) rfl h0 (es := [.fz (lotM h)]) rfl k3)⟩
end K15

/-! E33: loops by what holds behind the ones gone through; comprehensions over any target. -/
namespace Gx
open PySem PySem.Spec L2
open PyProof.Rows hiding St
section
variable {ρ ρ1 ρw : Ev}
theorem compG {ι : Type} {u : ι → PyData} {h : PyData → Ev → Option Ev} {ft : Dn Bool} {fe : Dn PyData} {vs : List Nat} {p : ι → Bool} {g : ι → PyData} {E1 : ι → Ev} (hh : ∀ d, h (u d) ρw = some (E1 d)) (hw2 : ∀ d, wipeE (E1 d) vs = ρw) : ∀ (ds : List ι) (acc : List PyData), (∀ d ∈ ds, ft (E1 d) = .ok (p d, E1 d)) → (∀ d ∈ ds, p d = true → fe (E1 d) = .ok (g d, E1 d)) → acc.length + ds.length ≤ 16777216 →
    compL h ft fe vs (ds.map u) acc ρw = .ok (acc ++ (ds.filter p).map g, ρw)
  | [], acc, _, _, _ => by simp [compL]
  | d :: ds, acc, ht, he, hl => by
    have t := ht d (by simp)
    simp only [List.length_cons] at hl
    rw [List.map_cons]
    unfold compL
    simp only [hh d, t]
    cases hp : p d with
    | true =>
      have e := he d (by simp) hp
      have ok : okLen (acc.length + 1) = true := decide_eq_true (by omega)
      simp only [e, ok, if_true, hw2 d]
      rw [compG hh hw2 ds (acc ++ [g d]) (fun x hx => ht x (by simp [hx])) (fun x hx => he x (by simp [hx])) (by simp; omega)]
      simp [hp]
    | false =>
      simp only [hw2 d]
      rw [compG hh hw2 ds acc (fun x hx => ht x (by simp [hx])) (fun x hx => he x (by simp [hx])) (by omega)]
      simp [hp]
/-- [fe for TARGET in fi if ft], where the target and what it wipes are told -/
theorem ev_compG {ι : Type} {u : ι → PyData} {h : PyData → Ev → Option Ev} {ft : Dn Bool} {fe : Dn PyData} {fi : Dn (List PyData)} {vs : List Nat} {ds : List ι} (p : ι → Bool) (g : ι → PyData) (E1 : ι → Ev) (h0 : fi ρ = .ok (ds.map u, ρ1)) (hv : (vs.all fun v => !isBl ρ1[v]?) = true) (hw : wipeE ρ1 vs = ρw)
    (hh : ∀ d, h (u d) ρw = some (E1 d)) (hw2 : ∀ d, wipeE (E1 d) vs = ρw) (hr : restE ρ1 ρw vs = ρ1) (ht : ∀ d ∈ ds, ft (E1 d) = .ok (p d, E1 d)) (he : ∀ d ∈ ds, p d = true → fe (E1 d) = .ok (g d, E1 d)) (hl : ds.length ≤ 16777216) : dComp fi h ft fe vs ρ = .ok (.ol ((ds.filter p).map g), ρ1) := by
  refine ev_bnd h0 ?_
  rw [if_pos hv, hw, compG hh hw2 ds [] ht he (by simpa using hl)]
  simp [hr]
/-- a loop that may end with an answer -/
theorem ev_loopX {ι : Type} {u : ι → PyData} {h : PyData → Ev → Option Ev} {fb : Dn Fl} (I : List ι → Ev → Prop) (R : Rv → Prop) : ∀ (post pre : List ι) (ρ : Ev), (∀ pr d po, pre ++ post = pr ++ d :: po → ∀ σ, I pr σ → ∃ σ1 σ2, h (u d) σ = some σ1 ∧ ((fb σ1 = .ok (.nx, σ2) ∧ I (pr ++ [d]) σ2) ∨ ∃ r, fb σ1 = .ok (.rt r, σ2) ∧ R r)) → I pre ρ →
    ∃ ρ', (loopF h fb (post.map u) ρ = .ok (.nx, ρ') ∧ I (pre ++ post) ρ') ∨ ∃ r, loopF h fb (post.map u) ρ = .ok (.rt r, ρ') ∧ R r
  | [], pre, ρ, _, hi => ⟨ρ, .inl ⟨rfl, by simpa using hi⟩⟩
  | d :: post, pre, ρ, step, hi => by
    obtain ⟨σ1, σ2, e1, k⟩ := step pre d post rfl ρ hi
    rcases k with ⟨e2, i2⟩ | ⟨r, e2, hr⟩
    · obtain ⟨ρ', q⟩ := ev_loopX I R post (pre ++ [d]) σ2 (fun pr x po e => step pr x po (by rw [← e]; simp)) i2
      have e : loopF h fb ((d :: post).map u) ρ = loopF h fb (post.map u) σ2 := by
        rw [List.map_cons]
        conv => lhs; unfold loopF
        simp only [e1, e2]
      refine ⟨ρ', ?_⟩
      rw [e]
      simpa using q
    · refine ⟨σ2, .inr ⟨r, ?_, hr⟩⟩
      rw [List.map_cons]
      unfold loopF
      simp only [e1, e2]
/-- a loop without an answer -/
theorem ev_loopI {ι : Type} {u : ι → PyData} {h : PyData → Ev → Option Ev} {fb : Dn Fl} (I : List ι → Ev → Prop) (ds : List ι) (ρ : Ev) (step : ∀ pr d po, ds = pr ++ d :: po → ∀ σ, I pr σ → ∃ σ1 σ2, h (u d) σ = some σ1 ∧ fb σ1 = .ok (.nx, σ2) ∧ I (pr ++ [d]) σ2) (hi : I [] ρ) : ∃ ρ', loopF h fb (ds.map u) ρ = .ok (.nx, ρ') ∧ I ds ρ' := by
  obtain ⟨ρ', q⟩ := ev_loopX (u := u) (h := h) (fb := fb) I (fun _ => False) ds [] ρ (fun pr d po e σ i => by
    obtain ⟨σ1, σ2, e1, e2, i2⟩ := step pr d po (by simpa using e) σ i
    exact ⟨σ1, σ2, e1, .inl ⟨e2, i2⟩⟩) hi
  rcases q with q | ⟨_, _, z⟩
  · exact ⟨ρ', by simpa using q⟩
  · exact z.elim
/-- an item by a number from the front -/
theorem enum_rng {α : Type} (f : α → PyData) (z : α) : ∀ (xs : List α) (n : Nat), enumD n (xs.map f) = (List.range xs.length).map fun k => .tuple [.int ((n + k : Nat) : Int), f (xs.getD k z)]
  | [], n => rfl
  | x :: xs, n => by
    rw [List.map_cons, List.length_cons, List.range_succ_eq_map, List.map_cons, List.map_map]
    show PyData.tuple [.int (n : Nat), f x] :: enumD (n + 1) (xs.map f) = _
    rw [enum_rng f z xs (n + 1)]
    congr 1
    refine List.map_congr_left fun k _ => ?_
    show _ = PyData.tuple [.int ((n + (k + 1) : Nat) : Int), f ((x :: xs).getD (k + 1) z)]
    rw [show n + 1 + k = n + (k + 1) by omega]
    rfl
end
end Gx

/-! A1: deeds as data, and what one deed comes to. -/
namespace K15
open PySem PySem.Spec L2 Gx M10
open PyProof.Rows hiding St
theorem at_n {α : Type} {xs : List α} {k : Nat} (h : k < xs.length) : atI xs (k : Int) = xs[k]? := by
  unfold atI ixN
  rw [if_pos (by omega), if_pos (by omega)]
  simp
theorem at_last {α : Type} {xs : List α} {x : α} : atI (xs ++ [x]) (-1) = some x := by
  have l : (xs ++ [x]).length = xs.length + 1 := by simp
  unfold atI ixN
  rw [if_neg (by omega), if_pos (by omega)]
  show (xs ++ [x])[(-1 + ((xs ++ [x]).length : Int)).toNat]? = some x
  have e : (-1 + ((xs ++ [x]).length : Int)).toNat = xs.length := by omega
  rw [e]
  simp
inductive Dd where
  | wr (w : Bool) (t r : Int) (h : Nat) (ks : List Nat)
  | wait (t : Int)
  | lose (t : Int) (p : Nat)
  | cp (c : Bool) (t : Int) (p q : Nat)
def Dd.d : Dd → PyData
  | .wr false t r h ks => .tuple [.str "put", .int t, .int r, lotM h, famM ks]
  | .wr true t r h ks => .tuple [.str "strike", .int t, .int r, lotM h, famM ks]
  | .wait t => .tuple [.str "wait", .int t]
  | .lose t p => .tuple [.str "lose", .int t, intM p]
  | .cp true t p q => .tuple [.str "copy", .int t, intM p, intM q]
  | .cp false t p q => .tuple [.str "send", .int t, intM p, intM q]
def Dd.ok : Dd → Prop
  | .wr _ _ r h ks => 1 ≤ r ∧ h < 8 ∧ (∀ k ∈ ks, k < 8) ∧ ks.length ≤ 100
  | .wait _ => True
  | .lose _ p => p < 3
  | .cp _ _ p q => p < 3 ∧ q < 3
def Dd.isW : Dd → Bool
  | .wr .. => true
  | _ => false
def Dd.rk : Dd → Int
  | .wr _ _ r _ _ => r
  | _ => 0
def Dd.hm : Dd → Nat
  | .wr _ _ _ h _ => h
  | _ => 0
def Dd.fam : Dd → List Nat
  | .wr _ _ _ _ ks => ks
  | _ => []
def Dd.to : Dd → Nat
  | .cp _ _ _ q => q
  | _ => 0
/-- what is held ahead of a deed, if m is held behind it -/
def Dd.ah : Dd → Nat → Nat
  | .cp true _ p q, m => if has m q then m ||| 1 <<< p else m
  | .lose _ p, m => if has m p then m - 1 <<< p else m
  | _, m => m
where has (m p : Nat) : Bool := m >>> p &&& 1 == 1
def has (m p : Nat) : Bool := m >>> p &&& 1 == 1
theorem isw (d : Dd) : Gv den_is_write [.fz d.d] (.fz (.bool d.isW)) := by
  rcases d with ⟨_ | _, t, r, h, ks⟩ | t | ⟨t, p⟩ | ⟨_ | _, t, p, q⟩ <;> exact isG_ok (by kernel_rfl)
theorem law_isw (d : Dd) : Gv den_law_is_write [.fz d.d] (.fz (.bool d.isW)) := by
  rcases d with ⟨_ | _, t, r, h, ks⟩ | t | ⟨t, p⟩ | ⟨_ | _, t, p, q⟩ <;> exact isG_ok (by kernel_rfl)
theorem c_has : (List.range 8).all (fun m => (List.range 3).all fun p => isG (den_has_place [.fz (intM m), .fz (intM p)]) (.fz (.bool (has m p)))) = true := by kernel_rfl
theorem c_ahc (t : Int) : (List.range 8).all (fun m => (List.range 3).all fun p => (List.range 3).all fun q => isG (den_mask_ahead [.fz (Dd.cp true t p q).d, .fz (intM m)]) (.fz (intM ((Dd.cp true t p q).ah m)))) = true := by kernel_rfl
theorem c_ahs (t : Int) : (List.range 8).all (fun m => (List.range 3).all fun p => (List.range 3).all fun q => isG (den_mask_ahead [.fz (Dd.cp false t p q).d, .fz (intM m)]) (.fz (intM ((Dd.cp false t p q).ah m)))) = true := by kernel_rfl
theorem c_ahl (t : Int) : (List.range 8).all (fun m => (List.range 3).all fun p => isG (den_mask_ahead [.fz (Dd.lose t p).d, .fz (intM m)]) (.fz (intM ((Dd.lose t p).ah m)))) = true := by kernel_rfl
theorem c_ahw (t : Int) : (List.range 8).all (fun m => isG (den_mask_ahead [.fz (Dd.wait t).d, .fz (intM m)]) (.fz (intM m))) = true := by kernel_rfl
theorem c_ahp (t r : Int) (h : Nat) (ks : List Nat) (w : Bool) : (List.range 8).all (fun m => isG (den_mask_ahead [.fz (Dd.wr w t r h ks).d, .fz (intM m)]) (.fz (intM m))) = true := by cases w <;> kernel_rfl
theorem ahead (d : Dd) (ok : d.ok) {m : Nat} (hm : m < 8) : Gv den_mask_ahead [.fz d.d, .fz (intM m)] (.fz (intM (d.ah m))) := by
  rcases d with ⟨w, t, r, h, ks⟩ | t | ⟨t, p⟩ | ⟨_ | _, t, p, q⟩
  · exact isG_ok (all1 (c_ahp t r h ks w) hm)
  · exact isG_ok (all1 (c_ahw t) hm)
  · exact isG_ok (all1 (all1 (c_ahl t) hm) (show p < 3 from ok))
  · obtain ⟨h1, h2⟩ : p < 3 ∧ q < 3 := ok
    exact isG_ok (all1 (all1 (all1 (c_ahs t) hm) h1) h2)
  · obtain ⟨h1, h2⟩ : p < 3 ∧ q < 3 := ok
    exact isG_ok (all1 (all1 (all1 (c_ahc t) hm) h1) h2)
theorem c_lt1 : (List.range 8).all (fun m => (List.range 3).all fun p => (List.range 3).all fun q => decide ((if has m q then m ||| 1 <<< p else m) < 8)) = true := by decide +kernel
theorem ah_lt (d : Dd) (ok : d.ok) {m : Nat} (hm : m < 8) : d.ah m < 8 := by
  rcases d with ⟨w, t, r, h, ks⟩ | t | ⟨t, p⟩ | ⟨_ | _, t, p, q⟩
  · exact hm
  · exact hm
  · show (if _ then _ else _) < 8
    split
    · exact Nat.lt_of_le_of_lt (Nat.sub_le _ _) hm
    · exact hm
  · exact hm
  · obtain ⟨h1, h2⟩ : p < 3 ∧ q < 3 := ok
    exact of_decide_eq_true (all1 (all1 (all1 c_lt1 hm) h1) h2)
/-! ### what is held at every hour -/
def tr : List Dd → Nat → List Nat
  | [], m => [m]
  | d :: ds, m => d.ah ((tr ds m).headD 0) :: tr ds m
def at0 (ds : List Dd) (m : Nat) : Nat := (tr ds m).headD 0
theorem tr_len (m : Nat) : ∀ ds : List Dd, (tr ds m).length = ds.length + 1
  | [] => rfl
  | d :: ds => by unfold tr; simp [tr_len m ds]
theorem tr_ne (ds : List Dd) (m : Nat) : tr ds m ≠ [] := by
  intro e
  have := tr_len m ds
  rw [e] at this
  simp at this
theorem tr_get (m : Nat) : ∀ (ds : List Dd) (k : Nat), k ≤ ds.length → (tr ds m)[k]? = some (at0 (ds.drop k) m)
  | ds, 0, _ => by
    cases ds with
    | nil => rfl
    | cons d ds => rfl
  | d :: ds, k + 1, h => by
    show (tr ds m)[k]? = _
    rw [tr_get m ds k (by simpa using h)]
    rfl
def Ok (ds : List Dd) : Prop := ∀ d ∈ ds, d.ok
theorem tr_lt {m : Nat} (hm : m < 8) : ∀ ds : List Dd, Ok ds → ∀ x ∈ tr ds m, x < 8
  | [], _, x, hx => by
    unfold tr at hx
    simp at hx
    omega
  | d :: ds, ok, x, hx => by
    have ih := tr_lt hm ds fun y hy => ok y (by simp [hy])
    unfold tr at hx
    rcases List.mem_cons.mp hx with rfl | hx
    · refine ah_lt d (ok d (by simp)) ?_
      cases e : tr ds m with
      | nil => exact absurd e (tr_ne ds m)
      | cons y ys => exact ih y (by rw [e]; simp)
    · exact ih x hx
theorem at0_lt {m : Nat} (hm : m < 8) {ds : List Dd} (ok : Ok ds) : at0 ds m < 8 := by
  unfold at0
  cases e : tr ds m with
  | nil => exact absurd e (tr_ne ds m)
  | cons y ys => exact tr_lt hm ds ok y (by rw [e]; simp)
theorem ok_drop {ds : List Dd} (ok : Ok ds) (k : Nat) : Ok (ds.drop k) := fun d hd => ok d (List.mem_of_mem_drop hd)
end K15

/-! A2: writes and offers. -/
namespace K15
open PySem PySem.Spec L2 Gx M10
open PyProof.Rows hiding St
def gd (ds : List Dd) (k : Nat) : Dd := ds.getD k (.wait 0)
def dsD (ds : List Dd) : PyData := .tuple (ds.map Dd.d)
def bkD (l : Int) (ds : List Dd) : PyData := .tuple [.int 3, .int l, dsD ds]
theorem gd_get {ds : List Dd} {k : Nat} (h : k < ds.length) : ds[k]? = some (gd ds k) := by
  unfold gd
  rw [List.getD_eq_getElem?_getD, List.getElem?_eq_getElem h]
  rfl
theorem gd_ok {ds : List Dd} (ok : Ok ds) {k : Nat} (h : k < ds.length) : (gd ds k).ok := ok _ (List.mem_of_getElem? (gd_get h))
theorem ds_at {ds : List Dd} {k : Nat} (h : k < ds.length) : atI (ds.map Dd.d) (k : Int) = some (gd ds k).d := by
  rw [at_n (by simpa using h), List.getElem?_map, gd_get h]
  rfl
theorem item_ds {ds : List Dd} {k : Nat} (h : k < ds.length) : itemE (some (.fz (dsD ds))) (intM k) = some (gd ds k).d := ds_at h
theorem ix_ds {ds : List Dd} {k : Nat} (h : k < ds.length) : ixD (dsD ds) (intM k) = some (.fz (gd ds k).d) := by
  show (atI (ds.map Dd.d) (k : Int)).map Rv.fz = _
  rw [ds_at h]
  rfl
theorem ix_rk {d : Dd} (h : d.isW = true) : ixD d.d (.int 2) = some (.fz (.int d.rk)) := by
  rcases d with ⟨_ | _, t, r, h, ks⟩ | t | ⟨t, p⟩ | ⟨_ | _, t, p, q⟩ <;> first | rfl | cases h
theorem ix_hm {d : Dd} (h : d.isW = true) : ixD d.d (.int 3) = some (.fz (lotM d.hm)) := by
  rcases d with ⟨_ | _, t, r, h, ks⟩ | t | ⟨t, p⟩ | ⟨_ | _, t, p, q⟩ <;> first | rfl | cases h
theorem ix_fam {d : Dd} (h : d.isW = true) : ixD d.d (.int 4) = some (.fz (famM d.fam)) := by
  rcases d with ⟨_ | _, t, r, h, ks⟩ | t | ⟨t, p⟩ | ⟨_ | _, t, p, q⟩ <;> first | rfl | cases h
theorem enum0 (ds : List Dd) : enumD 0 (ds.map Dd.d) = (List.range ds.length).map fun k => .tuple [intM k, (gd ds k).d] := by
  rw [enum_rng Dd.d (.wait 0)]
  refine List.map_congr_left fun k _ => ?_
  rw [Nat.zero_add]
  rfl
def wn (ds : List Dd) : List Nat := (List.range ds.length).filter fun k => (gd ds k).isW
theorem wn_lt {ds : List Dd} {k : Nat} (h : k ∈ wn ds) : k < ds.length ∧ (gd ds k).isW = true := by
  obtain ⟨h1, h2⟩ := List.mem_filter.mp h
  exact ⟨List.mem_range.mp h1, h2⟩
theorem wn_len (ds : List Dd) : (wn ds).length ≤ ds.length := by
  have := List.length_filter_le (fun k => (gd ds k).isW) (List.range ds.length)
  rw [List.length_range] at this
  exact this
theorem is_w {ρ : Ev} {d : Dd} (h : dName i ρ = .ok (d.d, ρ)) : (dTru (frz (dFn den_is_write (aCons (ofD (dName i)) aNil)))) ρ = .ok (d.isW, ρ) :=
  ev_bnd (frzF (gv_fn (as := [.fz d.d]) (ev_aconsF (ev_ofD h) rfl) rfl rfl (isw d))) (ev_lft rfl)
theorem is_lw {ρ : Ev} {d : Dd} (h : dName i ρ = .ok (d.d, ρ)) : (dTru (frz (dFn den_law_is_write (aCons (ofD (dName i)) aNil)))) ρ = .ok (d.isW, ρ) :=
  ev_bnd (frzF (gv_fn (as := [.fz d.d]) (ev_aconsF (ev_ofD h) rfl) rfl rfl (law_isw d))) (ev_lft rfl)
theorem wn_ev {ds : List Dd} (hl : ds.length ≤ 1000) : Gv den_write_numbers [.fz (dsD ds)] (.fz (.tuple ((wn ds).map intM))) := by
  have h0 : (iEnB (dCons (dName 0) dNil)) [.fz (dsD ds), .no, .no] = .ok ((List.range ds.length).map fun k => .tuple [intM k, (gd ds k).d], [.fz (dsD ds), .no, .no]) :=
    ev_bnd (ev_cons rfl ev_nil) (ev_lft (by show some (enumD 0 (ds.map Dd.d)) = _; rw [enum0]))
  exact gv_run ⟨_, ev_ret (ev_call (ev_cons (frzL (ev_compG (fun k => (gd ds k).isW) intM (fun k => [.fz (dsD ds), .fz (intM k), .fz (gd ds k).d]) (ρw := [.fz (dsD ds), .no, .no]) h0 rfl rfl (fun k => rfl) (fun _ => rfl) rfl (fun k _ => is_w rfl) (fun k _ _ => rfl) (by rw [List.length_range]; omega))) ev_nil) rfl)⟩
/-- the writes from version r on -/
def wf (ds : List Dd) (r : Int) : List Nat := (wn ds).filter fun k => decide (r ≤ (gd ds k).rk)
theorem wf_mem {ds : List Dd} {r : Int} {k : Nat} (h : k ∈ wf ds r) : k ∈ wn ds := (List.mem_filter.mp h).1
theorem wf_len (ds : List Dd) (r : Int) : (wf ds r).length ≤ ds.length := Nat.le_trans (List.length_filter_le _ _) (wn_len ds)
theorem wf_ev {ds : List Dd} (hl : ds.length ≤ 1000) (r : Int) : Gv den_writes_from [.fz (dsD ds), .fz (.int r)] (.fz (.tuple ((wf ds r).map intM))) := by
  have h0 : (iSeq (frz (dFn (den_write_numbers) (aCons (ofD (dName 0)) aNil)))) [.fz (dsD ds), .fz (.int r), .no] = .ok ((wn ds).map intM, [.fz (dsD ds), .fz (.int r), .no]) :=
    ev_iseq (frzF (gv_fn (as := [.fz (dsD ds)]) rfl rfl rfl (wn_ev hl))) rfl
  refine gv_run ⟨_, ev_ret (ev_call (ev_cons (frzL (ev_comp1 (fun k => decide (r ≤ (gd ds k).rk)) intM h0 rfl (fun k hk => ?_) (fun k _ _ => rfl) (Nat.le_trans (wn_len ds) (by omega)))) ev_nil) rfl)⟩
  obtain ⟨k1, k2⟩ := wn_lt hk
  exact ev_cmpT (frzF (ev_bin (ev_peek rfl rfl (item_ds k1)) rfl (ix_rk k2))) rfl rfl
def offM (ds : List Dd) (k : Nat) : PyData := .tuple [intM k, .list ((gd ds k).fam.map intM)]
theorem ok_fam {d : Dd} (ok : d.ok) : (∀ k ∈ d.fam, k < 8) ∧ d.fam.length ≤ 100 := by
  rcases d with ⟨w, t, r, h, ks⟩ | t | ⟨t, p⟩ | ⟨w, t, p, q⟩
  · exact ⟨ok.2.2.1, ok.2.2.2⟩
  all_goals exact ⟨fun k hk => by simp [Dd.fam] at hk, by simp [Dd.fam]⟩
theorem lt_fam {d : Dd} (ok : d.ok) : Lt d.fam := fun m hm => Nat.lt_trans ((ok_fam ok).1 m hm) (by decide)
theorem off_ev {ds : List Dd} (hl : ds.length ≤ 1000) (ok : Ok ds) (r : Int) : Gv den_offers_from [.fz (dsD ds), .fz (.int r)] (.ol ((wf ds r).map (offM ds))) := by
  have h0 : (iSeq (frz (dFn (den_writes_from) (aCons (ofD (dName 0)) (aCons (ofD (dName 1)) aNil))))) [.fz (dsD ds), .fz (.int r), .no] = .ok ((wf ds r).map intM, [.fz (dsD ds), .fz (.int r), .no]) :=
    ev_iseq (frzF (gv_fn (as := [.fz (dsD ds), .fz (.int r)]) rfl rfl rfl (wf_ev hl r))) rfl
  refine gv_run ⟨_, ev_ret (ev_comp0 (offM ds) h0 rfl (fun k hk => ?_) (Nat.le_trans (wf_len ds r) (by omega)))⟩
  obtain ⟨k1, k2⟩ := wn_lt (wf_mem hk)
  have o := gd_ok ok k1
  exact ev_tup (ev_cons rfl (ev_cons (frzL (gv_fn (as := [.fz (famM (gd ds k).fam)]) (ev_aconsF (ev_ofD (frzF (ev_bin (ev_peek rfl rfl (item_ds k1)) rfl (ix_fam k2)))) rfl) rfl rfl (masks_fam (lt_fam o) (Nat.le_trans (ok_fam o).2 (by decide))))) ev_nil)) rfl
end K15

/-! A3: free lots, the first full write, what is held at every hour. -/
namespace K15
open PySem PySem.Spec L2 Gx M10
open PyProof.Rows hiding St
def full (ks : List Nat) (m : Nat) : Bool := ks.all fun l => l &&& m != 0
theorem c_eq32 : (List.range 32).all (fun a => isR (eqD (intM a) (.int 0)) (.fz (.bool (a == 0)))) = true := by kernel_rfl
theorem enumM (ks : List Nat) : enumD 0 (ks.map intM) = (List.range ks.length).map fun k => .tuple [intM k, intM (ks.getD k 0)] := by
  rw [enum_rng intM 0]
  refine List.map_congr_left fun k _ => ?_
  rw [Nat.zero_add]
  rfl
theorem getD_mem {ks : List Nat} {k : Nat} (h : k < ks.length) : ks.getD k 0 ∈ ks := by
  rw [List.getD_eq_getElem?_getD, List.getElem?_eq_getElem h]
  exact List.getElem_mem h
theorem rng_pre {n : Nat} : ∀ {pr : List Nat} {i : Nat} {po : List Nat}, List.range n = pr ++ i :: po → i = pr.length ∧ i < n := by
  intro pr i po e
  have h1 : (List.range n)[pr.length]? = some i := by rw [e]; simp
  have h2 : pr.length < n := by
    have := congrArg List.length e
    simp at this
    omega
  rw [List.getElem?_range h2] at h1
  cases h1
  exact ⟨rfl, h2⟩
theorem free_ev {ks : List Nat} {m : Nat} (hk : Lt ks) (hm : m < 32) (hl : ks.length ≤ 1000) : ∃ x, Gv den_first_free [.fz (.list (ks.map intM)), .fz (intM m)] (.fz x) ∧ isNone x = full ks m := by
  have h0 : (iEnB (dCons (dName 0) dNil)) [.fz (.list (ks.map intM)), .fz (intM m), .no, .no] = .ok ((List.range ks.length).map fun k => .tuple [intM k, intM (ks.getD k 0)], [.fz (.list (ks.map intM)), .fz (intM m), .no, .no]) :=
    ev_bnd (ev_cons rfl ev_nil) (ev_lft (by show some (enumD 0 (ks.map intM)) = _; rw [enumM]))
  obtain ⟨ρ', q⟩ := ev_loopX (u := fun k => .tuple [intM k, intM (ks.getD k 0)]) (h := hTup 2 (hCons (hName 2) (hCons (hName 3) hNil))) (fb := sIf (dCmpT eqD (frz (dBin bandD (dName 3) (dName 1))) (dC (.int 0))) (sRet (dMove 2)) sNx)
    (fun pr σ => ∃ e2 e3, okEn e2 ∧ okEn e3 ∧ σ = [.fz (.list (ks.map intM)), .fz (intM m), e2, e3] ∧ ∀ k ∈ pr, (ks.getD k 0 &&& m != 0) = true) (fun r => ∃ k, r = .fz (intM k) ∧ k < ks.length ∧ (ks.getD k 0 &&& m != 0) = false)
    (List.range ks.length) [] _ (fun pr k po e σ i => by
      obtain ⟨e2, e3, o2, o3, rfl, hp⟩ := i
      obtain ⟨_, hk1⟩ := rng_pre e
      have lt := hk _ (getD_mem hk1)
      refine ⟨[.fz (.list (ks.map intM)), .fz (intM m), .fz (intM k), .fz (intM (ks.getD k 0))], [.fz (.list (ks.map intM)), .fz (intM m), .fz (intM k), .fz (intM (ks.getD k 0))], ?_, ?_⟩
      · rcases o2 with rfl | ⟨d, rfl⟩ <;> rcases o3 with rfl | ⟨d, rfl⟩ <;> rfl
      · have t : (dCmpT eqD (frz (dBin bandD (dName 3) (dName 1))) (dC (.int 0))) [.fz (.list (ks.map intM)), .fz (intM m), .fz (intM k), .fz (intM (ks.getD k 0))] = .ok (ks.getD k 0 &&& m == 0, [.fz (.list (ks.map intM)), .fz (intM m), .fz (intM k), .fz (intM (ks.getD k 0))]) :=
          ev_cmpT (frzF (ev_bin rfl rfl (isR_ok (all2 c_band lt hm)))) rfl (isR_ok (all1 c_eq32 (and_lt lt)))
        by_cases z : (ks.getD k 0 &&& m == 0) = true
        · exact .inr ⟨.fz (intM k), ev_if t (by rw [if_pos z]; rfl), k, rfl, hk1, by rw [bne, z]; rfl⟩
        · refine .inl ⟨ev_if t (by rw [if_neg z]; rfl), _, _, .inr ⟨_, rfl⟩, .inr ⟨_, rfl⟩, rfl, fun j hj => ?_⟩
          rcases List.mem_append.mp hj with hj | hj
          · exact hp j hj
          · rw [List.mem_singleton.mp hj, bne]
            simpa using z) ⟨.no, .no, .inl rfl, .inl rfl, rfl, fun k hk => by simp at hk⟩
  rcases q with ⟨e, _, _, _, _, rfl, hp⟩ | ⟨r, e, k, rfl, k1, k2⟩
  · refine ⟨.none, gv_run ⟨_, ev_seq (ev_bnd h0 e) rfl⟩, ?_⟩
    refine Eq.symm (List.all_eq_true.mpr fun l hl => ?_)
    obtain ⟨k, hk1, rfl⟩ := List.getElem_of_mem hl
    have := hp k (by simpa using hk1)
    rw [List.getD_eq_getElem?_getD, List.getElem?_eq_getElem hk1] at this
    exact this
  · refine ⟨intM k, gv_run ⟨_, ev_seqR (ev_bnd h0 e)⟩, ?_⟩
    refine Eq.symm (List.all_eq_false.mpr ⟨ks.getD k 0, getD_mem k1, ?_⟩)
    rw [k2]
    exact Bool.false_ne_true
/-! ### what is held at every hour -/
theorem drop_gd {ds : List Dd} {k : Nat} (h : k < ds.length) : ds.drop k = gd ds k :: ds.drop (k + 1) := by
  rw [List.drop_eq_getElem_cons h]
  have e := gd_get h
  rw [List.getElem?_eq_getElem h] at e
  rw [Option.some.inj e]
theorem tr_split (ds : List Dd) (m : Nat) : ∃ l, tr ds m = at0 ds m :: l := by
  unfold at0
  cases e : tr ds m with
  | nil => exact absurd e (tr_ne ds m)
  | cons x l => exact ⟨l, rfl⟩
theorem dnD_M (n : Nat) : dnD ((n : Nat) - 1 : Int) n = (List.range n).map fun i => intM (n - 1 - i) := by
  unfold dnD intM
  refine List.map_congr_left fun i hi => ?_
  have := List.mem_range.mp hi
  congr 1
  omega
theorem rv1_M {n : Nat} (h : n < 1000000) : rv1 (intM n) = some ((List.range n).map fun i => intM (n - 1 - i)) := by
  show (if small62 (n : Int) then some (dnD ((((n : Int).toNat : Nat) : Int) - 1) (n : Int).toNat) else none) = _
  rw [small_n h, if_pos rfl, Int.toNat_natCast, dnD_M]
abbrev maB : Dn Fl := sApp 3 (frz (dFn (den_mask_ahead) (aCons (ofD (dPeek 0 (dName 4))) (aCons (ofD (dPeek 3 (dUn negD (dC (.int 1))))) aNil))))
theorem past_ev {ds : List Dd} {m : Nat} (hl : ds.length ≤ 1000) (ok : Ok ds) (hm : m < 8) : Gv den_past_masks [.fz (dsD ds), .fz (intM m), .fz (intM ds.length)] (.ol ((tr ds m).map intM)) := by
  have h0 : (iRv1 (dName 2)) [.fz (dsD ds), .fz (intM m), .fz (intM ds.length), .ol [intM m], .no] = .ok ((List.range ds.length).map fun i => intM (ds.length - 1 - i), [.fz (dsD ds), .fz (intM m), .fz (intM ds.length), .ol [intM m], .no]) :=
    ev_bnd rfl (ev_lft (rv1_M (by omega)))
  obtain ⟨ρ', q, e4, _, rfl⟩ := ev_loopI (u := fun i => intM (ds.length - 1 - i)) (h := hName 4) (fb := maB)
    (fun pr σ => ∃ e4, okEn e4 ∧ σ = [.fz (dsD ds), .fz (intM m), .fz (intM ds.length), .ol ((tr (ds.drop (ds.length - pr.length)) m).reverse.map intM), e4]) (List.range ds.length) [.fz (dsD ds), .fz (intM m), .fz (intM ds.length), .ol [intM m], .no] (fun pr i po e σ hi => by
      obtain ⟨e4, o4, rfl⟩ := hi
      obtain ⟨rfl, hlt⟩ := rng_pre e
      have k1 : ds.length - 1 - pr.length < ds.length := by omega
      have k2 : ds.length - 1 - pr.length + 1 = ds.length - pr.length := by omega
      have k3 : ds.length - (pr ++ [pr.length]).length = ds.length - 1 - pr.length := by simp; omega
      have dg := drop_gd k1
      rw [k2] at dg
      obtain ⟨l, tl⟩ := tr_split (ds.drop (ds.length - pr.length)) m
      have last : itemE (some (.ol ((tr (ds.drop (ds.length - pr.length)) m).reverse.map intM))) (.int (-1)) = some (intM (at0 (ds.drop (ds.length - pr.length)) m)) := by
        rw [tl, List.reverse_cons, List.map_append]
        exact at_last
      refine ⟨[.fz (dsD ds), .fz (intM m), .fz (intM ds.length), .ol ((tr (ds.drop (ds.length - pr.length)) m).reverse.map intM), .fz (intM (ds.length - 1 - pr.length))], _, by rcases o4 with rfl | ⟨d, rfl⟩ <;> rfl,
        ev_appS rfl (frzF (gv_fn (as := [.fz (gd ds (ds.length - 1 - pr.length)).d, .fz (intM (at0 (ds.drop (ds.length - pr.length)) m))]) (ev_aconsF (ev_ofD (ev_peek rfl rfl (item_ds k1))) (ev_aconsF (ev_ofD (ev_peek rfl rfl last)) rfl)) rfl rfl (ahead _ (gd_ok ok k1) (at0_lt hm (ok_drop ok _))))) rfl (by rw [List.length_map, List.length_reverse, tr_len, List.length_drop]; omega), .fz (intM (ds.length - 1 - pr.length)), .inr ⟨_, rfl⟩, ?_⟩
      rw [k3, dg]
      show _ = [_, _, _, En.ol ((((gd ds (ds.length - 1 - pr.length)).ah (at0 (ds.drop (ds.length - pr.length)) m)) :: tr (ds.drop (ds.length - pr.length)) m).reverse.map intM), _]
      rw [List.reverse_cons, List.map_append]
      rfl) ⟨.no, .inl rfl, by rw [List.length_nil, Nat.sub_zero, List.drop_length]; rfl⟩
  rw [List.length_range, Nat.sub_self, List.drop_zero] at q
  have last : (dRevL (dName 3)) [.fz (dsD ds), .fz (intM m), .fz (intM ds.length), .ol ((tr ds m).reverse.map intM), e4] = .ok (.ol ((tr ds m).map intM), [.fz (dsD ds), .fz (intM m), .fz (intM ds.length), .fz (.list ((tr ds m).reverse.map intM)), e4]) := by
    refine ev_bnd (a := .list ((tr ds m).reverse.map intM)) rfl ?_
    show Rs.ok (Rv.ol ((tr ds m).reverse.map intM).reverse, _) = _
    rw [← List.map_reverse, List.reverse_reverse]
    rfl
  exact gv_run ⟨_, ev_seq (ρ1 := [.fz (dsD ds), .fz (intM m), .fz (intM ds.length), .ol [intM m], .no]) rfl (ev_seq (ev_bnd h0 q) (ev_ret last))⟩
end K15

/-! A4: masks behind, the first write that is held, roads. -/
namespace K15
open PySem PySem.Spec L2 Gx M10
open PyProof.Rows hiding St
def msD (ds : List Dd) (m : Nat) : PyData := .list ((tr ds m).map intM)
theorem behind_ev {ds : List Dd} {l : Int} {m : Nat} (hl : ds.length ≤ 1000) (ok : Ok ds) (hm : m < 8) : Gv den_masks_behind [.fz (bkD l ds), .fz (lotM m)] (.ol ((tr ds m).map intM)) := by
  have len : (frz (dCall lenD (dCons (dPeek 0 (dC (.int 2))) dNil))) [.fz (bkD l ds), .fz (lotM m)] = .ok (intM ds.length, [.fz (bkD l ds), .fz (lotM m)]) := by
    refine frzF (ev_call (ev_cons (ev_peek rfl rfl rfl) ev_nil) ?_)
    show fI ((ds.map Dd.d).length : Nat) = _
    rw [List.length_map]
    rfl
  exact gv_run ⟨_, ev_ret (gv_fn (as := [.fz (dsD ds), .fz (intM m), .fz (intM ds.length)]) (ev_aconsF (ev_ofD (ev_peek rfl rfl rfl)) (ev_aconsF (ev_ofD (frzF (gv_fn (as := [.fz (lotM m)]) rfl rfl rfl (isG_ok (all1 c_mask (by omega)))))) (ev_aconsF (ev_ofD len) rfl))) rfl rfl (past_ev hl ok hm))⟩
theorem mask_at {ds : List Dd} {m k : Nat} (h : k < ds.length) : itemE (some (.fz (msD ds m))) (intM (k + 1)) = some (intM (at0 (ds.drop (k + 1)) m)) := by
  show atI ((tr ds m).map intM) ((k + 1 : Nat) : Int) = _
  rw [at_n (by rw [List.length_map, tr_len]; omega), List.getElem?_map, tr_get m ds (k + 1) (by omega)]
  rfl
def fl (ds : List Dd) (m k : Nat) : Bool := full (gd ds k).fam (at0 (ds.drop (k + 1)) m)
def hd (ds : List Dd) (m : Nat) (r : Int) : Option Nat := (wf ds r).find? (fl ds m)
def optM : Option Nat → PyData
  | none => .none
  | some k => intM k
theorem held_at {ds : List Dd} {m k : Nat} (ok : Ok ds) (hm : m < 8) (hk : k < ds.length) (hl : ds.length ≤ 1000) {ρ ρ1 : Ev} {fl1 fn : Dn PyData} (h1 : fl1 ρ = .ok (.list ((gd ds k).fam.map intM), ρ)) (h2 : fn ρ = .ok (intM (at0 (ds.drop (k + 1)) m), ρ)) :
    (dCmpT isND (frz (dFn (den_first_free) (aCons (ofD fl1) (aCons (ofD fn) aNil)))) (dC .none)) ρ = .ok (fl ds m k, ρ) := by
  obtain ⟨x, e, n⟩ := free_ev (lt_fam (gd_ok ok hk)) (show at0 (ds.drop (k + 1)) m < 32 from Nat.lt_trans (at0_lt hm (ok_drop ok _)) (by decide)) (Nat.le_trans (ok_fam (gd_ok ok hk)).2 (by decide))
  exact ev_cmpT (frzF (gv_fn (as := [.fz (.list ((gd ds k).fam.map intM)), .fz (intM (at0 (ds.drop (k + 1)) m))]) (ev_aconsF (ev_ofD h1) (ev_aconsF (ev_ofD h2) rfl)) rfl rfl e)) rfl (by show fB (isNone x) = fB (fl ds m k); rw [n]; rfl)
theorem find_pre {p : Nat → Bool} {pr : List Nat} {k : Nat} {po : List Nat} (h : ∀ j ∈ pr, p j = false) (hk : p k = true) : (pr ++ k :: po).find? p = some k := by
  rw [List.find?_append, List.find?_eq_none.mpr (fun j hj => by rw [h j hj]; exact Bool.false_ne_true)]
  simp [hk]
theorem held_ev {ds : List Dd} {m : Nat} {r : Int} (hl : ds.length ≤ 1000) (ok : Ok ds) (hm : m < 8) : Gv den_first_held [.fz (.list ((wf ds r).map (offM ds))), .fz (msD ds m)] (.fz (optM (hd ds m r))) := by
  obtain ⟨ρ', q⟩ := ev_loopX (u := offM ds) (h := hTup 2 (hCons (hName 2) (hCons (hName 3) hNil))) (fb := sIf (dCmpT isND (frz (dFn (den_first_free) (aCons (ofD (dName 3)) (aCons (ofD (dPeek 1 (frz (dBin addD (dName 2) (dC (.int 1)))))) aNil)))) (dC .none)) (sRet (dMove 2)) sNx)
    (fun pr σ => ∃ e2 e3, okEn e2 ∧ okEn e3 ∧ σ = [.fz (.list ((wf ds r).map (offM ds))), .fz (msD ds m), e2, e3] ∧ ∀ k ∈ pr, fl ds m k = false) (fun x => ∃ k, x = .fz (intM k) ∧ hd ds m r = some k)
    (wf ds r) [] _ (fun pr k po e σ i => by
      obtain ⟨e2, e3, o2, o3, rfl, hp⟩ := i
      have hk : k ∈ wf ds r := by rw [show wf ds r = pr ++ k :: po from e]; simp
      obtain ⟨k1, k2⟩ := wn_lt (wf_mem hk)
      refine ⟨[.fz (.list ((wf ds r).map (offM ds))), .fz (msD ds m), .fz (intM k), .fz (.list ((gd ds k).fam.map intM))], [.fz (.list ((wf ds r).map (offM ds))), .fz (msD ds m), .fz (intM k), .fz (.list ((gd ds k).fam.map intM))], ?_, ?_⟩
      · rcases o2 with rfl | ⟨d, rfl⟩ <;> rcases o3 with rfl | ⟨d, rfl⟩ <;> rfl
      · have t := held_at (ρ := [.fz (.list ((wf ds r).map (offM ds))), .fz (msD ds m), .fz (intM k), .fz (.list ((gd ds k).fam.map intM))]) (ρ1 := []) (fl1 := dName 3) (fn := dPeek 1 (frz (dBin addD (dName 2) (dC (.int 1))))) ok hm k1 hl rfl (ev_peek rfl (frzF (ev_bin rfl rfl (addD_n k 1))) (mask_at k1))
        cases z : fl ds m k with
        | true => exact .inr ⟨.fz (intM k), ev_if t (by rw [z]; rfl), k, rfl, by unfold hd; rw [show wf ds r = pr ++ k :: po from e]; exact find_pre hp z⟩
        | false =>
          refine .inl ⟨ev_if t (by rw [z]; rfl), _, _, .inr ⟨_, rfl⟩, .inr ⟨_, rfl⟩, rfl, fun j hj => ?_⟩
          rcases List.mem_append.mp hj with hj | hj
          · exact hp j hj
          · rw [List.mem_singleton.mp hj]; exact z) ⟨.no, .no, .inl rfl, .inl rfl, rfl, fun k hk => by simp at hk⟩
  have h0 : (iSeq (dName 0)) [.fz (.list ((wf ds r).map (offM ds))), .fz (msD ds m), .no, .no] = .ok ((wf ds r).map (offM ds), [.fz (.list ((wf ds r).map (offM ds))), .fz (msD ds m), .no, .no]) := ev_iseq rfl rfl
  rcases q with ⟨e, _, _, _, _, rfl, hp⟩ | ⟨x, e, k, rfl, k1⟩
  · rw [show hd ds m r = none from List.find?_eq_none.mpr fun j hj => by rw [hp j (by simpa using hj)]; exact Bool.false_ne_true]
    exact gv_run ⟨_, ev_seq (ev_bnd h0 e) rfl⟩
  · rw [k1]
    exact gv_run ⟨_, ev_seqR (ev_bnd h0 e)⟩
/-! ### roads -/
def nxt (d : Dd) (p m : Nat) : Nat := if has m p then p else d.to
def pos (ds : List Dd) (m s p : Nat) : Nat → Nat
  | 0 => p
  | j + 1 => nxt (gd ds (s + j)) (pos ds m s p j) (at0 (ds.drop (s + j + 1)) m)
theorem c_keep : (List.range 8).all (fun m => (List.range 3).all fun p => (List.range 3).all fun x => !(has (if has m x then m - 1 <<< x else m) p) || has m p) = true := by decide +kernel
theorem c_copy : (List.range 8).all (fun m => (List.range 3).all fun p => (List.range 3).all fun x => (List.range 3).all fun q => !(has (if has m q then m ||| 1 <<< x else m) p) || (has m p || (p == x && has m q))) = true := by decide +kernel
theorem from_ah {d : Dd} (ok : d.ok) {m p : Nat} (hm : m < 8) (hp : p < 3) (h : has (d.ah m) p = true) : has m p = true ∨ ∃ t q, d = .cp true t p q ∧ q < 3 ∧ has m q = true := by
  rcases d with ⟨w, t, r, k, ks⟩ | t | ⟨t, x⟩ | ⟨_ | _, t, x, q⟩
  · exact .inl h
  · exact .inl h
  · have c := all1 (all1 (all1 c_keep hm) hp) (show x < 3 from ok)
    left
    have h' : has (if has m x then m - 1 <<< x else m) p = true := h
    rw [h'] at c
    simpa using c
  · exact .inl h
  · obtain ⟨h1, h2⟩ : x < 3 ∧ q < 3 := ok
    have c := all1 (all1 (all1 (all1 c_copy hm) hp) h1) h2
    have h' : has (if has m q then m ||| 1 <<< x else m) p = true := h
    rw [h'] at c
    simp only [Bool.not_true, Bool.false_or, Bool.or_eq_true, Bool.and_eq_true, beq_iff_eq] at c
    rcases c with c | ⟨rfl, c⟩
    · exact .inl c
    · exact .inr ⟨t, q, rfl, h2, c⟩
theorem pos_in {ds : List Dd} {m s p : Nat} (ok : Ok ds) (hm : m < 8) (hp : p < 3) (h : has (at0 (ds.drop s) m) p = true) : ∀ j, s + j ≤ ds.length → pos ds m s p j < 3 ∧ has (at0 (ds.drop (s + j)) m) (pos ds m s p j) = true
  | 0, _ => ⟨hp, h⟩
  | j + 1, hj => by
    obtain ⟨i1, i2⟩ := pos_in ok hm hp h j (by omega)
    have lt : s + j < ds.length := by omega
    rw [drop_gd lt] at i2
    have i3 : has ((gd ds (s + j)).ah (at0 (ds.drop (s + j + 1)) m)) (pos ds m s p j) = true := i2
    have hm2 := at0_lt hm (ok_drop ok (s + j + 1))
    show nxt _ _ _ < 3 ∧ has (at0 (ds.drop (s + j + 1)) m) (nxt _ _ _) = true
    unfold nxt
    by_cases z : has (at0 (ds.drop (s + j + 1)) m) (pos ds m s p j) = true
    · rw [if_pos z]; exact ⟨i1, z⟩
    · rw [if_neg z]
      rcases from_ah (gd_ok ok lt) hm2 i1 i3 with q | ⟨t, q, e, q1, q2⟩
      · exact absurd q z
      · rw [e]; exact ⟨q1, q2⟩
def road (ds : List Dd) (m s p : Nat) : List Nat := (List.range (ds.length - s + 1)).map (pos ds m s p)
end K15

/-! A5: roads as the program walks them; what is frozen, what is turned into lists. -/
namespace K15
open PySem PySem.Spec L2 Gx M10
open PyProof.Rows hiding St
abbrev rdB : Dn Fl := sIf (dNotT (dTru (frz (dFn (den_has_place) (aCons (ofD (dPeek 1 (frz (dBin addD (dName 5) (dC (.int 1)))))) (aCons (ofD (dPeek 4 (dUn negD (dC (.int 1))))) aNil)))))) (sApp 4 (frz (dBin ixD (dPeek 0 (dName 5)) (dC (.int 3))))) (sApp 4 (dPeek 4 (dUn negD (dC (.int 1)))))
def rdE (ds : List Dd) (m p s : Nat) (xs : List Nat) (e : En) : Ev := [.fz (dsD ds), .fz (msD ds m), .fz (intM p), .fz (intM s), .ol (xs.map intM), e]
theorem pos_last (ds : List Dd) (m s p j : Nat) : itemE (some (.ol (((List.range (j + 1)).map (pos ds m s p)).map intM))) (.int (-1)) = some (intM (pos ds m s p j)) := by
  rw [List.range_succ, List.map_append, List.map_append]
  exact at_last
theorem pos_more (ds : List Dd) (m s p j : Nat) : ((List.range (j + 1 + 1)).map (pos ds m s p)).map intM = ((List.range (j + 1)).map (pos ds m s p)).map intM ++ [intM (pos ds m s p (j + 1))] := by
  rw [List.range_succ, List.map_append, List.map_append]
  rfl
theorem road_ev {ds : List Dd} {m s p : Nat} (hl : ds.length ≤ 1000) (ok : Ok ds) (hm : m < 8) (hp : p < 3) (hs : s ≤ ds.length) (h : has (at0 (ds.drop s) m) p = true) : Gv den_road_in [.fz (dsD ds), .fz (msD ds m), .fz (intM p), .fz (intM s)] (.fz (.tuple ((road ds m s p).map intM))) := by
  have e1 : (dLenP 1) (rdE ds m p s [p] .no) = .ok (.int ((ds.length + 1 : Nat) : Int), rdE ds m p s [p] .no) := by
    show Rs.ok (PyData.int (((tr ds m).map intM).length : Nat), _) = _
    rw [List.length_map, tr_len]
  have h0 : (iRg2 (dCons (dName 3) (dCons (frz (dBin subD (dLenP 1) (dC (.int 1)))) dNil))) (rdE ds m p s [p] .no) = .ok ((List.range (ds.length - s)).map fun i => intM (s + i), rdE ds m p s [p] .no) := by
    refine ev_bnd (ev_cons rfl (ev_cons (frzF (ev_bin e1 rfl rfl)) ev_nil)) (ev_lft ?_)
    show (if small62 (s : Int) && small62 (((ds.length + 1 : Nat) : Int) - 1) then some (rgD (s : Int) ((((ds.length + 1 : Nat) : Int) - 1) - (s : Int)).toNat) else none) = _
    rw [show ((ds.length + 1 : Nat) : Int) - 1 = (ds.length : Nat) by omega, small_n (by omega), small_n (by omega), show ((ds.length : Int) - (s : Int)).toNat = ds.length - s by omega]
    rfl
  obtain ⟨ρ', q, e5, _, rfl⟩ := ev_loopI (u := fun i => intM (s + i)) (h := hName 5) (fb := rdB) (fun pr σ => ∃ e5, okEn e5 ∧ σ = rdE ds m p s ((List.range (pr.length + 1)).map (pos ds m s p)) e5) (List.range (ds.length - s)) (rdE ds m p s [p] .no) (fun pr i po e σ hi => by
      obtain ⟨e5, o5, rfl⟩ := hi
      obtain ⟨rfl, hlt⟩ := rng_pre e
      have k1 : s + pr.length < ds.length := by omega
      obtain ⟨p1, p2⟩ := pos_in ok hm hp h pr.length (by omega)
      rw [drop_gd k1] at p2
      have m1 := at0_lt hm (ok_drop ok (s + pr.length + 1))
      have pl := pos_last ds m s p pr.length
      have sz : (((List.range (pr.length + 1)).map (pos ds m s p)).map intM).length < 16777216 := by simp; omega
      have t : (dNotT (dTru (frz (dFn (den_has_place) (aCons (ofD (dPeek 1 (frz (dBin addD (dName 5) (dC (.int 1)))))) (aCons (ofD (dPeek 4 (dUn negD (dC (.int 1))))) aNil)))))) (rdE ds m p s ((List.range (pr.length + 1)).map (pos ds m s p)) (.fz (intM (s + pr.length)))) = .ok (!(has (at0 (ds.drop (s + pr.length + 1)) m) (pos ds m s p pr.length)), rdE ds m p s ((List.range (pr.length + 1)).map (pos ds m s p)) (.fz (intM (s + pr.length)))) :=
        ev_bnd (ev_bnd (frzF (gv_fn (as := [.fz (intM (at0 (ds.drop (s + pr.length + 1)) m)), .fz (intM (pos ds m s p pr.length))]) (ev_aconsF (ev_ofD (ev_peek rfl (frzF (ev_bin rfl rfl (addD_n _ 1))) (mask_at k1))) (ev_aconsF (ev_ofD (ev_peek rfl rfl pl)) rfl)) rfl rfl (isG_ok (all1 (all1 c_has m1) p1)))) (ev_lft rfl)) rfl
      refine ⟨rdE ds m p s ((List.range (pr.length + 1)).map (pos ds m s p)) (.fz (intM (s + pr.length))), rdE ds m p s ((List.range (pr.length + 1 + 1)).map (pos ds m s p)) (.fz (intM (s + pr.length))), by rcases o5 with rfl | ⟨d, rfl⟩ <;> rfl, ?_, _, .inr ⟨_, rfl⟩, by rw [List.length_append]; rfl⟩
      have fin : ∀ x, pos ds m s p (pr.length + 1) = x → (rdE ds m p s ((List.range (pr.length + 1)).map (pos ds m s p)) (.fz (intM (s + pr.length)))).set 4 (reKind (rdE ds m p s ((List.range (pr.length + 1)).map (pos ds m s p)) (.fz (intM (s + pr.length))))[4]? (((List.range (pr.length + 1)).map (pos ds m s p)).map intM ++ [intM x])) = rdE ds m p s ((List.range (pr.length + 1 + 1)).map (pos ds m s p)) (.fz (intM (s + pr.length))) := fun x hx => by
        subst hx
        unfold rdE
        rw [pos_more]
        rfl
      refine ev_if t ?_
      by_cases z : has (at0 (ds.drop (s + pr.length + 1)) m) (pos ds m s p pr.length) = true
      · rw [z]
        exact (ev_appS (i := 4) (ρ := rdE ds m p s ((List.range (pr.length + 1)).map (pos ds m s p)) (.fz (intM (s + pr.length)))) (f := dPeek 4 (dUn negD (dC (.int 1)))) rfl (ev_peek rfl rfl pl) rfl sz).trans (by rw [fin _ (if_pos z)])
      · have z' : has (at0 (ds.drop (s + pr.length + 1)) m) (pos ds m s p pr.length) = false := by simpa using z
        rw [z']
        rcases from_ah (gd_ok ok k1) m1 p1 p2 with q | ⟨t, q, e, q1, q2⟩
        · exact absurd q z
        · have en : pos ds m s p (pr.length + 1) = q := by
            show nxt _ _ _ = q
            unfold nxt
            rw [if_neg z, e]
            rfl
          have ix : ixD (gd ds (s + pr.length)).d (.int 3) = some (.fz (intM q)) := by rw [e]; rfl
          exact (ev_appS (i := 4) (ρ := rdE ds m p s ((List.range (pr.length + 1)).map (pos ds m s p)) (.fz (intM (s + pr.length)))) (f := frz (dBin ixD (dPeek 0 (dName 5)) (dC (.int 3)))) rfl (frzF (ev_bin (ev_peek rfl rfl (item_ds k1)) rfl ix)) rfl sz).trans (by rw [fin _ en])) ⟨.no, .inl rfl, rfl⟩
  rw [List.length_range] at q
  exact gv_run ⟨_, ev_seq (ρ1 := rdE ds m p s [p] .no) rfl (ev_seq (ev_bnd h0 q) (ev_ret (ev_call (ev_cons rfl ev_nil) rfl)))⟩
/-! ### frozen, lists -/
def tpl : Nat → PyData → Bool
  | _, .none => true
  | _, .bool _ => true
  | _, .int _ => true
  | _, .str _ => true
  | k + 1, .tuple xs => decide (xs.length ≤ 16777216) && xs.all (tpl k)
  | _, _ => false
def lis : Nat → PyData → PyData
  | k + 1, .tuple xs => .list (xs.map (lis k))
  | _, d => d
theorem frz_id : ∀ (k : Nat) (d : PyData), tpl k d = true → Gv (den_frozen (k + 1)) [.fz d] (.fz d)
  | 0, .list _, h => Bool.noConfusion (show false = true from h)
  | 0, .dict _, h => Bool.noConfusion (show false = true from h)
  | k + 1, .list _, h => Bool.noConfusion (show false = true from h)
  | k + 1, .dict _, h => Bool.noConfusion (show false = true from h)
  | 0, .tuple _, h => Bool.noConfusion (show false = true from h)
  | k, .none, _ => ⟨_, show runF 1 2 (b_frozen (den_frozen k)) _ = _ from rfl⟩
  | k, .bool _, _ => ⟨_, show runF 1 2 (b_frozen (den_frozen k)) _ = _ from rfl⟩
  | k, .int _, _ => ⟨_, show runF 1 2 (b_frozen (den_frozen k)) _ = _ from rfl⟩
  | k, .str _, _ => ⟨_, show runF 1 2 (b_frozen (den_frozen k)) _ = _ from rfl⟩
  | k + 1, .tuple xs, h => by
    have h' : (decide (xs.length ≤ 16777216) && xs.all (tpl k)) = true := h
    rw [Bool.and_eq_true, decide_eq_true_eq] at h'
    show Gv (runF 1 2 (b_frozen (den_frozen (k + 1)))) _ _
    have c := ev_comp0 (ρ := [.fz (.tuple xs), .no]) (ρ1 := [.fz (.tuple xs), .no]) (u := fun x : PyData => x) (i := 1) (fi := iSeq (dName 0)) (fe := frz (dFn (den_frozen (k + 1)) (aCons (ofD (dName 1)) aNil))) (ds := xs) (fun x => x) (by rw [List.map_id']; rfl) rfl (fun x hx => frzF (gv_fn (as := [.fz x]) rfl rfl rfl (frz_id k x (List.all_eq_true.mp h'.2 x hx)))) h'.1
    rw [List.map_id'] at c
    exact gv_run ⟨_, ev_seqR (ev_if (b := true) rfl (ev_ret (ev_call (ev_cons (frzL c) rfl) rfl)))⟩
theorem frz_lis : ∀ (k : Nat) (d : PyData), tpl k d = true → Gv (den_frozen (k + 1)) [.fz (lis k d)] (.fz d)
  | 0, .none, _ => ⟨_, show runF 1 2 (b_frozen (den_frozen 0)) _ = _ from rfl⟩
  | 0, .bool _, _ => ⟨_, show runF 1 2 (b_frozen (den_frozen 0)) _ = _ from rfl⟩
  | 0, .int _, _ => ⟨_, show runF 1 2 (b_frozen (den_frozen 0)) _ = _ from rfl⟩
  | 0, .str _, _ => ⟨_, show runF 1 2 (b_frozen (den_frozen 0)) _ = _ from rfl⟩
  | k + 1, .none, _ => ⟨_, show runF 1 2 (b_frozen (den_frozen (k + 1))) _ = _ from rfl⟩
  | k + 1, .bool _, _ => ⟨_, show runF 1 2 (b_frozen (den_frozen (k + 1))) _ = _ from rfl⟩
  | k + 1, .int _, _ => ⟨_, show runF 1 2 (b_frozen (den_frozen (k + 1))) _ = _ from rfl⟩
  | k + 1, .str _, _ => ⟨_, show runF 1 2 (b_frozen (den_frozen (k + 1))) _ = _ from rfl⟩
  | k + 1, .tuple xs, h => by
    have h' : (decide (xs.length ≤ 16777216) && xs.all (tpl k)) = true := h
    rw [Bool.and_eq_true, decide_eq_true_eq] at h'
    show Gv (runF 1 2 (b_frozen (den_frozen (k + 1)))) [.fz (.list (xs.map (lis k)))] _
    have c := ev_comp0 (ρ := [.fz (.list (xs.map (lis k))), .no]) (ρ1 := [.fz (.list (xs.map (lis k))), .no]) (u := lis k) (i := 1) (fi := iSeq (dName 0)) (fe := frz (dFn (den_frozen (k + 1)) (aCons (ofD (dName 1)) aNil))) (ds := xs) (fun x => x) rfl rfl (fun x hx => frzF (gv_fn (as := [.fz (lis k x)]) rfl rfl rfl (frz_lis k x (List.all_eq_true.mp h'.2 x hx)))) h'.1
    rw [List.map_id'] at c
    exact gv_run ⟨_, ev_seqR (ev_if (b := true) rfl (ev_ret (ev_call (ev_cons (frzL c) rfl) rfl)))⟩
theorem lis_ev : ∀ (k : Nat) (d : PyData), tpl k d = true → Gv (den_lists (k + 1)) [.fz d] (.fz (lis k d))
  | 0, .none, _ => ⟨_, show runF 1 2 (b_lists (den_lists 0)) _ = _ from rfl⟩
  | 0, .bool _, _ => ⟨_, show runF 1 2 (b_lists (den_lists 0)) _ = _ from rfl⟩
  | 0, .int _, _ => ⟨_, show runF 1 2 (b_lists (den_lists 0)) _ = _ from rfl⟩
  | 0, .str _, _ => ⟨_, show runF 1 2 (b_lists (den_lists 0)) _ = _ from rfl⟩
  | k + 1, .none, _ => ⟨_, show runF 1 2 (b_lists (den_lists (k + 1))) _ = _ from rfl⟩
  | k + 1, .bool _, _ => ⟨_, show runF 1 2 (b_lists (den_lists (k + 1))) _ = _ from rfl⟩
  | k + 1, .int _, _ => ⟨_, show runF 1 2 (b_lists (den_lists (k + 1))) _ = _ from rfl⟩
  | k + 1, .str _, _ => ⟨_, show runF 1 2 (b_lists (den_lists (k + 1))) _ = _ from rfl⟩
  | k + 1, .tuple xs, h => by
    have h' : (decide (xs.length ≤ 16777216) && xs.all (tpl k)) = true := h
    rw [Bool.and_eq_true, decide_eq_true_eq] at h'
    show Gv (runF 1 2 (b_lists (den_lists (k + 1)))) [.fz (.tuple xs)] (.fz (.list (xs.map (lis k))))
    have c := ev_comp0 (ρ := [.fz (.tuple xs), .no]) (ρ1 := [.fz (.tuple xs), .no]) (u := fun x : PyData => x) (i := 1) (fi := iSeq (dName 0)) (fe := frz (dFn (den_lists (k + 1)) (aCons (ofD (dName 1)) aNil))) (ds := xs) (lis k) (by rw [List.map_id']; rfl) rfl (fun x hx => frzF (gv_fn (as := [.fz x]) rfl rfl rfl (lis_ev k x (List.all_eq_true.mp h'.2 x hx)))) h'.1
    exact gv_run ⟨_, ev_ret (ev_ofD (ev_bnd (a := true) rfl (frzL c)))⟩
theorem tpl_M (k m : Nat) : tpl k (intM m) = true := by cases k <;> rfl
theorem tpl_tup {k : Nat} {xs : List PyData} (h : ∀ x ∈ xs, tpl k x = true) (hl : xs.length ≤ 16777216) : tpl (k + 1) (.tuple xs) = true := by
  show (decide (xs.length ≤ 16777216) && xs.all (tpl k)) = true
  rw [Bool.and_eq_true, decide_eq_true_eq]
  exact ⟨hl, List.all_eq_true.mpr h⟩
theorem tpl_lot (k m : Nat) : tpl (k + 1) (lotM m) = true := tpl_tup (fun x hx => by
  obtain ⟨p, _, rfl⟩ := List.mem_map.mp hx
  exact tpl_M k p) (by rw [List.length_map]; have := bits_len m; omega)
theorem tpl_fam (k : Nat) {ms : List Nat} (hl : ms.length ≤ 1000) : tpl (k + 2) (famM ms) = true := tpl_tup (fun x hx => by
  obtain ⟨p, _, rfl⟩ := List.mem_map.mp hx
  exact tpl_lot k p) (by rw [List.length_map]; omega)
theorem tpl_d (k : Nat) {d : Dd} (ok : d.ok) : tpl (k + 3) d.d = true := by
  rcases d with ⟨w, t, r, h, ks⟩ | t | ⟨t, p⟩ | ⟨_ | _, t, p, q⟩
  · have hf := tpl_fam k (Nat.le_trans ok.2.2.2 (by decide))
    have hh := tpl_lot (k + 1) h
    cases w <;> exact tpl_tup (fun x hx => by
      simp only [List.mem_cons, List.not_mem_nil, or_false] at hx
      rcases hx with rfl | rfl | rfl | rfl | rfl <;> first | rfl | exact hh | exact hf) (by simp)
  all_goals exact tpl_tup (fun x hx => by
      simp only [List.mem_cons, List.not_mem_nil, or_false] at hx
      rcases hx with rfl | rfl | rfl | rfl <;> rfl) (by simp)
theorem tpl_bk {l : Int} {ds : List Dd} (hl : ds.length ≤ 1000) (ok : Ok ds) : tpl 6 (bkD l ds) = true := tpl_tup (fun x hx => by
  simp only [List.mem_cons, List.not_mem_nil, or_false] at hx
  rcases hx with rfl | rfl | rfl
  · rfl
  · rfl
  · exact tpl_tup (fun y hy => by
      obtain ⟨d, hd, rfl⟩ := List.mem_map.mp hy
      exact tpl_d 1 (ok d hd)) (by rw [List.length_map]; omega)) (by simp)
end K15

/-! A6: hold_paper. -/
namespace K15
open PySem PySem.Spec L2 Gx M10
open PyProof.Rows hiding St
theorem c_b8 : (List.range 8).all (fun c => (bits c).all fun p => decide (p < 3)) = true := by decide +kernel
theorem b8 {c : Nat} (hc : c < 8) : ∀ p ∈ bits c, p < 3 := fun p hp => of_decide_eq_true (List.all_eq_true.mp (all1 c_b8 hc) p hp)
abbrev rf1 : Dn Fl := sFor (iArg 1) (hName 5) (sIf (dNotT (dChT leD ltD (dC (.int 0)) (dName 5) (dPeek 0 (dC (.int 0))))) sNever sNx)
def rfE (l : Int) (ds : List Dd) (c : Nat) (g : En) (e5 e8 : En) : Ev := [.fz (bkD l ds), .fz (lotM c), .sc (.t []), .sc (.t []), g, e5, .no, .no, e8]
theorem rf1_ev {l : Int} {ds : List Dd} {c : Nat} (hc : c < 8) (g : En) : ∃ e5, okEn e5 ∧ rf1 (rfE l ds c g .no .no) = .ok (.nx, rfE l ds c g e5 .no) := by
  obtain ⟨ρ', q, e5, o5, rfl⟩ := ev_loopI (u := intM) (h := hName 5) (fb := sIf (dNotT (dChT leD ltD (dC (.int 0)) (dName 5) (dPeek 0 (dC (.int 0))))) sNever sNx) (fun _ σ => ∃ e5, okEn e5 ∧ σ = rfE l ds c g e5 .no) (bits c) (rfE l ds c g .no .no) (fun pr p po e σ hi => by
    obtain ⟨e5, o5, rfl⟩ := hi
    have hp : p < 3 := b8 hc p (by rw [e]; simp)
    refine ⟨rfE l ds c g (.fz (intM p)) .no, rfE l ds c g (.fz (intM p)) .no, by rcases o5 with rfl | ⟨d, rfl⟩ <;> rfl, ?_, _, .inr ⟨_, rfl⟩, rfl⟩
    match p, hp with
    | 0, _ => rfl
    | 1, _ => rfl
    | 2, _ => rfl) ⟨.no, .inl rfl, rfl⟩
  exact ⟨e5, o5, ev_bnd rfl q⟩
theorem gv_nx {n N : Nat} {f : Dn Fl} {as : List En} {ρ1 : Ev} (h : f (as ++ List.replicate (N - n) .no) = .ok (.nx, ρ1)) : Gv (runF n N f) as (.fz .none) := by
  refine ⟨back as ρ1, ?_⟩
  unfold runF
  rw [h]
theorem ev_setTo {ρ ρ1 ρ2 : Ev} {i : Nat} {f : Dn Rv} {r : Rv} (h1 : f ρ = .ok (r, ρ1)) (h2 : isBl ρ1[i]? = false) (h3 : ρ1.set i r.en = ρ2) : sSet i f ρ = .ok (.nx, ρ2) := by
  rw [← h3]
  exact ev_set h1 h2
theorem refuse1 {l : Int} {ds : List Dd} {c : Nat} {r : Int} (hc : c < 8) (hr : 1 ≤ r) : Gv den_refuse [.fz (bkD l ds), .fz (lotM c), .sc (.t []), .sc (.t []), .fz (.tuple [.int r])] (.fz .none) := by
  obtain ⟨e5, o5, q⟩ := rf1_ev (l := l) (ds := ds) hc (.fz (.tuple [.int r]))
  have t : (dCmpT ltD (dName 8) (dC (.int 1))) (rfE l ds c (.fz (.tuple [.int r])) e5 (.fz (.int r))) = .ok (false, rfE l ds c (.fz (.tuple [.int r])) e5 (.fz (.int r))) :=
    ev_cmpT rfl rfl (by show fB (decide (r < 1)) = fB false; rw [decide_eq_false (by omega)])
  have b : (sIf (dCmpT ltD (dName 8) (dC (.int 1))) sNever sNx) (rfE l ds c (.fz (.tuple [.int r])) e5 (.fz (.int r))) = .ok (.nx, rfE l ds c (.fz (.tuple [.int r])) e5 (.fz (.int r))) := ev_if t rfl
  have l4 : (sFor (iArg 4) (hName 8) (sIf (dCmpT ltD (dName 8) (dC (.int 1))) sNever sNx)) (rfE l ds c (.fz (.tuple [.int r])) e5 .no) = .ok (.nx, rfE l ds c (.fz (.tuple [.int r])) e5 (.fz (.int r))) := by
    refine ev_bnd (a := [.int r]) rfl ?_
    show loopF (hName 8) _ [.int r] _ = _
    unfold loopF
    rw [show hName 8 (.int r) (rfE l ds c (.fz (.tuple [.int r])) e5 .no) = some (rfE l ds c (.fz (.tuple [.int r])) e5 (.fz (.int r))) from rfl]
    simp only [b]
    rfl
  exact gv_nx (ev_seq q (ev_seq (ρ1 := rfE l ds c (.fz (.tuple [.int r])) e5 .no) rfl (ev_seq (ρ1 := rfE l ds c (.fz (.tuple [.int r])) e5 .no) rfl l4)))
theorem refuse2 {l : Int} {ds : List Dd} {c : Nat} (hc : c < 8) : Gv den_refuse [.fz (bkD l ds), .fz (lotM c), .sc (.t []), .sc (.t []), .sc (.t [])] (.fz .none) := by
  obtain ⟨e5, o5, q⟩ := rf1_ev (l := l) (ds := ds) hc (.sc (.t []))
  exact gv_nx (ev_seq q (ev_seq (ρ1 := rfE l ds c (.sc (.t [])) e5 .no) rfl (ev_seq (ρ1 := rfE l ds c (.sc (.t [])) e5 .no) rfl (show _ = Rs.ok (Fl.nx, rfE l ds c (.sc (.t [])) e5 .no) from rfl))))
def homes (ds : List Dd) (c k : Nat) : List Nat := (bits (gd ds k).hm).filter fun p => has (at0 (ds.drop (k + 1)) c) p
def roadD (ds : List Dd) (c k p : Nat) : PyData := .tuple ((road ds c (k + 1) p).map intM)
def pv (ds : List Dd) (c : Nat) (r : Int) : PyData := match hd ds c r with
  | none => .none
  | some k => .tuple [intM k, .tuple ((homes ds c k).map (roadD ds c k))]
theorem ok_hm {d : Dd} (ok : d.ok) : d.hm < 8 := by
  rcases d with ⟨w, t, r, h, ks⟩ | t | ⟨t, p⟩ | ⟨w, t, p, q⟩
  · exact ok.2.1
  all_goals exact (by decide : (0 : Nat) < 8)
theorem hd_mem {ds : List Dd} {c k : Nat} {r : Int} (h : hd ds c r = some k) : k < ds.length ∧ (gd ds k).isW = true := wn_lt (wf_mem (List.mem_of_find?_eq_some h))
theorem hold_ev {ds : List Dd} {l r : Int} {c : Nat} {b s : PyData} (hl : ds.length ≤ 1000) (ok : Ok ds) (hc : c < 8) (hr : 1 ≤ r) (Hb : Gv (den_frozen 7) [.fz b] (.fz (bkD l ds))) (Hs : Gv (den_frozen 7) [.fz s] (.fz (lotM c))) : Gv den_hold_paper [.fz b, .fz s, .fz (.int r)] (.fz (pv ds c r)) := by
  have s1 : (sAsg (dTup (dCons (frz (dFn (den_frozen 7) (aCons (ofD (dName 0)) aNil))) (dCons (frz (dFn (den_frozen 7) (aCons (ofD (dName 1)) aNil))) dNil))) (hTup 2 (hCons (hName 0) (hCons (hName 1) hNil)))) [.fz b, .fz s, .fz (.int r), .no, .no, .no, .no] = .ok (.nx, [.fz (bkD l ds), .fz (lotM c), .fz (.int r), .no, .no, .no, .no]) :=
    ev_bnd (ev_tup (ev_cons (frzF (gv_fn (as := [.fz b]) rfl rfl rfl Hb)) (ev_cons (frzF (gv_fn (as := [.fz s]) rfl rfl rfl Hs)) ev_nil)) rfl) rfl
  have s2 : (sDrop (frz (dFn (den_refuse) (dArD [(true, 0), (true, 1), (false, 1), (false, 2), (true, 2)] (dCons (dName 0) dNil) (dCons (dName 1) (dCons (dTup (dCons (dName 2) dNil)) dNil)))))) [.fz (bkD l ds), .fz (lotM c), .fz (.int r), .no, .no, .no, .no] = .ok (.nx, [.fz (bkD l ds), .fz (lotM c), .fz (.int r), .no, .no, .no, .no]) :=
    ev_bnd (frzF (gv_fn (as := [.fz (bkD l ds), .fz (lotM c), .sc (.t []), .sc (.t []), .fz (.tuple [.int r])]) rfl rfl rfl (refuse1 hc hr))) rfl
  have s3 : (sSet 3 (dFn (den_masks_behind) (aCons (ofD (dName 0)) (aCons (ofD (dName 1)) aNil)))) [.fz (bkD l ds), .fz (lotM c), .fz (.int r), .no, .no, .no, .no] = .ok (.nx, [.fz (bkD l ds), .fz (lotM c), .fz (.int r), .ol ((tr ds c).map intM), .no, .no, .no]) :=
    ev_setTo (ρ1 := [.fz (bkD l ds), .fz (lotM c), .fz (.int r), .no, .no, .no, .no]) (gv_fn (as := [.fz (bkD l ds), .fz (lotM c)]) rfl rfl rfl (behind_ev hl ok hc)) rfl rfl
  have s4 : (sSet 4 (dFn (den_first_held) (aCons (ofD (frz (dFn (den_offers_from) (aCons (ofD (dPeek 0 (dC (.int 2)))) (aCons (ofD (dName 2)) aNil))))) (aCons (ofD (dName 3)) aNil)))) [.fz (bkD l ds), .fz (lotM c), .fz (.int r), .ol ((tr ds c).map intM), .no, .no, .no] = .ok (.nx, [.fz (bkD l ds), .fz (lotM c), .fz (.int r), .fz (msD ds c), .fz (optM (hd ds c r)), .no, .no]) :=
    ev_setTo (ρ1 := [.fz (bkD l ds), .fz (lotM c), .fz (.int r), .fz (msD ds c), .no, .no, .no]) (gv_fn (as := [.fz (.list ((wf ds r).map (offM ds))), .fz (msD ds c)]) (ev_aconsF (ev_ofD (frzL (gv_fn (as := [.fz (dsD ds), .fz (.int r)]) (ev_aconsF (ev_ofD (ev_peek rfl rfl rfl)) rfl) rfl rfl (off_ev hl ok r)))) (ev_aconsF (ev_ofD rfl) rfl)) rfl rfl (held_ev hl ok hc)) rfl rfl
  cases e : hd ds c r with
  | none =>
    rw [e] at s4
    have p : pv ds c r = .none := by unfold pv; rw [e]
    rw [p]
    exact gv_run ⟨_, ev_seq s1 (ev_seq s2 (ev_seq s3 (ev_seq s4 (ev_seqR (ev_if (b := true) rfl rfl)))))⟩
  | some k =>
    rw [e] at s4
    obtain ⟨k1, k2⟩ := hd_mem e
    have o := gd_ok ok k1
    have p : pv ds c r = .tuple [intM k, .tuple ((homes ds c k).map (roadD ds c k))] := by unfold pv; rw [e]
    rw [p]
    have m1 : at0 (ds.drop (k + 1)) c < 8 := at0_lt hc (ok_drop ok _)
    have hb := b8 (ok_hm o)
    have h6 : (iSeq (frz (dBin ixD (frz (dBin ixD (dPeek 0 (dC (.int 2))) (dName 4))) (dC (.int 3))))) [.fz (bkD l ds), .fz (lotM c), .fz (.int r), .fz (msD ds c), .fz (intM k), .no, .no] = .ok ((bits (gd ds k).hm).map intM, [.fz (bkD l ds), .fz (lotM c), .fz (.int r), .fz (msD ds c), .fz (intM k), .no, .no]) :=
      ev_iseq (frzF (ev_bin (frzF (ev_bin (ev_peek rfl rfl rfl) rfl (ix_ds k1))) rfl (ix_hm k2))) rfl
    have s6 : (sSet 5 (dComp (iSeq (frz (dBin ixD (frz (dBin ixD (dPeek 0 (dC (.int 2))) (dName 4))) (dC (.int 3))))) (hName 6) (dTru (frz (dFn (den_has_place) (aCons (ofD (dPeek 3 (frz (dBin addD (dName 4) (dC (.int 1)))))) (aCons (ofD (dName 6)) aNil))))) (dName 6) [6])) [.fz (bkD l ds), .fz (lotM c), .fz (.int r), .fz (msD ds c), .fz (intM k), .no, .no] = .ok (.nx, [.fz (bkD l ds), .fz (lotM c), .fz (.int r), .fz (msD ds c), .fz (intM k), .ol ((homes ds c k).map intM), .no]) :=
      ev_setTo (ev_comp1 (fun p => has (at0 (ds.drop (k + 1)) c) p) intM h6 rfl (fun p hp => ev_bnd (frzF (gv_fn (as := [.fz (intM (at0 (ds.drop (k + 1)) c)), .fz (intM p)]) (ev_aconsF (ev_ofD (ev_peek rfl (frzF (ev_bin rfl rfl (addD_n k 1))) (mask_at k1))) rfl) rfl rfl (isG_ok (all1 (all1 c_has m1) (hb p hp))))) (ev_lft rfl)) (fun p _ _ => rfl) (by have := bits_len (gd ds k).hm; omega)) rfl rfl
    have hh : ∀ p ∈ homes ds c k, p < 3 ∧ has (at0 (ds.drop (k + 1)) c) p = true := fun p hp => ⟨hb p (List.mem_filter.mp hp).1, (List.mem_filter.mp hp).2⟩
    have hll : (homes ds c k).length ≤ 5 := Nat.le_trans (List.length_filter_le _ _) (bits_len _)
    have s7 : (dTup (dCons (dName 4) (dCons (frz (dCall tupleD (dCons (frz (dComp (iSeq (dName 5)) (hName 6) yesT (frz (dFn (den_road_in) (aCons (ofD (dPeek 0 (dC (.int 2)))) (aCons (ofD (dName 3)) (aCons (ofD (dName 6)) (aCons (ofD (frz (dBin addD (dName 4) (dC (.int 1))))) aNil)))))) [6])) dNil))) dNil))) [.fz (bkD l ds), .fz (lotM c), .fz (.int r), .fz (msD ds c), .fz (intM k), .ol ((homes ds c k).map intM), .no] = .ok (.tuple [intM k, .tuple ((homes ds c k).map (roadD ds c k))], [.fz (bkD l ds), .fz (lotM c), .fz (.int r), .fz (msD ds c), .fz (intM k), .fz (.list ((homes ds c k).map intM)), .no]) :=
      ev_tup (ev_cons rfl (ev_cons (frzF (ev_call (ev_cons (frzL (ev_comp0 (ρ1 := [.fz (bkD l ds), .fz (lotM c), .fz (.int r), .fz (msD ds c), .fz (intM k), .fz (.list ((homes ds c k).map intM)), .no]) (roadD ds c k) (ev_iseq rfl rfl) rfl (fun p hp => frzF (gv_fn (as := [.fz (dsD ds), .fz (msD ds c), .fz (intM p), .fz (intM (k + 1))]) (ev_aconsF (ev_ofD (ev_peek rfl rfl rfl)) (ev_aconsF (ev_ofD rfl) (ev_aconsF (ev_ofD rfl) (ev_aconsF (ev_ofD (frzF (ev_bin rfl rfl (addD_n k 1)))) rfl)))) rfl rfl (road_ev hl ok hc (hh p hp).1 (by omega) (hh p hp).2))) (by omega))) ev_nil) rfl)) ev_nil)) rfl
    exact gv_run ⟨_, ev_seq s1 (ev_seq s2 (ev_seq s3 (ev_seq s4 (ev_seq (ev_if (b := false) rfl rfl) (ev_seq s6 (ev_ret (ev_ofD s7)))))))⟩
end K15

/-! A7: the law's own past, room, first full write. -/
namespace K15
open PySem PySem.Spec L2 Gx M10
open PyProof.Rows hiding St
theorem fa3 {P : Nat → Prop} (h0 : P 0) (h1 : P 1) (h2 : P 2) : ∀ m, m < 3 → P m
  | 0, _ => h0
  | 1, _ => h1
  | 2, _ => h2
theorem fa8 {P : Nat → Prop} (h0 : P 0) (h1 : P 1) (h2 : P 2) (h3 : P 3) (h4 : P 4) (h5 : P 5) (h6 : P 6) (h7 : P 7) : ∀ m, m < 8 → P m
  | 0, _ => h0
  | 1, _ => h1
  | 2, _ => h2
  | 3, _ => h3
  | 4, _ => h4
  | 5, _ => h5
  | 6, _ => h6
  | 7, _ => h7
abbrev paM : Dn Fl := sSeq (sIf (dAndT (dCmpT eqD (dPeek 5 (dC (.int 0))) (dC (.str "copy"))) (dCmpT inD (dPeek 5 (dC (.int 3))) (dName 6))) (sSet 6 (dCall tupleD (dCons (frz (dCall setSortD (dCons (frz (dBin addD (dName 6) (dTup (dCons (dPeek 5 (dC (.int 2))) dNil)))) dNil))) dNil))) sNx)
  (sSeq (sIf (dCmpT eqD (dPeek 5 (dC (.int 0))) (dC (.str "lose"))) (sSet 6 (dCall tupleD (dCons (frz (dComp (iSeq (dName 6)) (hName 7) (dCmpT neD (dName 7) (dPeek 5 (dC (.int 2)))) (dName 7) [7])) dNil))) sNx)
  (sSet 3 (dBin addD (frz (dLst (dCons (dName 6) dNil))) (dName 3))))
abbrev paMid : Dn Fl := sSeq (sIf (dAndT (dCmpT eqD (dPeek 5 (dC (.int 0))) (dC (.str "copy"))) (dCmpT inD (dPeek 5 (dC (.int 3))) (dName 6))) (sSet 6 (dCall tupleD (dCons (frz (dCall setSortD (dCons (frz (dBin addD (dName 6) (dTup (dCons (dPeek 5 (dC (.int 2))) dNil)))) dNil))) dNil))) sNx)
  (sIf (dCmpT eqD (dPeek 5 (dC (.int 0))) (dC (.str "lose"))) (sSet 6 (dCall tupleD (dCons (frz (dComp (iSeq (dName 6)) (hName 7) (dCmpT neD (dName 7) (dPeek 5 (dC (.int 2)))) (dName 7) [7])) dNil))) sNx)
theorem seq3 {ρ ρ1 : Ev} {f g h : Dn Fl} {r : Rs (Fl × Ev)} (h1 : sSeq f g ρ = .ok (.nx, ρ1)) (h2 : h ρ1 = r) : sSeq f (sSeq g h) ρ = r := by
  have k1 : bnd f (fun fl => match fl with
    | .nx => g
    | fl => ret fl) ρ = .ok (.nx, ρ1) := h1
  unfold bnd at k1
  cases e : f ρ with
  | st => rw [e] at k1; cases k1
  | ex x => rw [e] at k1; cases k1
  | ok t =>
    obtain ⟨fl, ρ2⟩ := t
    rw [e] at k1
    cases fl with
    | nx => exact ev_seq e (ev_seq (show g ρ2 = _ from k1) h2)
    | _ => cases k1
def paE (a b c e3 e4 : En) (d : PyData) (m : Nat) : Ev := [a, b, c, e3, e4, .fz d, .fz (lotM m), .no]
theorem mid_ev (a b c e3 e4 : En) {d : Dd} (ok : d.ok) : ∀ m, m < 8 → paMid (paE a b c e3 e4 d.d m) = .ok (.nx, paE a b c e3 e4 d.d (d.ah m)) := by
  rcases d with ⟨w, t, r, h, ks⟩ | t | ⟨t, p⟩ | ⟨_ | _, t, p, q⟩
  · intro m _; cases w <;> kernel_rfl
  · intro m _; kernel_rfl
  · revert p
    show ∀ p, p < 3 → _
    refine fa3 ?_ ?_ ?_ <;> refine fa8 ?_ ?_ ?_ ?_ ?_ ?_ ?_ ?_ <;> kernel_rfl
  · intro m _; kernel_rfl
  · obtain ⟨h1, h2⟩ : p < 3 ∧ q < 3 := ok
    revert p q
    intro p q h1 h2
    revert q
    revert p
    have z : ∀ p, p < 3 → ∀ q, q < 3 → ∀ m, m < 8 → paMid (paE a b c e3 e4 (Dd.cp true t p q).d m) = .ok (.nx, paE a b c e3 e4 (Dd.cp true t p q).d ((Dd.cp true t p q).ah m)) := by
      refine fa3 ?_ ?_ ?_ <;> refine fa3 ?_ ?_ ?_ <;> refine fa8 ?_ ?_ ?_ ?_ ?_ ?_ ?_ ?_ <;> kernel_rfl
    exact fun p h1 q h2 => z p h1 q h2
end K15

/-! A8: the law's own past, room, writes and first full write. -/
namespace K15
open PySem PySem.Spec L2 Gx M10
open PyProof.Rows hiding St
theorem rg3_M {n : Nat} (h : n < 1000000) : rg3 [.int ((n : Nat) - 1 : Int), .int (-1), .int (-1)] = some ((List.range n).map fun i => intM (n - 1 - i)) := by
  have s1 : small62 ((n : Int) - 1) = true := by
    unfold small62
    rw [Bool.and_eq_true, decide_eq_true_eq, decide_eq_true_eq]
    omega
  show (if small62 ((n : Int) - 1) && (small62 (-1) && decide ((-1 : Int) = -1)) then some (dnD ((n : Int) - 1) ((n : Int) - 1 - -1).toNat) else none) = _
  rw [s1, show ((n : Int) - 1 - -1).toNat = n by omega, dnD_M]
  rfl
def paF (l : Int) (ds : List Dd) (c : Nat) (xs : List PyData) (e4 e5 e6 : En) : Ev := [.fz (bkD l ds), .fz (lotM c), .fz (intM ds.length), .ol xs, e4, e5, e6, .no]
theorem lpast_ev {l : Int} {ds : List Dd} {c : Nat} (hl : ds.length ≤ 1000) (ok : Ok ds) (hc : c < 8) : Gv den_past [.fz (bkD l ds), .fz (lotM c), .fz (intM ds.length)] (.ol ((tr ds c).map lotM)) := by
  have h0 : (iRg3 (dCons (frz (dBin subD (dName 2) (dC (.int 1)))) (dCons (dUn negD (dC (.int 1))) (dCons (dUn negD (dC (.int 1))) dNil)))) (paF l ds c [lotM c] .no .no .no) = .ok ((List.range ds.length).map fun i => intM (ds.length - 1 - i), paF l ds c [lotM c] .no .no .no) :=
    ev_bnd (ev_cons rfl (ev_cons rfl (ev_cons rfl ev_nil))) (ev_lft (rg3_M (by omega)))
  obtain ⟨ρ', q, e4, e5, e6, _, _, _, rfl⟩ := ev_loopI (u := fun i => intM (ds.length - 1 - i)) (h := hName 4) (fb := sSeq (sAsg (dTup (dCons (frz (dBin ixD (dPeek 0 (dC (.int 2))) (dName 4))) (dCons (dPeek 3 (dC (.int 0))) dNil))) (hTup 2 (hCons (hName 5) (hCons (hName 6) hNil)))) paM)
    (fun pr σ => ∃ e4 e5 e6, okEn e4 ∧ okEn e5 ∧ okEn e6 ∧ σ = paF l ds c ((tr (ds.drop (ds.length - pr.length)) c).map lotM) e4 e5 e6) (List.range ds.length) (paF l ds c [lotM c] .no .no .no) (fun pr i po e σ hi => by
      obtain ⟨e4, e5, e6, o4, o5, o6, rfl⟩ := hi
      obtain ⟨rfl, hlt⟩ := rng_pre e
      have k1 : ds.length - 1 - pr.length < ds.length := by omega
      have k2 : ds.length - 1 - pr.length + 1 = ds.length - pr.length := by omega
      have k3 : ds.length - (pr ++ [pr.length]).length = ds.length - 1 - pr.length := by simp; omega
      have dg := drop_gd k1
      rw [k2] at dg
      obtain ⟨t1, tl⟩ := tr_split (ds.drop (ds.length - pr.length)) c
      have m1 := at0_lt hc (ok_drop ok (ds.length - pr.length))
      have len : (tr (ds.drop (ds.length - pr.length)) c).length ≤ 1001 := by rw [tr_len, List.length_drop]; omega
      generalize hX : (tr (ds.drop (ds.length - pr.length)) c).map lotM = X
      have X0 : atI X 0 = some (lotM (at0 (ds.drop (ds.length - pr.length)) c)) := by
        rw [← hX, tl]
        exact (at_n (k := 0) (by simp)).trans rfl
      have XL : X.length ≤ 1001 := by rw [← hX, List.length_map]; exact len
      refine ⟨paF l ds c X (.fz (intM (ds.length - 1 - pr.length))) e5 e6, paF l ds c (lotM ((gd ds (ds.length - 1 - pr.length)).ah (at0 (ds.drop (ds.length - pr.length)) c)) :: X) (.fz (intM (ds.length - 1 - pr.length))) (.fz (gd ds (ds.length - 1 - pr.length)).d) (.fz (lotM ((gd ds (ds.length - 1 - pr.length)).ah (at0 (ds.drop (ds.length - pr.length)) c)))), by rcases o4 with rfl | ⟨d, rfl⟩ <;> rfl, ?_, .fz (intM (ds.length - 1 - pr.length)), .fz (gd ds (ds.length - 1 - pr.length)).d, .fz (lotM ((gd ds (ds.length - 1 - pr.length)).ah (at0 (ds.drop (ds.length - pr.length)) c))), .inr ⟨_, rfl⟩, .inr ⟨_, rfl⟩, .inr ⟨_, rfl⟩, ?_⟩
      · have a1 : (dTup (dCons (frz (dBin ixD (dPeek 0 (dC (.int 2))) (dName 4))) (dCons (dPeek 3 (dC (.int 0))) dNil))) (paF l ds c X (.fz (intM (ds.length - 1 - pr.length))) e5 e6) = .ok (.tuple [(gd ds (ds.length - 1 - pr.length)).d, lotM (at0 (ds.drop (ds.length - pr.length)) c)], paF l ds c X (.fz (intM (ds.length - 1 - pr.length))) e5 e6) :=
          ev_tup (ev_cons (frzF (ev_bin (ev_peek rfl rfl rfl) rfl (ix_ds k1))) (ev_cons (ev_peek rfl rfl X0) ev_nil)) rfl
        have a2 : (sAsg (dTup (dCons (frz (dBin ixD (dPeek 0 (dC (.int 2))) (dName 4))) (dCons (dPeek 3 (dC (.int 0))) dNil))) (hTup 2 (hCons (hName 5) (hCons (hName 6) hNil)))) (paF l ds c X (.fz (intM (ds.length - 1 - pr.length))) e5 e6) = .ok (.nx, paE (.fz (bkD l ds)) (.fz (lotM c)) (.fz (intM ds.length)) (.ol X) (.fz (intM (ds.length - 1 - pr.length))) (gd ds (ds.length - 1 - pr.length)).d (at0 (ds.drop (ds.length - pr.length)) c)) := by
          refine ev_bnd a1 ?_
          rcases o5 with rfl | ⟨d, rfl⟩ <;> rcases o6 with rfl | ⟨d2, rfl⟩ <;> rfl
        refine ev_seq a2 (seq3 (mid_ev _ _ _ _ _ (gd_ok ok k1) _ m1) ?_)
        refine ev_setTo (ρ1 := paE (.fz (bkD l ds)) (.fz (lotM c)) (.fz (intM ds.length)) (.fz (.list X)) (.fz (intM (ds.length - 1 - pr.length))) (gd ds (ds.length - 1 - pr.length)).d ((gd ds (ds.length - 1 - pr.length)).ah (at0 (ds.drop (ds.length - pr.length)) c))) (r := .ol (lotM ((gd ds (ds.length - 1 - pr.length)).ah (at0 (ds.drop (ds.length - pr.length)) c)) :: X)) (ev_bin (x := .list [lotM ((gd ds (ds.length - 1 - pr.length)).ah (at0 (ds.drop (ds.length - pr.length)) c))]) (y := .list X) rfl rfl ?_) rfl rfl
        exact addD_l (xs := [_]) (ys := X) (by simp; omega)
      · rw [k3, dg, ← hX]
        rfl) ⟨.no, .no, .no, .inl rfl, .inl rfl, .inl rfl, by rw [List.length_nil, Nat.sub_zero, List.drop_length]; rfl⟩
  rw [List.length_range, Nat.sub_self, List.drop_zero] at q
  exact gv_run ⟨_, ev_seq (ρ1 := paF l ds c [lotM c] .no .no .no) rfl (ev_seq (ev_bnd h0 q) rfl)⟩
theorem c_apart8 : (List.range 8).all (fun a => (List.range 8).all fun b => isG (den_apart [.fz (lotM a), .fz (lotM b)]) (.fz (.bool (a &&& b == 0)))) = true := by kernel_rfl
theorem room_ev {ks : List Nat} {m : Nat} (hk : ∀ k ∈ ks, k < 8) (hl : ks.length ≤ 1000) (hm : m < 8) : Gv den_room [.fz (famM ks), .fz (lotM m)] (.fz (.bool (!(full ks m)))) := by
  have c := ev_comp1 (ρ := [.fz (famM ks), .fz (lotM m), .no]) (ρ1 := [.fz (famM ks), .fz (lotM m), .no]) (u := lotM) (i := 2) (fi := iSeq (dName 0)) (ft := dTru (frz (dFn (den_apart) (aCons (ofD (dName 2)) (aCons (ofD (dName 1)) aNil))))) (fe := dC (.int 1)) (ds := ks) (fun k => k &&& m == 0) (fun _ => .int 1) rfl rfl (fun k hk1 => ev_bnd (frzF (gv_fn (as := [.fz (lotM k), .fz (lotM m)]) rfl rfl rfl (isG_ok (all1 (all1 c_apart8 (hk k hk1)) hm)))) (ev_lft rfl)) (fun _ _ _ => rfl) (by omega)
  have e : (!(ks.filter fun k => k &&& m == 0).isEmpty) = !(full ks m) := by
    congr 1
    unfold full
    induction ks with
    | nil => rfl
    | cons k ks ih =>
      rw [List.filter_cons, List.all_cons]
      by_cases z : (k &&& m == 0) = true
      · rw [if_pos z, bne, z]; rfl
      · have z' : (k &&& m == 0) = false := by simpa using z
        rw [if_neg z, bne, z', ih (fun x hx => hk x (by simp [hx])) (by simp at hl; omega) (by
          exact ev_comp1 (ρ := [.fz (famM ks), .fz (lotM m), .no]) (ρ1 := [.fz (famM ks), .fz (lotM m), .no]) (u := lotM) (i := 2) (fi := iSeq (dName 0)) (ft := dTru (frz (dFn (den_apart) (aCons (ofD (dName 2)) (aCons (ofD (dName 1)) aNil))))) (fe := dC (.int 1)) (ds := ks) (fun k => k &&& m == 0) (fun _ => .int 1) rfl rfl (fun k hk1 => ev_bnd (frzF (gv_fn (as := [.fz (lotM k), .fz (lotM m)]) rfl rfl rfl (isG_ok (all1 (all1 c_apart8 (hk k (by simp [hk1]))) hm)))) (ev_lft rfl)) (fun _ _ _ => rfl) (by simp at hl; omega))]
        rfl
  rw [← e]
  exact gv_run ⟨_, ev_ret (ev_bin (frzL c) rfl (ones_ne _ (Nat.le_trans (List.length_filter_le _ _) hl)))⟩
theorem writes_ev {l : Int} {ds : List Dd} (hl : ds.length ≤ 1000) : Gv den_writes [.fz (bkD l ds)] (.ol ((wn ds).map intM)) := by
  have h0 : (iEnB (dCons (dPeek 0 (dC (.int 2))) dNil)) [.fz (bkD l ds), .no, .no] = .ok ((List.range ds.length).map fun k => .tuple [intM k, (gd ds k).d], [.fz (bkD l ds), .no, .no]) :=
    ev_bnd (ev_cons (ev_peek rfl rfl rfl) ev_nil) (ev_lft (by show some (enumD 0 (ds.map Dd.d)) = _; rw [enum0]))
  exact gv_run ⟨_, ev_ret (ev_compG (fun k => (gd ds k).isW) intM (fun k => [.fz (bkD l ds), .fz (intM k), .fz (gd ds k).d]) (ρw := [.fz (bkD l ds), .no, .no]) h0 rfl rfl (fun k => rfl) (fun _ => rfl) rfl (fun k _ => is_lw rfl) (fun k _ _ => rfl) (by rw [List.length_range]; omega))⟩
end K15

/-! A9: the law's first full write, its stays, its roads. -/
namespace K15
open PySem PySem.Spec L2 Gx M10
open PyProof.Rows hiding St
def ltD' (ds : List Dd) (c : Nat) : PyData := .list ((tr ds c).map lotM)
theorem lot_at {ds : List Dd} {c k : Nat} (h : k < ds.length) : itemE (some (.ol ((tr ds c).map lotM))) (intM (k + 1)) = some (lotM (at0 (ds.drop (k + 1)) c)) := by
  show atI ((tr ds c).map lotM) ((k + 1 : Nat) : Int) = _
  rw [at_n (by rw [List.length_map, tr_len]; omega), List.getElem?_map, tr_get c ds (k + 1) (by omega)]
  rfl
theorem len_bk {ρ : Ev} {l : Int} {ds : List Dd} (h : ρ[0]? = some (.fz (bkD l ds))) : (frz (dCall lenD (dCons (dPeek 0 (dC (.int 2))) dNil))) ρ = .ok (intM ds.length, ρ) := by
  refine frzF (ev_call (xs := [dsD ds]) (ev_cons (ev_peek (by rw [h]; rfl) rfl (by rw [h]; rfl)) ev_nil) ?_)
  show fI ((ds.map Dd.d).length : Nat) = _
  rw [List.length_map]
  rfl
theorem bk2 {ρ : Ev} {l : Int} {ds : List Dd} (h : ρ[0]? = some (.fz (bkD l ds))) : (dPeek 0 (dC (.int 2))) ρ = .ok (dsD ds, ρ) := ev_peek (by rw [h]; rfl) rfl (by rw [h]; rfl)
theorem past_at {ρ : Ev} {l : Int} {ds : List Dd} {c : Nat} (h : ρ[0]? = some (.fz (bkD l ds))) (h1 : dName 1 ρ = .ok (lotM c, ρ)) (hl : ds.length ≤ 1000) (ok : Ok ds) (hc : c < 8) : (dFn (den_past) (aCons (ofD (dName 0)) (aCons (ofD (dName 1)) (aCons (ofD (frz (dCall lenD (dCons (dPeek 0 (dC (.int 2))) dNil)))) aNil)))) ρ = .ok (.ol ((tr ds c).map lotM), ρ) :=
  gv_fn (as := [.fz (bkD l ds), .fz (lotM c), .fz (intM ds.length)]) (ev_aconsF (ev_ofD (by unfold dName; rw [h])) (ev_aconsF (ev_ofD h1) (ev_aconsF (ev_ofD (len_bk h)) rfl))) rfl rfl (lpast_ev hl ok hc)
theorem hd_wn (ds : List Dd) (c : Nat) (r : Int) : hd ds c r = (wn ds).find? fun k => decide (r ≤ (gd ds k).rk) && fl ds c k := by
  unfold hd wf
  rw [List.find?_filter]
  congr 1
  funext k
  rw [Bool.eq_iff_iff, decide_eq_true_eq, Bool.and_eq_true]
def ffE (l : Int) (ds : List Dd) (c : Nat) (r : Int) (e4 : En) : Ev := [.fz (bkD l ds), .fz (lotM c), .fz (.int r), .ol ((tr ds c).map lotM), e4]
theorem ffull_ev {l r : Int} {ds : List Dd} {c : Nat} (hl : ds.length ≤ 1000) (ok : Ok ds) (hc : c < 8) : Gv den_first_full [.fz (bkD l ds), .fz (lotM c), .fz (.int r)] (.fz (optM (hd ds c r))) := by
  have s1 : (sSet 3 (dFn (den_past) (aCons (ofD (dName 0)) (aCons (ofD (dName 1)) (aCons (ofD (frz (dCall lenD (dCons (dPeek 0 (dC (.int 2))) dNil)))) aNil))))) [.fz (bkD l ds), .fz (lotM c), .fz (.int r), .no, .no] = .ok (.nx, ffE l ds c r .no) :=
    ev_setTo (ρ1 := [.fz (bkD l ds), .fz (lotM c), .fz (.int r), .no, .no]) (past_at rfl rfl hl ok hc) rfl rfl
  have h0 : (iSeq (frz (dFn (den_writes) (aCons (ofD (dName 0)) aNil)))) (ffE l ds c r .no) = .ok ((wn ds).map intM, ffE l ds c r .no) := ev_iseq (frzL (gv_fn (as := [.fz (bkD l ds)]) rfl rfl rfl (writes_ev hl))) rfl
  obtain ⟨ρ', q⟩ := ev_loopX (u := intM) (h := hName 4) (fb := sIf (dAndT (dCmpT geD (frz (dBin ixD (frz (dBin ixD (dPeek 0 (dC (.int 2))) (dName 4))) (dC (.int 2)))) (dName 2)) (dNotT (dTru (frz (dFn (den_room) (aCons (ofD (frz (dBin ixD (frz (dBin ixD (dPeek 0 (dC (.int 2))) (dName 4))) (dC (.int 4))))) (aCons (ofD (dPeek 3 (frz (dBin addD (dName 4) (dC (.int 1)))))) aNil))))))) (sRet (dMove 4)) sNx)
    (fun pr σ => ∃ e4, okEn e4 ∧ σ = ffE l ds c r e4 ∧ ∀ k ∈ pr, (decide (r ≤ (gd ds k).rk) && fl ds c k) = false) (fun x => ∃ k, x = .fz (intM k) ∧ hd ds c r = some k)
    (wn ds) [] (ffE l ds c r .no) (fun pr k po e σ i => by
      obtain ⟨e4, o4, rfl, hp⟩ := i
      have e' : wn ds = pr ++ k :: po := e
      have hk : k ∈ wn ds := by rw [e']; simp
      obtain ⟨k1, k2⟩ := wn_lt hk
      have o := gd_ok ok k1
      refine ⟨ffE l ds c r (.fz (intM k)), ffE l ds c r (.fz (intM k)), by rcases o4 with rfl | ⟨d, rfl⟩ <;> rfl, ?_⟩
      have t1 : (dCmpT geD (frz (dBin ixD (frz (dBin ixD (dPeek 0 (dC (.int 2))) (dName 4))) (dC (.int 2)))) (dName 2)) (ffE l ds c r (.fz (intM k))) = .ok (decide (r ≤ (gd ds k).rk), ffE l ds c r (.fz (intM k))) :=
        ev_cmpT (frzF (ev_bin (frzF (ev_bin (bk2 rfl) rfl (ix_ds k1))) rfl (ix_rk k2))) rfl rfl
      have t2 : (dNotT (dTru (frz (dFn (den_room) (aCons (ofD (frz (dBin ixD (frz (dBin ixD (dPeek 0 (dC (.int 2))) (dName 4))) (dC (.int 4))))) (aCons (ofD (dPeek 3 (frz (dBin addD (dName 4) (dC (.int 1)))))) aNil)))))) (ffE l ds c r (.fz (intM k))) = .ok (!(!(fl ds c k)), ffE l ds c r (.fz (intM k))) :=
        ev_bnd (ev_bnd (frzF (gv_fn (as := [.fz (famM (gd ds k).fam), .fz (lotM (at0 (ds.drop (k + 1)) c))]) (ev_aconsF (ev_ofD (frzF (ev_bin (frzF (ev_bin (bk2 rfl) rfl (ix_ds k1))) rfl (ix_fam k2)))) (ev_aconsF (ev_ofD (ev_peek rfl (frzF (ev_bin rfl rfl (addD_n k 1))) (lot_at k1))) rfl)) rfl rfl (room_ev (ok_fam o).1 (Nat.le_trans (ok_fam o).2 (by decide)) (at0_lt hc (ok_drop ok _))))) (ev_lft rfl)) rfl
      have t : (dAndT (dCmpT geD (frz (dBin ixD (frz (dBin ixD (dPeek 0 (dC (.int 2))) (dName 4))) (dC (.int 2)))) (dName 2)) (dNotT (dTru (frz (dFn (den_room) (aCons (ofD (frz (dBin ixD (frz (dBin ixD (dPeek 0 (dC (.int 2))) (dName 4))) (dC (.int 4))))) (aCons (ofD (dPeek 3 (frz (dBin addD (dName 4) (dC (.int 1)))))) aNil))))))) (ffE l ds c r (.fz (intM k))) = .ok (decide (r ≤ (gd ds k).rk) && fl ds c k, ffE l ds c r (.fz (intM k))) := by
        refine ev_bnd t1 ?_
        cases decide (r ≤ (gd ds k).rk) with
        | false => rfl
        | true => exact t2.trans (by rw [Bool.not_not]; rfl)
      cases z : (decide (r ≤ (gd ds k).rk) && fl ds c k) with
      | true => exact .inr ⟨.fz (intM k), ev_if t (by rw [z]; rfl), k, rfl, by rw [hd_wn, e']; exact find_pre hp z⟩
      | false =>
        refine .inl ⟨ev_if t (by rw [z]; rfl), _, .inr ⟨_, rfl⟩, rfl, fun j hj => ?_⟩
        rcases List.mem_append.mp hj with hj | hj
        · exact hp j hj
        · rw [List.mem_singleton.mp hj]; exact z) ⟨.no, .inl rfl, rfl, fun k hk => by simp at hk⟩
  rcases q with ⟨e, _, _, rfl, hp⟩ | ⟨x, e, k, rfl, k1⟩
  · rw [show hd ds c r = none by rw [hd_wn]; exact List.find?_eq_none.mpr fun j hj => by rw [hp j (by simpa using hj)]; exact Bool.false_ne_true]
    exact gv_run ⟨_, ev_seq s1 (ev_seq (ev_bnd h0 e) rfl)⟩
  · rw [k1]
    exact gv_run ⟨_, ev_seq s1 (ev_seqR (ev_bnd h0 e))⟩
/-! ### stays -/
theorem c_in8 : (List.range 8).all (fun m => (List.range 3).all fun p => isR (inD (intM p) (lotM m)) (.fz (.bool (has m p)))) = true := by kernel_rfl
def syE (l : Int) (ds : List Dd) (c p s : Nat) (e4 : En) (xs : List Nat) : Ev := [.fz (bkD l ds), .fz (lotM c), .fz (intM p), .fz (intM s), e4, .ol ((tr ds c).map lotM), .ol (xs.map intM)]
theorem stays_ev {l : Int} {ds : List Dd} {c p s : Nat} (hl : ds.length ≤ 1000) (ok : Ok ds) (hc : c < 8) (hp : p < 3) (hs : s ≤ ds.length) (h : has (at0 (ds.drop s) c) p = true) : Gv den_stays [.fz (bkD l ds), .fz (lotM c), .fz (intM p), .fz (intM s)] (.fz (.tuple ((road ds c s p).map intM))) := by
  have s1 : (sParA 5 6 (aCons (dFn (den_past) (aCons (ofD (dName 0)) (aCons (ofD (dName 1)) (aCons (ofD (frz (dCall lenD (dCons (dPeek 0 (dC (.int 2))) dNil)))) aNil)))) (aCons (dLst (dCons (dName 2) dNil)) aNil))) [.fz (bkD l ds), .fz (lotM c), .fz (intM p), .fz (intM s), .no, .no, .no] = .ok (.nx, syE l ds c p s .no [p]) :=
    ev_bnd (ev_aconsO (past_at rfl rfl hl ok hc) (ev_aconsO (xs := [intM p]) rfl rfl)) rfl
  have h0 : (iRg2 (dCons (dName 3) (dCons (frz (dCall lenD (dCons (dPeek 0 (dC (.int 2))) dNil))) dNil))) (syE l ds c p s .no [p]) = .ok ((List.range (ds.length - s)).map fun i => intM (s + i), syE l ds c p s .no [p]) := by
    refine ev_bnd (ev_cons rfl (ev_cons (len_bk rfl) ev_nil)) (ev_lft ?_)
    show (if small62 (s : Int) && small62 (ds.length : Int) then some (rgD (s : Int) ((ds.length : Int) - (s : Int)).toNat) else none) = _
    rw [small_n (by omega), small_n (by omega), show ((ds.length : Int) - (s : Int)).toNat = ds.length - s by omega]
    rfl
  obtain ⟨ρ', q, e4, _, rfl⟩ := ev_loopI (u := fun i => intM (s + i)) (h := hName 4) (fb := sApp 6 (dIf (dCmpT inD (dPeek 6 (dUn negD (dC (.int 1)))) (dPeek 5 (frz (dBin addD (dName 4) (dC (.int 1)))))) (dPeek 6 (dUn negD (dC (.int 1)))) (frz (dBin ixD (frz (dBin ixD (dPeek 0 (dC (.int 2))) (dName 4))) (dC (.int 3)))))) (fun pr σ => ∃ e4, okEn e4 ∧ σ = syE l ds c p s e4 ((List.range (pr.length + 1)).map (pos ds c s p))) (List.range (ds.length - s)) (syE l ds c p s .no [p]) (fun pr i po e σ hi => by
      obtain ⟨e4, o4, rfl⟩ := hi
      obtain ⟨rfl, hlt⟩ := rng_pre e
      have k1 : s + pr.length < ds.length := by omega
      obtain ⟨p1, p2⟩ := pos_in ok hc hp h pr.length (by omega)
      rw [drop_gd k1] at p2
      have m1 := at0_lt hc (ok_drop ok (s + pr.length + 1))
      have pl := pos_last ds c s p pr.length
      have sz : (((List.range (pr.length + 1)).map (pos ds c s p)).map intM).length < 16777216 := by simp; omega
      have fin : ∀ x, pos ds c s p (pr.length + 1) = x → (syE l ds c p s (.fz (intM (s + pr.length))) ((List.range (pr.length + 1)).map (pos ds c s p))).set 6 (reKind (syE l ds c p s (.fz (intM (s + pr.length))) ((List.range (pr.length + 1)).map (pos ds c s p)))[6]? (((List.range (pr.length + 1)).map (pos ds c s p)).map intM ++ [intM x])) = syE l ds c p s (.fz (intM (s + pr.length))) ((List.range (pr.length + 1 + 1)).map (pos ds c s p)) := fun x hx => by
        subst hx
        unfold syE
        rw [pos_more]
        rfl
      have t : (dCmpT inD (dPeek 6 (dUn negD (dC (.int 1)))) (dPeek 5 (frz (dBin addD (dName 4) (dC (.int 1)))))) (syE l ds c p s (.fz (intM (s + pr.length))) ((List.range (pr.length + 1)).map (pos ds c s p))) = .ok (has (at0 (ds.drop (s + pr.length + 1)) c) (pos ds c s p pr.length), syE l ds c p s (.fz (intM (s + pr.length))) ((List.range (pr.length + 1)).map (pos ds c s p))) :=
        ev_cmpT (ev_peek rfl rfl pl) (ev_peek rfl (frzF (ev_bin rfl rfl (addD_n _ 1))) (lot_at k1)) (isR_ok (all1 (all1 c_in8 m1) p1))
      have v : (dIf (dCmpT inD (dPeek 6 (dUn negD (dC (.int 1)))) (dPeek 5 (frz (dBin addD (dName 4) (dC (.int 1)))))) (dPeek 6 (dUn negD (dC (.int 1)))) (frz (dBin ixD (frz (dBin ixD (dPeek 0 (dC (.int 2))) (dName 4))) (dC (.int 3))))) (syE l ds c p s (.fz (intM (s + pr.length))) ((List.range (pr.length + 1)).map (pos ds c s p))) = .ok (intM (pos ds c s p (pr.length + 1)), syE l ds c p s (.fz (intM (s + pr.length))) ((List.range (pr.length + 1)).map (pos ds c s p))) := by
        refine ev_bnd t ?_
        by_cases z : has (at0 (ds.drop (s + pr.length + 1)) c) (pos ds c s p pr.length) = true
        · rw [z, show pos ds c s p (pr.length + 1) = pos ds c s p pr.length from if_pos z]
          exact ev_peek (i := 6) (ρ := syE l ds c p s (.fz (intM (s + pr.length))) ((List.range (pr.length + 1)).map (pos ds c s p))) (ρ1 := syE l ds c p s (.fz (intM (s + pr.length))) ((List.range (pr.length + 1)).map (pos ds c s p))) (f := dUn negD (dC (.int 1))) rfl rfl pl
        · rw [show has (at0 (ds.drop (s + pr.length + 1)) c) (pos ds c s p pr.length) = false by simpa using z]
          rcases from_ah (gd_ok ok k1) m1 p1 p2 with q | ⟨t, q, e, q1, q2⟩
          · exact absurd q z
          · have en : pos ds c s p (pr.length + 1) = q := by
              show nxt _ _ _ = q
              unfold nxt
              rw [if_neg z, e]
              rfl
            have ix : ixD (gd ds (s + pr.length)).d (.int 3) = some (.fz (intM q)) := by rw [e]; rfl
            rw [en]
            exact frzF (ρ := syE l ds c p s (.fz (intM (s + pr.length))) ((List.range (pr.length + 1)).map (pos ds c s p))) (f := dBin ixD (frz (dBin ixD (dPeek 0 (dC (.int 2))) (dName 4))) (dC (.int 3))) (ev_bin (frzF (ev_bin (bk2 rfl) rfl (ix_ds k1))) rfl ix)
      exact ⟨syE l ds c p s (.fz (intM (s + pr.length))) ((List.range (pr.length + 1)).map (pos ds c s p)), syE l ds c p s (.fz (intM (s + pr.length))) ((List.range (pr.length + 1 + 1)).map (pos ds c s p)), by rcases o4 with rfl | ⟨d, rfl⟩ <;> rfl,
        (ev_appS (i := 6) (ρ := syE l ds c p s (.fz (intM (s + pr.length))) ((List.range (pr.length + 1)).map (pos ds c s p))) rfl v rfl sz).trans (by rw [fin _ rfl]), _, .inr ⟨_, rfl⟩, by rw [List.length_append]; rfl⟩) ⟨.no, .inl rfl, rfl⟩
  rw [List.length_range] at q
  exact gv_run ⟨_, ev_seq s1 (ev_seq (ev_bnd h0 q) (ev_ret (ev_call (ev_cons rfl ev_nil) rfl)))⟩
end K15

/-! A10: the law's roads. -/
namespace K15
open PySem PySem.Spec L2 Gx M10
open PyProof.Rows hiding St
theorem neD_int (a : Int) : neD (.int a) (.int a) = some (.fz (.bool false)) := by
  rw [neD_p rfl rfl]
  simp [PyData.eqv]
abbrev irT : Dn Fl := sSeq (sSet 6 (ofD (dAnd (frz (dBin eqD (dName 8) (dName 5))) (dNot (dAnd (frz (dBin eqD (dPeek 7 (dC (.int 0))) (dC (.str "lose")))) (frz (dBin eqD (dPeek 7 (dC (.int 2))) (dName 8))))))))
    (sIf (dAndT (dNotT (dTru (dName 6))) (dCmpT neD (frz (dBin addD (frz (dSl (dName 7) dOff (dOn (dC (.int 1))))) (frz (dSl (dName 7) (dOn (dC (.int 2))) dOff)))) (dTup (dCons (dC (.str "copy")) (dCons (dName 8) (dCons (dName 5) dNil)))))) (sRet (ofD (dC (.bool false)))) sNx)
abbrev irB : Dn Fl := sSeq (sPar [7, 8] (dCons (frz (dBin ixD (dPeek 0 (dC (.int 2))) (frz (dBin addD (dName 3) (dName 4))))) (dCons (dPeek 1 (dName 4)) dNil)))
    (sSeq (sSet 5 (ofD (dPeek 1 (frz (dBin addD (dName 4) (dC (.int 1)))))))
    irT)
def irE (a b c s k e5 e6 : En) (d : PyData) (p : Nat) : Ev := [a, b, c, s, k, e5, e6, .fz d, .fz (intM p)]
theorem ir_same {a b c s k e6 : En} {d : Dd} (ok : d.ok) (o6 : okEn e6) : ∀ p, p < 3 → (∀ t, d ≠ .lose t p) → irT (irE a b c s k (.fz (intM p)) e6 d.d p) = .ok (.nx, irE a b c s k (.fz (intM p)) (.fz (.bool true)) d.d p) := by
  rcases d with ⟨w, t, r, h, ks⟩ | t | ⟨t, x⟩ | ⟨_ | _, t, x, q⟩
  · rcases o6 with rfl | ⟨y, rfl⟩ <;> cases w <;> refine fa3 ?_ ?_ ?_ <;> intro _ <;> kernel_rfl
  · rcases o6 with rfl | ⟨y, rfl⟩ <;> refine fa3 ?_ ?_ ?_ <;> intro _ <;> kernel_rfl
  · have z : ∀ x, x < 3 → ∀ p, p < 3 → x ≠ p → irT (irE a b c s k (.fz (intM p)) e6 (Dd.lose t x).d p) = .ok (.nx, irE a b c s k (.fz (intM p)) (.fz (.bool true)) (Dd.lose t x).d p) := by
      rcases o6 with rfl | ⟨y, rfl⟩ <;> refine fa3 ?_ ?_ ?_ <;> refine fa3 ?_ ?_ ?_ <;> intro ne <;> first | exact absurd rfl ne | kernel_rfl
    exact fun p hp ne => z x ok p hp fun e => ne t (by rw [e])
  · rcases o6 with rfl | ⟨y, rfl⟩ <;> refine fa3 ?_ ?_ ?_ <;> intro _ <;> kernel_rfl
  · rcases o6 with rfl | ⟨y, rfl⟩ <;> refine fa3 ?_ ?_ ?_ <;> intro _ <;> kernel_rfl
theorem ir_move {a b c s k e6 : En} {t : Int} (o6 : okEn e6) : ∀ p, p < 3 → ∀ q, q < 3 → p ≠ q → irT (irE a b c s k (.fz (intM q)) e6 (Dd.cp true t p q).d p) = .ok (.nx, irE a b c s k (.fz (intM q)) (.fz (.bool false)) (Dd.cp true t p q).d p) := by
  rcases o6 with rfl | ⟨y, rfl⟩ <;> refine fa3 ?_ ?_ ?_ <;> refine fa3 ?_ ?_ ?_ <;> intro ne <;> first | exact absurd rfl ne | kernel_rfl
theorem c_lose : (List.range 8).all (fun m => (List.range 3).all fun p => !(has (if has m p then m - 1 <<< p else m) p)) = true := by decide +kernel
theorem road_len (ds : List Dd) (c s p : Nat) : (road ds c s p).length = ds.length - s + 1 := by unfold road; simp
theorem road_at {ds : List Dd} {c s p j : Nat} (h : j ≤ ds.length - s) : itemE (some (.fz (.tuple ((road ds c s p).map intM)))) (intM j) = some (intM (pos ds c s p j)) := by
  show atI ((road ds c s p).map intM) (j : Int) = _
  rw [at_n (by rw [List.length_map, road_len]; omega), List.getElem?_map]
  unfold road
  rw [List.getElem?_map, List.getElem?_range (by omega)]
  rfl
theorem isroad_ev {l : Int} {ds : List Dd} {c p s : Nat} (hl : ds.length ≤ 1000) (ok : Ok ds) (hc : c < 8) (hp : p < 3) (hs : s ≤ ds.length) (h : has (at0 (ds.drop s) c) p = true) : Gv den_is_road [.fz (bkD l ds), .fz (.tuple ((road ds c s p).map intM)), .fz (intM ds.length), .fz (intM s)] (.fz (.bool true)) := by
  have ln : ∀ ρ : Ev, ρ[1]? = some (.fz (.tuple ((road ds c s p).map intM))) → (dLenP 1) ρ = .ok (intM (ds.length - s + 1), ρ) := fun ρ h => by
    unfold dLenP
    rw [h]
    show Rs.ok (PyData.int (((road ds c s p).map intM).length : Nat), ρ) = _
    rw [List.length_map, road_len]
    rfl
  generalize hR : En.fz (.tuple ((road ds c s p).map intM)) = R at ln ⊢
  have rat : ∀ j, j ≤ ds.length - s → itemE (some R) (intM j) = some (intM (pos ds c s p j)) := fun j hj => by rw [← hR]; exact road_at hj
  have rsq : (seqE (some R)).isSome = true := by rw [← hR]; rfl
  have t0 : (dOrT (dNotT (dTru (dUn (isiD .tup) (dName 1)))) (dCmpT neD (dLenP 1) (frz (dBin addD (frz (dBin subD (dName 2) (dName 3))) (dC (.int 1)))))) [.fz (bkD l ds), R, .fz (intM ds.length), .fz (intM s), .no, .no, .no, .no, .no] = .ok (false, [.fz (bkD l ds), R, .fz (intM ds.length), .fz (intM s), .no, .no, .no, .no, .no]) := by
    refine ev_bnd (a := false) (ρ1 := [.fz (bkD l ds), R, .fz (intM ds.length), .fz (intM s), .no, .no, .no, .no, .no]) (by rw [← hR]; rfl) ?_
    refine ev_cmpT (ln _ rfl) (y := .int ((ds.length - s + 1 : Nat) : Int)) (frzF (ev_bin (frzF (ev_bin rfl rfl rfl)) rfl ?_)) (neD_int _)
    show fI ((ds.length : Int) - (s : Int) + 1) = _
    rw [show (ds.length : Int) - (s : Int) + 1 = ((ds.length - s + 1 : Nat) : Int) by omega]
    rfl
  have h0 : (iRg1 (dCons (frz (dBin subD (dLenP 1) (dC (.int 1)))) dNil)) [.fz (bkD l ds), R, .fz (intM ds.length), .fz (intM s), .no, .no, .no, .no, .no] = .ok ((List.range (ds.length - s)).map fun i => intM (0 + i), [.fz (bkD l ds), R, .fz (intM ds.length), .fz (intM s), .no, .no, .no, .no, .no]) := by
    refine ev_bnd (ev_cons (d := intM (ds.length - s)) (frzF (ev_bin (ln _ rfl) rfl ?_)) ev_nil) (ev_lft (rg1_n (by omega)))
    show fI (((ds.length - s + 1 : Nat) : Int) - 1) = _
    rw [show ((ds.length - s + 1 : Nat) : Int) - 1 = ((ds.length - s : Nat) : Int) by omega]
    rfl
  obtain ⟨ρ', q, e4, e5, e6, e7, e8, _, _, _, _, _, rfl⟩ := ev_loopI (u := fun i => intM (0 + i)) (h := hName 4) (fb := irB) (fun pr σ => ∃ e4 e5 e6 e7 e8, okEn e4 ∧ okEn e5 ∧ okEn e6 ∧ okEn e7 ∧ okEn e8 ∧ σ = [.fz (bkD l ds), R, .fz (intM ds.length), .fz (intM s), e4, e5, e6, e7, e8]) (List.range (ds.length - s)) [.fz (bkD l ds), R, .fz (intM ds.length), .fz (intM s), .no, .no, .no, .no, .no] (fun pr i po e σ hi => by
      obtain ⟨e4, e5, e6, e7, e8, o4, o5, o6, o7, o8, rfl⟩ := hi
      obtain ⟨rfl, hlt⟩ := rng_pre e
      have k1 : s + pr.length < ds.length := by omega
      obtain ⟨p1, p2⟩ := pos_in ok hc hp h pr.length (by omega)
      obtain ⟨p3, p4⟩ := pos_in ok hc hp h (pr.length + 1) (by omega)
      rw [drop_gd k1] at p2
      have m1 := at0_lt hc (ok_drop ok (s + pr.length + 1))
      rw [Nat.zero_add]
      have a1 : (sPar [7, 8] (dCons (frz (dBin ixD (dPeek 0 (dC (.int 2))) (frz (dBin addD (dName 3) (dName 4))))) (dCons (dPeek 1 (dName 4)) dNil))) [.fz (bkD l ds), R, .fz (intM ds.length), .fz (intM s), .fz (intM pr.length), e5, e6, e7, e8] = .ok (.nx, irE (.fz (bkD l ds)) R (.fz (intM ds.length)) (.fz (intM s)) (.fz (intM pr.length)) e5 e6 (gd ds (s + pr.length)).d (pos ds c s p pr.length)) := by
        refine ev_bnd (ev_cons (frzF (ev_bin (bk2 rfl) (frzF (ev_bin rfl rfl (addD_n s pr.length))) (ix_ds k1))) (ev_cons (ev_peek rsq rfl (rat _ (by omega))) ev_nil)) ?_
        rcases o7 with rfl | ⟨_, rfl⟩ <;> rcases o8 with rfl | ⟨_, rfl⟩ <;> rfl
      have a2 : (sSet 5 (ofD (dPeek 1 (frz (dBin addD (dName 4) (dC (.int 1))))))) (irE (.fz (bkD l ds)) R (.fz (intM ds.length)) (.fz (intM s)) (.fz (intM pr.length)) e5 e6 (gd ds (s + pr.length)).d (pos ds c s p pr.length)) = .ok (.nx, irE (.fz (bkD l ds)) R (.fz (intM ds.length)) (.fz (intM s)) (.fz (intM pr.length)) (.fz (intM (pos ds c s p (pr.length + 1)))) e6 (gd ds (s + pr.length)).d (pos ds c s p pr.length)) :=
        ev_setTo (ρ1 := irE (.fz (bkD l ds)) R (.fz (intM ds.length)) (.fz (intM s)) (.fz (intM pr.length)) e5 e6 (gd ds (s + pr.length)).d (pos ds c s p pr.length)) (ev_ofD (ev_peek rsq (frzF (ev_bin rfl rfl (addD_n _ 1))) (rat _ (by omega)))) (by rcases o5 with rfl | ⟨_, rfl⟩ <;> rfl) rfl
      have fin : ∃ b : Bool, irT (irE (.fz (bkD l ds)) R (.fz (intM ds.length)) (.fz (intM s)) (.fz (intM pr.length)) (.fz (intM (pos ds c s p (pr.length + 1)))) e6 (gd ds (s + pr.length)).d (pos ds c s p pr.length)) = .ok (.nx, irE (.fz (bkD l ds)) R (.fz (intM ds.length)) (.fz (intM s)) (.fz (intM pr.length)) (.fz (intM (pos ds c s p (pr.length + 1)))) (.fz (.bool b)) (gd ds (s + pr.length)).d (pos ds c s p pr.length)) := by
        by_cases z : has (at0 (ds.drop (s + pr.length + 1)) c) (pos ds c s p pr.length) = true
        · rw [show pos ds c s p (pr.length + 1) = pos ds c s p pr.length from if_pos z]
          refine ⟨true, ir_same (gd_ok ok k1) o6 _ p1 fun t e => ?_⟩
          rw [e] at p2
          have c1 := all1 (all1 c_lose m1) p1
          have p2' : has (if has (at0 (ds.drop (s + pr.length + 1)) c) (pos ds c s p pr.length) then at0 (ds.drop (s + pr.length + 1)) c - 1 <<< (pos ds c s p pr.length) else at0 (ds.drop (s + pr.length + 1)) c) (pos ds c s p pr.length) = true := p2
          rw [p2'] at c1
          cases c1
        · rcases from_ah (gd_ok ok k1) m1 p1 p2 with q | ⟨t, q, e, q1, q2⟩
          · exact absurd q z
          · have en : pos ds c s p (pr.length + 1) = q := by
              show nxt _ _ _ = q
              unfold nxt
              rw [if_neg z, e]
              rfl
            rw [en, e]
            exact ⟨false, ir_move o6 _ p1 q q1 fun e => z (by rw [e]; exact q2)⟩
      obtain ⟨b, fin⟩ := fin
      exact ⟨[.fz (bkD l ds), R, .fz (intM ds.length), .fz (intM s), .fz (intM pr.length), e5, e6, e7, e8], _, by rcases o4 with rfl | ⟨_, rfl⟩ <;> rfl, ev_seq a1 (ev_seq a2 fin), _, _, _, _, _, .inr ⟨_, rfl⟩, .inr ⟨_, rfl⟩, .inr ⟨_, rfl⟩, .inr ⟨_, rfl⟩, .inr ⟨_, rfl⟩, rfl⟩) ⟨.no, .no, .no, .no, .no, .inl rfl, .inl rfl, .inl rfl, .inl rfl, .inl rfl, rfl⟩
  exact gv_run ⟨_, ev_seq (ev_if t0 rfl) (ev_seq (ev_bnd h0 q) rfl)⟩
end K15

/-! A11: papers are right. -/
namespace K15
open PySem PySem.Spec L2 Gx M10
open PyProof.Rows hiding St
theorem den_same_eq : ∀ n : Nat, den_same n = denSame n
  | 0 => rfl
  | n + 1 => by
    show runF 2 4 (b_same (den_same n)) = runF 2 4 (bSame (denSame n))
    rw [den_same_eq n]
    rfl
theorem same_ev {d : PyData} (h : pln 5 d = true) : Gv (den_same 6) [.fz d, .fz d] (.fz (.bool true)) := ⟨_, by rw [den_same_eq]; exact same_refl 5 d h⟩
theorem pln_pv {ds : List Dd} (hl : ds.length ≤ 1000) (c : Nat) (r : Int) : pln 5 (pv ds c r) = true := by
  unfold pv
  cases hd ds c r with
  | none => rfl
  | some k =>
    refine pln_tup (k := 4) (fun x hx => ?_) (by simp)
    simp only [List.mem_cons, List.not_mem_nil, or_false] at hx
    rcases hx with rfl | rfl
    · exact pln_M 4 k
    · refine pln_tup (k := 3) (fun y hy => ?_) (by rw [List.length_map]; exact Nat.le_trans (List.length_filter_le _ _) (Nat.le_trans (bits_len _) (by decide)))
      obtain ⟨p, _, rfl⟩ := List.mem_map.mp hy
      refine pln_tup (k := 2) (fun z hz => ?_) (by rw [List.length_map, road_len]; omega)
      obtain ⟨m, _, rfl⟩ := List.mem_map.mp hz
      exact pln_M 2 m
theorem soft_ev {l : Int} {ds : List Dd} {c : Nat} (hl : ds.length ≤ 1000) (ok : Ok ds) : Gv (den_lists 8) [.fz (.list [bkD l ds, lotM c])] (.fz (.list [lis 6 (bkD l ds), lis 6 (lotM c)])) := by
  show Gv (runF 1 2 (b_lists (den_lists 7))) _ _
  have cc := ev_comp0 (ρ := [.fz (.list [bkD l ds, lotM c]), .no]) (ρ1 := [.fz (.list [bkD l ds, lotM c]), .no]) (u := fun x : PyData => x) (i := 1) (fi := iSeq (dName 0)) (fe := frz (dFn (den_lists 7) (aCons (ofD (dName 1)) aNil))) (ds := [bkD l ds, lotM c]) (lis 6) rfl rfl (fun x hx => frzF (gv_fn (as := [.fz x]) rfl rfl rfl (lis_ev 6 x (by
    simp only [List.mem_cons, List.not_mem_nil, or_false] at hx
    rcases hx with rfl | rfl
    · exact tpl_bk hl ok
    · exact tpl_lot 5 c)))) (by simp)
  exact gv_run ⟨_, ev_ret (ev_ofD (ev_bnd (a := true) rfl (frzL cc)))⟩
theorem notIn8 : (List.range 8).all (fun m => (List.range 3).all fun p => isR (notInD (intM p) (lotM m)) (.fz (.bool (!(has m p))))) = true := by kernel_rfl
def prE (l : Int) (ds : List Dd) (c : Nat) (r : Int) (e3 e4 e5 e6 e8 : En) : Ev := [.fz (bkD l ds), .fz (lotM c), .fz (.int r), e3, e4, e5, e6, .fz (pv ds c r), e8, .no, .no]
theorem at_end (ds : List Dd) (c : Nat) : at0 (ds.drop ds.length) c = c := by rw [List.drop_length]; rfl
theorem paper_ev {l r : Int} {ds : List Dd} {c : Nat} (hl : ds.length ≤ 1000) (ok : Ok ds) (hc : c < 8) (hr : 1 ≤ r) : Gv den_paper_right [.fz (bkD l ds), .fz (lotM c), .fz (.int r)] (.fz (.bool true)) := by
  have tb := tpl_bk (l := l) hl ok
  have s1 : (sAsg (dTup (dCons (frz (dFn (den_hold_paper) (aCons (ofD (dName 0)) (aCons (ofD (dName 1)) (aCons (ofD (dName 2)) aNil))))) (dCons (frz (dFn (den_first_full) (aCons (ofD (dName 0)) (aCons (ofD (dName 1)) (aCons (ofD (dName 2)) aNil))))) dNil))) (hTup 2 (hCons (hName 7) (hCons (hName 8) hNil)))) [.fz (bkD l ds), .fz (lotM c), .fz (.int r), .no, .no, .no, .no, .no, .no, .no, .no] = .ok (.nx, prE l ds c r .no .no .no .no (.fz (optM (hd ds c r)))) :=
    ev_bnd (ev_tup (ev_cons (frzF (gv_fn (as := [.fz (bkD l ds), .fz (lotM c), .fz (.int r)]) rfl rfl rfl (hold_ev hl ok hc hr (frz_id 6 _ tb) (frz_id 6 _ (tpl_lot 5 c))))) (ev_cons (frzF (gv_fn (as := [.fz (bkD l ds), .fz (lotM c), .fz (.int r)]) rfl rfl rfl (ffull_ev hl ok hc))) ev_nil)) rfl) rfl
  have s2 : (sSet 3 (dFn (den_lists 8) (aCons (ofD (frz (dLst (dCons (dName 0) (dCons (dName 1) dNil))))) aNil))) (prE l ds c r .no .no .no .no (.fz (optM (hd ds c r)))) = .ok (.nx, prE l ds c r (.fz (.list [lis 6 (bkD l ds), lis 6 (lotM c)])) .no .no .no (.fz (optM (hd ds c r)))) :=
    ev_setTo (ρ1 := prE l ds c r .no .no .no .no (.fz (optM (hd ds c r)))) (gv_fn (as := [.fz (.list [bkD l ds, lotM c])]) rfl rfl rfl (soft_ev hl ok)) rfl rfl
  have again : (frz (dFn (den_hold_paper) (dArP [2, 1, 0] (dCons (dName 2) (dCons (dPeek 3 (dC (.int 1))) (dCons (dPeek 3 (dC (.int 0))) dNil)))))) (prE l ds c r (.fz (.list [lis 6 (bkD l ds), lis 6 (lotM c)])) .no .no .no (.fz (optM (hd ds c r)))) = .ok (pv ds c r, prE l ds c r (.fz (.list [lis 6 (bkD l ds), lis 6 (lotM c)])) .no .no .no (.fz (optM (hd ds c r)))) :=
    frzF (gv_fn (as := [.fz (lis 6 (bkD l ds)), .fz (lis 6 (lotM c)), .fz (.int r)]) rfl rfl rfl (hold_ev hl ok hc hr (frz_lis 6 _ tb) (frz_lis 6 _ (tpl_lot 5 c))))
  have s3 : (sIf (dNotT (dTru (frz (dFn (den_same 6) (aCons (ofD (frz (dFn (den_hold_paper) (dArP [2, 1, 0] (dCons (dName 2) (dCons (dPeek 3 (dC (.int 1))) (dCons (dPeek 3 (dC (.int 0))) dNil))))))) (aCons (ofD (dName 7)) aNil)))))) (sRet (ofD (dC (.bool false)))) sNx) (prE l ds c r (.fz (.list [lis 6 (bkD l ds), lis 6 (lotM c)])) .no .no .no (.fz (optM (hd ds c r)))) = .ok (.nx, prE l ds c r (.fz (.list [lis 6 (bkD l ds), lis 6 (lotM c)])) .no .no .no (.fz (optM (hd ds c r)))) :=
    ev_if (ev_bnd (ev_bnd (frzF (gv_fn (as := [.fz (pv ds c r), .fz (pv ds c r)]) (ev_aconsF (ev_ofD again) rfl) rfl rfl (same_ev (pln_pv hl c r)))) (ev_lft rfl)) rfl) rfl
  cases e : hd ds c r with
  | none =>
    rw [e] at s1 s2 s3
    have p : pv ds c r = .none := by unfold pv; rw [e]
    have q7 : (dName 7) (prE l ds c r (.fz (.list [lis 6 (bkD l ds), lis 6 (lotM c)])) .no .no .no (.fz .none)) = .ok (.none, prE l ds c r (.fz (.list [lis 6 (bkD l ds), lis 6 (lotM c)])) .no .no .no (.fz .none)) := by
      show Rs.ok (pv ds c r, _) = _
      rw [p]
    have s4 : (sIf (dCmpT isND (dName 8) (dC .none)) (sRet (dBin isND (dName 7) (dC .none))) sNx) (prE l ds c r (.fz (.list [lis 6 (bkD l ds), lis 6 (lotM c)])) .no .no .no (.fz .none)) = .ok (.rt (.fz (.bool true)), prE l ds c r (.fz (.list [lis 6 (bkD l ds), lis 6 (lotM c)])) .no .no .no (.fz .none)) :=
      ev_if (b := true) rfl (ev_ret (f := dBin isND (dName 7) (dC .none)) (ev_bin q7 rfl rfl))
    exact gv_run ⟨_, ev_seq s1 (ev_seq s2 (ev_seq s3 (ev_seqR s4)))⟩
  | some k =>
    rw [e] at s1 s2 s3
    obtain ⟨k1, k2⟩ := hd_mem e
    have o := gd_ok ok k1
    have p : pv ds c r = .tuple [intM k, .tuple ((homes ds c k).map (roadD ds c k))] := by unfold pv; rw [e]
    have m1 : at0 (ds.drop (k + 1)) c < 8 := at0_lt hc (ok_drop ok _)
    have hb := b8 (ok_hm o)
    have hh : ∀ q ∈ homes ds c k, q < 3 ∧ has (at0 (ds.drop (k + 1)) c) q = true := fun q hq => ⟨hb q (List.mem_filter.mp hq).1, (List.mem_filter.mp hq).2⟩
    have hll : (homes ds c k).length ≤ 5 := Nat.le_trans (List.length_filter_le _ _) (bits_len _)
    generalize En.fz (.list [lis 6 (bkD l ds), lis 6 (lotM c)]) = S at s2 s3
    have h4 : (iSeq (frz (dBin ixD (frz (dBin ixD (dPeek 0 (dC (.int 2))) (dName 8))) (dC (.int 3))))) (prE l ds c r S .no .no .no (.fz (intM k))) = .ok ((bits (gd ds k).hm).map intM, prE l ds c r S .no .no .no (.fz (intM k))) :=
      ev_iseq (frzF (ev_bin (frzF (ev_bin (bk2 rfl) rfl (ix_ds k1))) rfl (ix_hm k2))) rfl
    have lotix : ixD (.list ((tr ds c).map lotM)) (intM (k + 1)) = some (.fz (lotM (at0 (ds.drop (k + 1)) c))) := by
      show (atI ((tr ds c).map lotM) ((k + 1 : Nat) : Int)).map Rv.fz = _
      rw [show atI ((tr ds c).map lotM) ((k + 1 : Nat) : Int) = some (lotM (at0 (ds.drop (k + 1)) c)) from lot_at k1]
      rfl
    have s5 : (sSet 4 (dComp (iSeq (frz (dBin ixD (frz (dBin ixD (dPeek 0 (dC (.int 2))) (dName 8))) (dC (.int 3))))) (hName 9) (dCmpT inD (dName 9) (frz (dBin ixD (frz (dFn (den_past) (aCons (ofD (dName 0)) (aCons (ofD (dName 1)) (aCons (ofD (frz (dCall lenD (dCons (dPeek 0 (dC (.int 2))) dNil)))) aNil))))) (frz (dBin addD (dName 8) (dC (.int 1))))))) (dName 9) [9])) (prE l ds c r S .no .no .no (.fz (intM k))) = .ok (.nx, prE l ds c r S (.ol ((homes ds c k).map intM)) .no .no (.fz (intM k))) :=
      ev_setTo (ev_comp1 (fun q => has (at0 (ds.drop (k + 1)) c) q) intM h4 rfl (fun q hq => ev_cmpT rfl (frzF (ev_bin (frzL (past_at rfl rfl hl ok hc)) (frzF (ev_bin rfl rfl (addD_n k 1))) lotix)) (isR_ok (all1 (all1 c_in8 m1) (hb q hq)))) (fun q _ _ => rfl) (by have := bits_len (gd ds k).hm; omega)) rfl rfl
    have s6 : (sSet 5 (dCall tupleD (dCons (frz (dComp (iSeq (dName 4)) (hName 9) yesT (frz (dFn (den_stays) (aCons (ofD (dName 0)) (aCons (ofD (dName 1)) (aCons (ofD (dName 9)) (aCons (ofD (frz (dBin addD (dName 8) (dC (.int 1))))) aNil)))))) [9])) dNil))) (prE l ds c r S (.ol ((homes ds c k).map intM)) .no .no (.fz (intM k))) = .ok (.nx, prE l ds c r S (.fz (.list ((homes ds c k).map intM))) (.fz (.tuple ((homes ds c k).map (roadD ds c k)))) .no (.fz (intM k))) :=
      ev_setTo (ρ1 := prE l ds c r S (.fz (.list ((homes ds c k).map intM))) .no .no (.fz (intM k))) (ev_call (ev_cons (frzL (ev_comp0 (ρ1 := prE l ds c r S (.fz (.list ((homes ds c k).map intM))) .no .no (.fz (intM k))) (roadD ds c k) (ev_iseq rfl rfl) rfl (fun q hq => frzF (gv_fn (as := [.fz (bkD l ds), .fz (lotM c), .fz (intM q), .fz (intM (k + 1))]) (ev_aconsF (ev_ofD rfl) (ev_aconsF (ev_ofD rfl) (ev_aconsF (ev_ofD rfl) (ev_aconsF (ev_ofD (frzF (ev_bin rfl rfl (addD_n k 1)))) rfl)))) rfl rfl (stays_ev hl ok hc (hh q hq).1 (by omega) (hh q hq).2))) (by omega))) ev_nil) rfl) rfl rfl
    have last : ∀ q, itemE (some (.fz (roadD ds c k q))) (.int (-1)) = some (intM (pos ds c (k + 1) q (ds.length - (k + 1)))) := fun q => by
      show atI ((road ds c (k + 1) q).map intM) (-1) = _
      unfold road
      rw [List.range_succ, List.map_append, List.map_append]
      exact at_last
    have s7 : (sSet 6 (dComp (iSeq (dName 5)) (hName 10) (dOrT (dNotT (dTru (frz (dFn (den_is_road) (aCons (ofD (dName 0)) (aCons (ofD (dName 10)) (aCons (ofD (frz (dCall lenD (dCons (dPeek 0 (dC (.int 2))) dNil)))) (aCons (ofD (frz (dBin addD (dName 8) (dC (.int 1))))) aNil)))))))) (dCmpT notInD (dPeek 10 (dUn negD (dC (.int 1)))) (dName 1))) (dName 10) [10])) (prE l ds c r S (.fz (.list ((homes ds c k).map intM))) (.fz (.tuple ((homes ds c k).map (roadD ds c k)))) .no (.fz (intM k))) = .ok (.nx, prE l ds c r S (.fz (.list ((homes ds c k).map intM))) (.fz (.tuple ((homes ds c k).map (roadD ds c k)))) (.ol []) (.fz (intM k))) := by
      have cc := ev_comp1 (ρ := prE l ds c r S (.fz (.list ((homes ds c k).map intM))) (.fz (.tuple ((homes ds c k).map (roadD ds c k)))) .no (.fz (intM k))) (ρ1 := prE l ds c r S (.fz (.list ((homes ds c k).map intM))) (.fz (.tuple ((homes ds c k).map (roadD ds c k)))) .no (.fz (intM k))) (u := roadD ds c k) (i := 10) (fi := iSeq (dName 5)) (ft := dOrT (dNotT (dTru (frz (dFn (den_is_road) (aCons (ofD (dName 0)) (aCons (ofD (dName 10)) (aCons (ofD (frz (dCall lenD (dCons (dPeek 0 (dC (.int 2))) dNil)))) (aCons (ofD (frz (dBin addD (dName 8) (dC (.int 1))))) aNil)))))))) (dCmpT notInD (dPeek 10 (dUn negD (dC (.int 1)))) (dName 1))) (fe := dName 10) (ds := homes ds c k) (fun _ => false) (roadD ds c k) (ev_iseq rfl rfl) rfl (fun q hq => by
        obtain ⟨q1, q2⟩ := hh q hq
        obtain ⟨w1, w2⟩ := pos_in ok hc q1 q2 (ds.length - (k + 1)) (by omega)
        rw [show k + 1 + (ds.length - (k + 1)) = ds.length by omega, at_end] at w2
        refine ev_bnd (a := false) (ev_bnd (ev_bnd (frzF (gv_fn (as := [.fz (bkD l ds), .fz (roadD ds c k q), .fz (intM ds.length), .fz (intM (k + 1))]) (ev_aconsF (ev_ofD rfl) (ev_aconsF (ev_ofD rfl) (ev_aconsF (ev_ofD (len_bk rfl)) (ev_aconsF (ev_ofD (frzF (ev_bin rfl rfl (addD_n k 1)))) rfl)))) rfl rfl (isroad_ev hl ok hc q1 (by omega) q2))) (ev_lft rfl)) rfl) ?_
        refine ev_cmpT (ev_peek rfl rfl (last q)) rfl ((isR_ok (all1 (all1 notIn8 hc) w1)).trans ?_)
        rw [w2]
        rfl) (fun _ _ z => by cases z) (by omega)
      rw [List.filter_eq_nil_iff.mpr (fun _ _ => Bool.false_ne_true)] at cc
      exact ev_setTo cc rfl rfl
    have s8 : (dAnd (frz (dBin eqD (dName 6) (frz (dLst dNil)))) (frz (dFn (den_same 6) (aCons (ofD (dName 7)) (aCons (ofD (dTup (dCons (dName 8) (dCons (dName 5) dNil)))) aNil))))) (prE l ds c r S (.fz (.list ((homes ds c k).map intM))) (.fz (.tuple ((homes ds c k).map (roadD ds c k)))) (.ol []) (.fz (intM k))) = .ok (.bool true, prE l ds c r S (.fz (.list ((homes ds c k).map intM))) (.fz (.tuple ((homes ds c k).map (roadD ds c k)))) (.fz (.list [])) (.fz (intM k))) := by
      refine ev_and (x := .bool true) (ρ1 := prE l ds c r S (.fz (.list ((homes ds c k).map intM))) (.fz (.tuple ((homes ds c k).map (roadD ds c k)))) (.fz (.list [])) (.fz (intM k))) (frzF (ev_bin (x := .list []) (y := .list []) rfl rfl (by kernel_rfl))) rfl (frzF (gv_fn (as := [.fz (pv ds c r), .fz (pv ds c r)]) ?_ rfl rfl (same_ev (pln_pv hl c r))))
      have tup : (dTup (dCons (dName 8) (dCons (dName 5) dNil))) (prE l ds c r S (.fz (.list ((homes ds c k).map intM))) (.fz (.tuple ((homes ds c k).map (roadD ds c k)))) (.fz (.list [])) (.fz (intM k))) = .ok (pv ds c r, prE l ds c r S (.fz (.list ((homes ds c k).map intM))) (.fz (.tuple ((homes ds c k).map (roadD ds c k)))) (.fz (.list [])) (.fz (intM k))) := by
        rw [p]
        exact ev_tup (ev_cons rfl (ev_cons rfl ev_nil)) rfl
      exact ev_aconsF (ev_ofD rfl) (ev_aconsF (ev_ofD tup) rfl)
    exact gv_run ⟨_, ev_seq s1 (ev_seq s2 (ev_seq s3 (ev_seq (ev_if (b := false) rfl rfl) (ev_seq s5 (ev_seq s6 (ev_seq s7 (ev_ret (ev_ofD s8))))))))⟩
end K15

/-! A12: what is held by some, what some miss. -/
namespace K15
open PySem PySem.Spec L2 Gx M10
open PyProof.Rows hiding St
def hbS (ds : List Dd) (c : Nat) (a : Int) (k : Nat) : Int := if fl ds c k then (gd ds k).rk else a
def hb (ds : List Dd) (c : Nat) : Int := (wf ds 1).foldl (hbS ds c) 0
def hbE (l : Int) (ds : List Dd) (c : Nat) (e3 : En) (a : Int) (e5 e6 : En) : Ev := [.fz (bkD l ds), .fz (.list ((wf ds 1).map (offM ds))), .fz (lotM c), e3, .fz (.int a), e5, e6]
theorem hb_body {l : Int} {ds : List Dd} {c k : Nat} {a : Int} {ρ : Ev} (hl : ds.length ≤ 1000) (ok : Ok ds) (hc : c < 8) (k1 : k < ds.length) (k2 : (gd ds k).isW = true) :
    (sIf (dCmpT isND (frz (dFn (den_first_free) (aCons (ofD (dName 6)) (aCons (ofD (dPeek 3 (frz (dBin addD (dName 5) (dC (.int 1)))))) aNil)))) (dC .none)) (sSet 4 (dBin ixD (frz (dBin ixD (dPeek 0 (dC (.int 2))) (dName 5))) (dC (.int 2)))) sNx) (hbE l ds c (.ol ((tr ds c).map intM)) a (.fz (intM k)) (.fz (.list ((gd ds k).fam.map intM)))) = .ok (.nx, hbE l ds c (.ol ((tr ds c).map intM)) (hbS ds c a k) (.fz (intM k)) (.fz (.list ((gd ds k).fam.map intM)))) := by
  have mk : itemE (some (.ol ((tr ds c).map intM))) (intM (k + 1)) = some (intM (at0 (ds.drop (k + 1)) c)) := mask_at k1
  have t := held_at (ρ := hbE l ds c (.ol ((tr ds c).map intM)) a (.fz (intM k)) (.fz (.list ((gd ds k).fam.map intM)))) (ρ1 := []) (fl1 := dName 6) (fn := dPeek 3 (frz (dBin addD (dName 5) (dC (.int 1))))) ok hc k1 hl rfl (ev_peek rfl (frzF (ev_bin rfl rfl (addD_n k 1))) mk)
  refine ev_if t ?_
  cases z : fl ds c k with
  | true =>
    rw [show hbS ds c a k = (gd ds k).rk by unfold hbS; rw [z]; rfl]
    exact ev_setTo (i := 4) (ρ := hbE l ds c (.ol ((tr ds c).map intM)) a (.fz (intM k)) (.fz (.list ((gd ds k).fam.map intM)))) (ρ1 := hbE l ds c (.ol ((tr ds c).map intM)) a (.fz (intM k)) (.fz (.list ((gd ds k).fam.map intM)))) (f := dBin ixD (frz (dBin ixD (dPeek 0 (dC (.int 2))) (dName 5))) (dC (.int 2))) (ev_bin (frzF (ev_bin (bk2 rfl) rfl (ix_ds k1))) rfl (ix_rk k2)) rfl rfl
  | false =>
    rw [show hbS ds c a k = a by unfold hbS; rw [z]; rfl]
    rfl
theorem heldby_ev {l : Int} {ds : List Dd} {c : Nat} (hl : ds.length ≤ 1000) (ok : Ok ds) (hc : c < 8) : Gv den_held_by [.fz (bkD l ds), .fz (.list ((wf ds 1).map (offM ds))), .fz (lotM c)] (.fz (.int (hb ds c))) := by
  have s1 : (sSet 3 (dFn (den_masks_behind) (aCons (ofD (dName 0)) (aCons (ofD (dName 2)) aNil)))) [.fz (bkD l ds), .fz (.list ((wf ds 1).map (offM ds))), .fz (lotM c), .no, .no, .no, .no] = .ok (.nx, [.fz (bkD l ds), .fz (.list ((wf ds 1).map (offM ds))), .fz (lotM c), .ol ((tr ds c).map intM), .no, .no, .no]) :=
    ev_setTo (ρ1 := [.fz (bkD l ds), .fz (.list ((wf ds 1).map (offM ds))), .fz (lotM c), .no, .no, .no, .no]) (gv_fn (as := [.fz (bkD l ds), .fz (lotM c)]) rfl rfl rfl (behind_ev hl ok hc)) rfl rfl
  obtain ⟨ρ', q, e5, e6, _, _, rfl⟩ := ev_loopI (u := offM ds) (h := hTup 2 (hCons (hName 5) (hCons (hName 6) hNil))) (fb := sIf (dCmpT isND (frz (dFn (den_first_free) (aCons (ofD (dName 6)) (aCons (ofD (dPeek 3 (frz (dBin addD (dName 5) (dC (.int 1)))))) aNil)))) (dC .none)) (sSet 4 (dBin ixD (frz (dBin ixD (dPeek 0 (dC (.int 2))) (dName 5))) (dC (.int 2)))) sNx)
    (fun pr σ => ∃ e5 e6, okEn e5 ∧ okEn e6 ∧ σ = hbE l ds c (.ol ((tr ds c).map intM)) (pr.foldl (hbS ds c) 0) e5 e6) (wf ds 1) (hbE l ds c (.ol ((tr ds c).map intM)) 0 .no .no) (fun pr k po e σ hi => by
      obtain ⟨e5, e6, o5, o6, rfl⟩ := hi
      have hk : k ∈ wf ds 1 := by rw [e]; simp
      obtain ⟨k1, k2⟩ := wn_lt (wf_mem hk)
      refine ⟨hbE l ds c (.ol ((tr ds c).map intM)) (pr.foldl (hbS ds c) 0) (.fz (intM k)) (.fz (.list ((gd ds k).fam.map intM))), _, by rcases o5 with rfl | ⟨_, rfl⟩ <;> rcases o6 with rfl | ⟨_, rfl⟩ <;> rfl, hb_body (ρ := []) hl ok hc k1 k2, .fz (intM k), .fz (.list ((gd ds k).fam.map intM)), .inr ⟨_, rfl⟩, .inr ⟨_, rfl⟩, ?_⟩
      rw [List.foldl_append]
      rfl) ⟨.no, .no, .inl rfl, .inl rfl, rfl⟩
  exact gv_run ⟨_, ev_seq s1 (ev_seq (ρ1 := hbE l ds c (.ol ((tr ds c).map intM)) 0 .no .no) rfl (ev_seq (ev_bnd rfl q) rfl))⟩
theorem pln_Ms (k : Nat) {ms : List Nat} (hl : ms.length ≤ 1000) : pln (k + 1) (.list (ms.map intM)) = true := pln_lst (fun x hx => by
  obtain ⟨p, _, rfl⟩ := List.mem_map.mp hx
  exact pln_M k p) (by rw [List.length_map]; omega)
theorem ms_eq {ms : List Nat} (hl : ms.length ≤ 1000) : eqD (.list (ms.map intM)) (.list []) = some (.fz (.bool ms.isEmpty)) := by
  rw [eqD_p (pln_Ms 8 hl) (by rfl), eqv_nil, List.isEmpty_map]
def mis (ds : List Dd) (c : Nat) (r : Int) : Bool := (wf ds r).all fun k => !(fl ds c k)
theorem misses_ev {l r : Int} {ds : List Dd} {c : Nat} (hl : ds.length ≤ 1000) (ok : Ok ds) (hc : c < 8) : Gv den_misses [.fz (bkD l ds), .fz (lotM c), .fz (.int r)] (.fz (.bool (mis ds c r))) := by
  have s1 : (sSet 3 (dFn (den_past) (aCons (ofD (dName 0)) (aCons (ofD (dName 1)) (aCons (ofD (frz (dCall lenD (dCons (dPeek 0 (dC (.int 2))) dNil)))) aNil))))) [.fz (bkD l ds), .fz (lotM c), .fz (.int r), .no, .no, .no] = .ok (.nx, [.fz (bkD l ds), .fz (lotM c), .fz (.int r), .ol ((tr ds c).map lotM), .no, .no]) :=
    ev_setTo (ρ1 := [.fz (bkD l ds), .fz (lotM c), .fz (.int r), .no, .no, .no]) (past_at rfl rfl hl ok hc) rfl rfl
  have h2 : (iSeq (frz (dFn (den_writes) (aCons (ofD (dName 0)) aNil)))) [.fz (bkD l ds), .fz (lotM c), .fz (.int r), .ol ((tr ds c).map lotM), .no, .no] = .ok ((wn ds).map intM, [.fz (bkD l ds), .fz (lotM c), .fz (.int r), .ol ((tr ds c).map lotM), .no, .no]) := ev_iseq (frzL (gv_fn (as := [.fz (bkD l ds)]) rfl rfl rfl (writes_ev hl))) rfl
  have s2 : (sSet 4 (dComp (iSeq (frz (dFn (den_writes) (aCons (ofD (dName 0)) aNil)))) (hName 5) (dCmpT geD (frz (dBin ixD (frz (dBin ixD (dPeek 0 (dC (.int 2))) (dName 5))) (dC (.int 2)))) (dName 2)) (dName 5) [5])) [.fz (bkD l ds), .fz (lotM c), .fz (.int r), .ol ((tr ds c).map lotM), .no, .no] = .ok (.nx, [.fz (bkD l ds), .fz (lotM c), .fz (.int r), .ol ((tr ds c).map lotM), .ol ((wf ds r).map intM), .no]) :=
    ev_setTo (ev_comp1 (fun k => decide (r ≤ (gd ds k).rk)) intM h2 rfl (fun k hk => ev_cmpT (frzF (ev_bin (frzF (ev_bin (bk2 rfl) rfl (ix_ds (wn_lt hk).1))) rfl (ix_rk (wn_lt hk).2))) rfl rfl) (fun _ _ _ => rfl) (Nat.le_trans (wn_len ds) (by omega))) rfl rfl
  have c3 := ev_comp1 (ρ := [.fz (bkD l ds), .fz (lotM c), .fz (.int r), .ol ((tr ds c).map lotM), .ol ((wf ds r).map intM), .no]) (ρ1 := [.fz (bkD l ds), .fz (lotM c), .fz (.int r), .ol ((tr ds c).map lotM), .fz (.list ((wf ds r).map intM)), .no]) (u := intM) (i := 5) (fi := iSeq (dName 4)) (ft := dNotT (dTru (frz (dFn (den_room) (aCons (ofD (frz (dBin ixD (frz (dBin ixD (dPeek 0 (dC (.int 2))) (dName 5))) (dC (.int 4))))) (aCons (ofD (dPeek 3 (frz (dBin addD (dName 5) (dC (.int 1)))))) aNil)))))) (fe := dName 5) (ds := wf ds r) (fun k => !(!(fl ds c k))) intM (ev_iseq rfl rfl) rfl (fun k hk => by
    obtain ⟨k1, k2⟩ := wn_lt (wf_mem hk)
    have o := gd_ok ok k1
    exact ev_bnd (ev_bnd (frzF (gv_fn (as := [.fz (famM (gd ds k).fam), .fz (lotM (at0 (ds.drop (k + 1)) c))]) (ev_aconsF (ev_ofD (frzF (ev_bin (frzF (ev_bin (bk2 rfl) rfl (ix_ds k1))) rfl (ix_fam k2)))) (ev_aconsF (ev_ofD (ev_peek rfl (frzF (ev_bin rfl rfl (addD_n k 1))) (lot_at k1))) rfl)) rfl rfl (room_ev (ok_fam o).1 (Nat.le_trans (ok_fam o).2 (by decide)) (at0_lt hc (ok_drop ok _))))) (ev_lft rfl)) rfl) (fun _ _ _ => rfl) (Nat.le_trans (wf_len ds r) (by omega))
  have e : ((wf ds r).filter fun k => !(!(fl ds c k))).isEmpty = mis ds c r := by
    unfold mis
    generalize wf ds r = ws
    induction ws with
    | nil => rfl
    | cons k ws ih =>
      rw [List.filter_cons, List.all_cons, ← ih]
      cases fl ds c k <;> rfl
  rw [← e]
  exact gv_run ⟨_, ev_seq s1 (ev_seq s2 (ev_ret (ev_bin (frzL c3) rfl (ms_eq (Nat.le_trans (List.length_filter_le _ _) (Nat.le_trans (wf_len ds r) hl))))))⟩
end K15

/-! A13: versions that some miss. -/
namespace K15
open PySem PySem.Spec L2 Gx M10
open PyProof.Rows hiding St
def chs (w a : Nat) : List Nat := tl.filter fun m => sub m w && pop m == a
theorem c_chs : (List.range 8).all (fun w => (List.range 4).all fun a => isG (den_choices 8 [.fz (lotM w), .fz (intM a)]) (.ol ((chs w a).map lotM))) = true := by kernel_rfl
theorem c_chs8 : (List.range 8).all (fun w => (List.range 4).all fun a => (chs w a).all fun m => decide (m < 8)) = true := by decide +kernel
theorem chs8 {w a : Nat} (hw : w < 8) (ha : a < 4) : ∀ m ∈ chs w a, m < 8 := fun m hm => of_decide_eq_true (List.all_eq_true.mp (all1 (all1 c_chs8 hw) ha) m hm)
theorem chs_len (w a : Nat) : (chs w a).length ≤ 32 := List.length_filter_le _ tl
def Asc (ds : List Dd) : Prop := (wn ds).Pairwise fun j k => (gd ds j).rk < (gd ds k).rk
theorem rk_pos {d : Dd} (ok : d.ok) (h : d.isW = true) : 1 ≤ d.rk := by
  rcases d with ⟨w, t, r, k, ks⟩ | t | ⟨t, p⟩ | ⟨_ | _, t, p, q⟩
  · exact ok.1
  all_goals cases h
theorem wf1 {ds : List Dd} (ok : Ok ds) : wf ds 1 = wn ds := List.filter_eq_self.mpr fun k hk => decide_eq_true (rk_pos (gd_ok ok (wn_lt hk).1) (wn_lt hk).2)
theorem fold_sp (ds : List Dd) (c : Nat) : ∀ (ws : List Nat) (a : Int), ws.Pairwise (fun j k => (gd ds j).rk < (gd ds k).rk) → (∀ k ∈ ws, fl ds c k = true → (gd ds k).rk ≤ ws.foldl (hbS ds c) a) ∧ (ws.foldl (hbS ds c) a = a ∨ ∃ k ∈ ws, fl ds c k = true ∧ ws.foldl (hbS ds c) a = (gd ds k).rk)
  | [], a, _ => ⟨fun k hk => (List.not_mem_nil hk).elim, .inl rfl⟩
  | k :: ws, a, pw => by
    obtain ⟨p1, p2⟩ := List.pairwise_cons.mp pw
    obtain ⟨i1, i2⟩ := fold_sp ds c ws (hbS ds c a k) p2
    rw [List.foldl_cons]
    constructor
    · intro j hj hf
      rcases List.mem_cons.mp hj with rfl | hj
      · have e : hbS ds c a j = (gd ds j).rk := by unfold hbS; rw [hf]; rfl
        rcases i2 with q | ⟨x, hx, _, q⟩
        · rw [q, e]; exact Int.le_refl _
        · rw [q]; exact Int.le_of_lt (p1 x hx)
      · exact i1 j hj hf
    · rcases i2 with q | ⟨x, hx, hf, q⟩
      · cases z : fl ds c k with
        | true => exact .inr ⟨k, by simp, z, by rw [q]; unfold hbS; rw [z]; rfl⟩
        | false => exact .inl (by rw [q]; unfold hbS; rw [z]; rfl)
      · exact .inr ⟨x, by simp [hx], hf, q⟩
theorem mis_hb {ds : List Dd} {c : Nat} {r : Int} (ok : Ok ds) (asc : Asc ds) (hr : 1 ≤ r) : mis ds c r = decide (hb ds c < r) := by
  have sp := fold_sp ds c (wn ds) 0 asc
  have eb : hb ds c = (wn ds).foldl (hbS ds c) 0 := by unfold hb; rw [wf1 ok]
  rw [← eb] at sp
  obtain ⟨s1, s2⟩ := sp
  rw [Bool.eq_iff_iff, decide_eq_true_eq]
  unfold mis
  rw [List.all_eq_true]
  constructor
  · intro h
    rcases s2 with q | ⟨k, hk, hf, q⟩
    · omega
    · by_cases z : r ≤ (gd ds k).rk
      · have := h k (List.mem_filter.mpr ⟨hk, decide_eq_true z⟩)
        rw [hf] at this
        cases this
      · omega
  · intro h k hk
    obtain ⟨k1, k2⟩ := List.mem_filter.mp hk
    have k2' : r ≤ (gd ds k).rk := of_decide_eq_true k2
    cases z : fl ds c k with
    | false => rfl
    | true => have := s1 k k1 z; omega
theorem least_ne : ∀ {ns : List Int}, ns ≠ [] → ∃ m, leastL ns = some m
  | [], h => absurd rfl h
  | [n], _ => ⟨n, rfl⟩
  | n :: k :: ns, _ => by
    obtain ⟨m, e⟩ := least_ne (ns := k :: ns) (by simp)
    exact ⟨if m < n then m else n, by show (leastL (k :: ns)).map _ = _; rw [e]; rfl⟩
theorem intsD_map {ι : Type} (f : ι → Int) : ∀ l : List ι, intsD (l.map fun x => .int (f x)) = some (l.map f)
  | [] => rfl
  | x :: l => by
    show (intsD (l.map fun x => .int (f x))).map (f x :: ·) = _
    rw [intsD_map f l]
    rfl
theorem any_least {ds : List Dd} {cs : List Nat} {m r : Int} (ok : Ok ds) (asc : Asc ds) (hr : 1 ≤ r) (hm : leastL (cs.map (hb ds)) = some m) : (cs.any fun c => mis ds c r) = decide (m < r) := by
  obtain ⟨m1, m2⟩ := leastL_ok hm
  rw [Bool.eq_iff_iff, decide_eq_true_eq, List.any_eq_true]
  constructor
  · rintro ⟨c, hc, h⟩
    rw [mis_hb ok asc hr, decide_eq_true_eq] at h
    have := m2 _ (List.mem_map_of_mem hc)
    omega
  · intro h
    obtain ⟨c, hc, e⟩ := List.mem_map.mp m1
    exact ⟨c, hc, by rw [mis_hb ok asc hr, decide_eq_true_eq, e]; exact h⟩
def duD (ds : List Dd) (cs : List Nat) : List Dd := (ds.filter Dd.isW).filter fun d => cs.any fun c => mis ds c d.rk
def mvD (ds : List Dd) (cs : List Nat) : PyData := .tuple ((duD ds cs).map fun d => .int d.rk)
theorem it_rk {d : Dd} (h : d.isW = true) : itemE (some (.fz d.d)) (.int 2) = some (.int d.rk) := by
  rcases d with ⟨_ | _, t, r, h, ks⟩ | t | ⟨t, p⟩ | ⟨_ | _, t, p, q⟩ <;> first | rfl | cases h
theorem c_eq33 : (List.range 33).all (fun n => isR (eqD (intM n) (.int 0)) (.fz (.bool (n == 0)))) = true := by kernel_rfl
theorem seq_d (d : Dd) : (seqE (some (.fz d.d))).isSome = true := by
  rcases d with ⟨_ | _, t, r, h, ks⟩ | t | ⟨t, p⟩ | ⟨_ | _, t, p, q⟩ <;> rfl
theorem missed_ev {ds : List Dd} {l : Int} {w a : Nat} {b s : PyData} (hl : ds.length ≤ 1000) (ok : Ok ds) (asc : Asc ds) (hw : w < 8) (ha : a < 4) (Hb : Gv (den_frozen 7) [.fz b] (.fz (bkD l ds))) (Hs : Gv (den_frozen 7) [.fz s] (.fz (lotM w))) : Gv den_missed_versions [.fz b, .fz s, .fz (intM a)] (.fz (mvD ds (chs w a))) := by
  have s1 : (sAsg (dTup (dCons (frz (dFn (den_frozen 7) (aCons (ofD (dName 0)) aNil))) (dCons (frz (dFn (den_frozen 7) (aCons (ofD (dName 1)) aNil))) dNil))) (hTup 2 (hCons (hName 0) (hCons (hName 1) hNil)))) [.fz b, .fz s, .fz (intM a), .no, .no, .no, .no] = .ok (.nx, [.fz (bkD l ds), .fz (lotM w), .fz (intM a), .no, .no, .no, .no]) :=
    ev_bnd (ev_tup (ev_cons (frzF (gv_fn (as := [.fz b]) rfl rfl rfl Hb)) (ev_cons (frzF (gv_fn (as := [.fz s]) rfl rfl rfl Hs)) ev_nil)) rfl) rfl
  have s2 : (sDrop (frz (dFn (den_refuse) (dArD [(true, 0), (true, 1), (false, 1), (false, 2), (false, 3)] (dCons (dName 0) dNil) (dCons (dName 1) dNil))))) [.fz (bkD l ds), .fz (lotM w), .fz (intM a), .no, .no, .no, .no] = .ok (.nx, [.fz (bkD l ds), .fz (lotM w), .fz (intM a), .no, .no, .no, .no]) :=
    ev_bnd (frzF (gv_fn (as := [.fz (bkD l ds), .fz (lotM w), .sc (.t []), .sc (.t []), .sc (.t [])]) rfl rfl rfl (refuse2 hw))) rfl
  have s3 : (sSet 3 (ofD (frz (dFn (den_offers_from) (aCons (ofD (dPeek 0 (dC (.int 2)))) (aCons (ofD (dC (.int 1))) aNil)))))) [.fz (bkD l ds), .fz (lotM w), .fz (intM a), .no, .no, .no, .no] = .ok (.nx, [.fz (bkD l ds), .fz (lotM w), .fz (intM a), .fz (.list ((wf ds 1).map (offM ds))), .no, .no, .no]) :=
    ev_setTo (ρ1 := [.fz (bkD l ds), .fz (lotM w), .fz (intM a), .no, .no, .no, .no]) (ev_ofD (frzL (gv_fn (as := [.fz (dsD ds), .fz (.int 1)]) (ev_aconsF (ev_ofD (bk2 rfl)) rfl) rfl rfl (off_ev hl ok 1)))) rfl rfl
  have hc8 := chs8 hw ha
  have h4 : (iSeq (frz (dFn (den_choices 8) (aCons (ofD (dName 1)) (aCons (ofD (dName 2)) aNil))))) [.fz (bkD l ds), .fz (lotM w), .fz (intM a), .fz (.list ((wf ds 1).map (offM ds))), .no, .no, .no] = .ok ((chs w a).map lotM, [.fz (bkD l ds), .fz (lotM w), .fz (intM a), .fz (.list ((wf ds 1).map (offM ds))), .no, .no, .no]) :=
    ev_iseq (frzL (gv_fn (as := [.fz (lotM w), .fz (intM a)]) rfl rfl rfl (isG_ok (all1 (all1 c_chs hw) ha)))) rfl
  have s4 : (sAsg (frz (dComp (iSeq (frz (dFn (den_choices 8) (aCons (ofD (dName 1)) (aCons (ofD (dName 2)) aNil))))) (hName 5) yesT (frz (dFn (den_held_by) (aCons (ofD (dName 0)) (aCons (ofD (dName 3)) (aCons (ofD (dName 5)) aNil))))) [5])) (hName 4)) [.fz (bkD l ds), .fz (lotM w), .fz (intM a), .fz (.list ((wf ds 1).map (offM ds))), .no, .no, .no] = .ok (.nx, [.fz (bkD l ds), .fz (lotM w), .fz (intM a), .fz (.list ((wf ds 1).map (offM ds))), .fz (.list ((chs w a).map fun c => .int (hb ds c))), .no, .no]) :=
    ev_bnd (frzL (ev_comp0 (fun c => .int (hb ds c)) h4 rfl (fun c hc => frzF (gv_fn (as := [.fz (bkD l ds), .fz (.list ((wf ds 1).map (offM ds))), .fz (lotM c)]) rfl rfl rfl (heldby_ev hl ok (hc8 c hc)))) (Nat.le_trans (chs_len w a) (by decide)))) rfl
  have s5t : (dCmpT eqD (dLenP 4) (dC (.int 0))) [.fz (bkD l ds), .fz (lotM w), .fz (intM a), .fz (.list ((wf ds 1).map (offM ds))), .fz (.list ((chs w a).map fun c => .int (hb ds c))), .no, .no] = .ok ((chs w a).length == 0, [.fz (bkD l ds), .fz (lotM w), .fz (intM a), .fz (.list ((wf ds 1).map (offM ds))), .fz (.list ((chs w a).map fun c => .int (hb ds c))), .no, .no]) := by
    have l33 : (chs w a).length < 33 := Nat.lt_succ_of_le (chs_len w a)
    refine ev_cmpT (x := intM (chs w a).length) ?_ rfl (isR_ok (all1 c_eq33 l33))
    show Rs.ok (PyData.int (((chs w a).map fun c => PyData.int (hb ds c)).length : Nat), _) = _
    rw [List.length_map]
    rfl
  cases z : chs w a with
  | nil =>
    rw [z] at s4 s5t
    have e : mvD ds [] = .tuple [] := by
      unfold mvD duD
      rw [List.filter_eq_nil_iff.mpr (fun d _ => by simp)]
      rfl
    rw [e]
    exact gv_run ⟨_, ev_seq s1 (ev_seq s2 (ev_seq s3 (ev_seq s4 (ev_seqR (ev_if s5t rfl)))))⟩
  | cons c0 cs =>
    rw [z] at s4 s5t
    obtain ⟨m, hm⟩ := least_ne (ns := (c0 :: cs).map (hb ds)) (by simp)
    generalize hcs : c0 :: cs = ch at s4 s5t hm ⊢
    have s5 : (sIf (dCmpT eqD (dLenP 4) (dC (.int 0))) (sRet (ofD (dTup dNil))) sNx) [.fz (bkD l ds), .fz (lotM w), .fz (intM a), .fz (.list ((wf ds 1).map (offM ds))), .fz (.list (ch.map fun c => .int (hb ds c))), .no, .no] = .ok (.nx, [.fz (bkD l ds), .fz (lotM w), .fz (intM a), .fz (.list ((wf ds 1).map (offM ds))), .fz (.list (ch.map fun c => .int (hb ds c))), .no, .no]) :=
      ev_if s5t (by rw [← hcs]; rfl)
    have mn : minD [.list (ch.map fun c => .int (hb ds c))] = some (.fz (.int m)) := by
      show ((intsD (ch.map fun c => .int (hb ds c))).bind leastL).bind fI = _
      rw [intsD_map, Option.bind_some, hm]
      rfl
    have h6 : (iSeq (dPeek 0 (dC (.int 2)))) [.fz (bkD l ds), .fz (lotM w), .fz (intM a), .fz (.list ((wf ds 1).map (offM ds))), .fz (.list (ch.map fun c => .int (hb ds c))), .no, .no] = .ok (ds.map Dd.d, [.fz (bkD l ds), .fz (lotM w), .fz (intM a), .fz (.list ((wf ds 1).map (offM ds))), .fz (.list (ch.map fun c => .int (hb ds c))), .no, .no]) := ev_iseq (bk2 rfl) rfl
    have c6 := ev_comp1 (u := Dd.d) (i := 6) (ft := dAndT (dTru (frz (dFn (den_is_write) (aCons (ofD (dName 6)) aNil)))) (dCmpT gtD (dPeek 6 (dC (.int 2))) (frz (dCall minD (dCons (dName 4) dNil))))) (fe := dPeek 6 (dC (.int 2))) (fun d => d.isW && decide (m < d.rk)) (fun d => .int d.rk) h6 rfl (fun d hd => by
      refine ev_bnd (is_w rfl) ?_
      cases y : d.isW with
      | false => rfl
      | true => exact ev_cmpT (g := gtD) (fa := dPeek 6 (dC (.int 2))) (fb := frz (dCall minD (dCons (dName 4) dNil))) (ρ := ([.fz (bkD l ds), .fz (lotM w), .fz (intM a), .fz (.list ((wf ds 1).map (offM ds))), .fz (.list (ch.map fun c => .int (hb ds c))), .no, .no] : Ev).set 6 (.fz d.d)) (ev_peek (seq_d d) rfl (it_rk y)) (frzF (ev_call (ev_cons rfl ev_nil) mn)) rfl) (fun d hd y => ev_peek (seq_d d) rfl (it_rk (by simp at y; exact y.1))) (by omega)
    have eq : (ds.filter fun d => d.isW && decide (m < d.rk)) = duD ds ch := by
      unfold duD
      rw [List.filter_filter]
      refine List.filter_congr fun d hd => ?_
      cases y : d.isW with
      | false => simp
      | true => rw [any_least ok asc (rk_pos (ok d hd) y) hm, Bool.and_comm]
    rw [eq] at c6
    exact gv_run ⟨_, ev_seq s1 (ev_seq s2 (ev_seq s3 (ev_seq s4 (ev_seq s5 (ev_ret (ev_call (ev_cons (frzL c6) ev_nil) rfl))))))⟩
end K15

/-! A14: versions are right. -/
namespace K15
open PySem PySem.Spec L2 Gx M10
open PyProof.Rows hiding St
theorem ranks_ev {l : Int} {ds : List Dd} (hl : ds.length ≤ 1000) : Gv den_ranks [.fz (bkD l ds)] (.ol ((ds.filter Dd.isW).map fun d => .int d.rk)) :=
  gv_run ⟨_, ev_ret (ev_comp1 (ρ := [.fz (bkD l ds), .no]) (ρ1 := [.fz (bkD l ds), .no]) (u := Dd.d) (i := 1) (fi := iSeq (dPeek 0 (dC (.int 2)))) (ds := ds) Dd.isW (fun d => .int d.rk) (ev_iseq (bk2 rfl) rfl) rfl (fun d _ => is_lw rfl) (fun d _ y => ev_peek (seq_d d) rfl (it_rk y)) (by omega))⟩
theorem c_eq6 : (List.range 6).all (fun n => (List.range 6).all fun k => isR (eqD (intM n) (intM k)) (.fz (.bool (n == k)))) = true := by kernel_rfl
def vrE (l : Int) (ds : List Dd) (w a : Nat) (e3 e4 e5 e6 : En) : Ev := [.fz (bkD l ds), .fz (lotM w), .fz (intM a), e3, e4, e5, e6, .no, .no]
theorem pln_mv {ds : List Dd} (hl : ds.length ≤ 1000) (cs : List Nat) (k : Nat) : pln (k + 1) (mvD ds cs) = true := pln_tup (fun x hx => by
  obtain ⟨d, _, rfl⟩ := List.mem_map.mp hx
  cases k <;> rfl) (by
  rw [List.length_map]
  unfold duD
  have h1 := List.length_filter_le (fun d : Dd => cs.any fun c => mis ds c d.rk) (ds.filter Dd.isW)
  have h2 := List.length_filter_le Dd.isW ds
  omega)
theorem versions_ev {l : Int} {ds : List Dd} {w a : Nat} (hl : ds.length ≤ 1000) (ok : Ok ds) (asc : Asc ds) (hw : w < 8) (ha : a < 4) : Gv den_versions_right [.fz (bkD l ds), .fz (lotM w), .fz (intM a)] (.fz (.bool true)) := by
  have tb := tpl_bk (l := l) hl ok
  have hc8 := chs8 hw ha
  have s1 : (sAsg (frz (dComp (iSeq (frz (dFn (den_lots) (aCons (ofD (dName 1)) aNil)))) (hName 7) (dCmpT eqD (dLenP 7) (dName 2)) (dName 7) [7])) (hName 3)) (vrE l ds w a .no .no .no .no) = .ok (.nx, vrE l ds w a (.fz (.list ((chs w a).map lotM))) .no .no .no) := by
    have c := ev_comp1 (ρ := vrE l ds w a .no .no .no .no) (ρ1 := vrE l ds w a .no .no .no .no) (u := lotM) (i := 7) (fi := iSeq (frz (dFn (den_lots) (aCons (ofD (dName 1)) aNil)))) (ft := dCmpT eqD (dLenP 7) (dName 2)) (fe := dName 7) (ds := tl.filter fun m => sub m w) (fun m => pop m == a) lotM (ev_iseq (frzL (gv_fn (as := [.fz (lotM w)]) rfl rfl rfl (isG_ok (all1 c_lots (show w < 32 by omega))))) rfl) rfl (fun m _ => by
      have q : (dLenP 7) ((vrE l ds w a .no .no .no .no).set 7 (.fz (lotM m))) = .ok (intM (pop m), (vrE l ds w a .no .no .no .no).set 7 (.fz (lotM m))) := by
        show Rs.ok (PyData.int (((bits m).map intM).length : Nat), _) = _
        rw [List.length_map]
        rfl
      exact ev_cmpT q rfl (isR_ok (all1 (all1 c_eq6 (pop_lt m)) (show a < 6 by omega)))) (fun _ _ _ => rfl) (Nat.le_trans (List.length_filter_le _ tl) (by decide))
    rw [List.filter_filter, show (fun m => (pop m == a) && sub m w) = fun m => sub m w && pop m == a from funext fun m => Bool.and_comm _ _] at c
    exact ev_bnd (frzL c) rfl
  have s2 : (sSet 4 (dComp (iSeq (frz (dFn (den_ranks) (aCons (ofD (dName 0)) aNil)))) (hName 8) (dCmpT neD (frz (dComp (iSeq (dName 3)) (hName 7) (dTru (frz (dFn (den_misses) (aCons (ofD (dName 0)) (aCons (ofD (dName 7)) (aCons (ofD (dName 8)) aNil)))))) (dC (.int 1)) [7])) (frz (dLst dNil))) (dName 8) [8])) (vrE l ds w a (.fz (.list ((chs w a).map lotM))) .no .no .no) = .ok (.nx, vrE l ds w a (.fz (.list ((chs w a).map lotM))) (.ol ((duD ds (chs w a)).map fun d => .int d.rk)) .no .no) := by
    refine ev_setTo (ev_comp1 (ρ1 := vrE l ds w a (.fz (.list ((chs w a).map lotM))) .no .no .no) (u := fun d : Dd => .int d.rk) (ds := ds.filter Dd.isW) (fun d => (chs w a).any fun c => mis ds c d.rk) (fun d => .int d.rk) (ev_iseq (frzL (gv_fn (as := [.fz (bkD l ds)]) rfl rfl rfl (ranks_ev hl))) rfl) rfl (fun d _ => ?_) (fun _ _ _ => rfl) (Nat.le_trans (List.length_filter_le _ _) (by omega))) rfl rfl
    have c := ev_comp1 (ρ := (vrE l ds w a (.fz (.list ((chs w a).map lotM))) .no .no .no).set 8 (.fz (.int d.rk))) (ρ1 := (vrE l ds w a (.fz (.list ((chs w a).map lotM))) .no .no .no).set 8 (.fz (.int d.rk))) (u := lotM) (i := 7) (fi := iSeq (dName 3)) (ft := dTru (frz (dFn (den_misses) (aCons (ofD (dName 0)) (aCons (ofD (dName 7)) (aCons (ofD (dName 8)) aNil)))))) (fe := dC (.int 1)) (ds := chs w a) (fun c => mis ds c d.rk) (fun _ => .int 1) (ev_iseq rfl rfl) rfl (fun c hc => ev_bnd (frzF (gv_fn (as := [.fz (bkD l ds), .fz (lotM c), .fz (.int d.rk)]) rfl rfl rfl (misses_ev hl ok (hc8 c hc)))) (ev_lft rfl)) (fun _ _ _ => rfl) (Nat.le_trans (chs_len w a) (by decide))
    refine ev_cmpT (frzL c) rfl ((ones_ne _ (Nat.le_trans (List.length_filter_le _ _) (Nat.le_trans (chs_len w a) (by decide)))).trans ?_)
    show some (Rv.fz (.bool _)) = some (Rv.fz (.bool _))
    congr 3
    generalize chs w a = cs
    induction cs with
    | nil => rfl
    | cons x cs ih =>
      rw [List.filter_cons, List.any_cons, ← ih]
      cases mis ds x d.rk <;> rfl
  have s3 : (sSet 5 (dFn (den_lists 8) (aCons (ofD (frz (dLst (dCons (dName 0) (dCons (dName 1) dNil))))) aNil))) (vrE l ds w a (.fz (.list ((chs w a).map lotM))) (.ol ((duD ds (chs w a)).map fun d => .int d.rk)) .no .no) = .ok (.nx, vrE l ds w a (.fz (.list ((chs w a).map lotM))) (.ol ((duD ds (chs w a)).map fun d => .int d.rk)) (.fz (.list [lis 6 (bkD l ds), lis 6 (lotM w)])) .no) :=
    ev_setTo (ρ1 := vrE l ds w a (.fz (.list ((chs w a).map lotM))) (.ol ((duD ds (chs w a)).map fun d => .int d.rk)) .no .no) (gv_fn (as := [.fz (.list [bkD l ds, lotM w])]) rfl rfl rfl (soft_ev hl ok)) rfl rfl
  have s4 : (sSet 6 (dLst (dCons (frz (dFn (den_missed_versions) (aCons (ofD (dName 0)) (aCons (ofD (dName 1)) (aCons (ofD (dName 2)) aNil))))) (dCons (frz (dFn (den_missed_versions) (dArP [2, 1, 0] (dCons (dName 2) (dCons (dPeek 5 (dC (.int 1))) (dCons (dPeek 5 (dC (.int 0))) dNil)))))) dNil)))) (vrE l ds w a (.fz (.list ((chs w a).map lotM))) (.ol ((duD ds (chs w a)).map fun d => .int d.rk)) (.fz (.list [lis 6 (bkD l ds), lis 6 (lotM w)])) .no) = .ok (.nx, vrE l ds w a (.fz (.list ((chs w a).map lotM))) (.ol ((duD ds (chs w a)).map fun d => .int d.rk)) (.fz (.list [lis 6 (bkD l ds), lis 6 (lotM w)])) (.ol [mvD ds (chs w a), mvD ds (chs w a)])) :=
    ev_setTo (ρ1 := vrE l ds w a (.fz (.list ((chs w a).map lotM))) (.ol ((duD ds (chs w a)).map fun d => .int d.rk)) (.fz (.list [lis 6 (bkD l ds), lis 6 (lotM w)])) .no) (ev_lst (ev_cons (frzF (gv_fn (as := [.fz (bkD l ds), .fz (lotM w), .fz (intM a)]) rfl rfl rfl (missed_ev hl ok asc hw ha (frz_id 6 _ tb) (frz_id 6 _ (tpl_lot 5 w))))) (ev_cons (frzF (gv_fn (as := [.fz (lis 6 (bkD l ds)), .fz (lis 6 (lotM w)), .fz (intM a)]) rfl rfl rfl (missed_ev hl ok asc hw ha (frz_lis 6 _ tb) (frz_lis 6 _ (tpl_lot 5 w))))) ev_nil)) rfl) rfl rfl
  have pl : pln 5 (.list [mvD ds (chs w a), mvD ds (chs w a)]) = true := pln_lst (fun x hx => by
    simp only [List.mem_cons, List.not_mem_nil, or_false, or_self] at hx
    rw [hx]
    exact pln_mv hl _ 3) (by simp)
  have s5 : (dFn (den_same 6) (aCons (ofD (dName 6)) (aCons (ofD (frz (dBin mulD (frz (dLst (dCons (frz (dCall tupleD (dCons (dName 4) dNil))) dNil))) (dC (.int 2))))) aNil))) (vrE l ds w a (.fz (.list ((chs w a).map lotM))) (.ol ((duD ds (chs w a)).map fun d => .int d.rk)) (.fz (.list [lis 6 (bkD l ds), lis 6 (lotM w)])) (.ol [mvD ds (chs w a), mvD ds (chs w a)])) = .ok (.fz (.bool true), vrE l ds w a (.fz (.list ((chs w a).map lotM))) (.fz (.list ((duD ds (chs w a)).map fun d => .int d.rk))) (.fz (.list [lis 6 (bkD l ds), lis 6 (lotM w)])) (.fz (.list [mvD ds (chs w a), mvD ds (chs w a)]))) :=
    gv_fn (as := [.fz (.list [mvD ds (chs w a), mvD ds (chs w a)]), .fz (.list [mvD ds (chs w a), mvD ds (chs w a)])]) (ev_aconsF (ρ1 := vrE l ds w a (.fz (.list ((chs w a).map lotM))) (.ol ((duD ds (chs w a)).map fun d => .int d.rk)) (.fz (.list [lis 6 (bkD l ds), lis 6 (lotM w)])) (.fz (.list [mvD ds (chs w a), mvD ds (chs w a)]))) (ev_ofD rfl) (ev_aconsF (ev_ofD (frzL (ev_bin (x := .list [mvD ds (chs w a)]) (frzL (ev_lst (ev_cons (frzF (ev_call (ev_cons rfl ev_nil) rfl)) ev_nil) rfl)) rfl rfl))) rfl)) rfl rfl (same_ev pl)
  exact gv_run ⟨_, ev_seq s1 (ev_seq s2 (ev_seq s3 (ev_seq s4 (ev_ret s5))))⟩
end K15

/-! A15: what is drawn: lots within lots, one of some goods. -/
namespace K15
open PySem PySem.Spec L2 Gx M10
open PyProof.Rows hiding St
theorem sort_sub {ps : List Nat} (nd : ps.Nodup) (hs : ∀ p ∈ ps, p < 5) : ∃ h, h < 32 ∧ (∀ p ∈ bits h, p ∈ ps) ∧ pop h = ps.length ∧ sort2D [.list (ps.map intM)] = some (.ol ((bits h).map intM)) := by
  have pe : ((List.range 5).filter fun p => ps.contains p).Perm ps := (List.perm_ext_iff_of_nodup (List.nodup_range.sublist List.filter_sublist) nd).mpr fun p => by
    rw [List.mem_filter, List.mem_range, List.contains_iff_mem]
    exact ⟨fun z => z.2, fun z => ⟨hs p z, z⟩⟩
  refine ⟨mkB fun p => ps.contains p, mk_lt _, fun p hp => by rw [bits_mk] at hp; exact List.contains_iff_mem.mp (List.mem_filter.mp hp).2, ?_, ?_⟩
  · unfold pop
    rw [bits_mk, pe.length_eq]
  · have len : ps.length ≤ 5 := by
      rw [← pe.length_eq]
      have := (List.filter_sublist (p := fun p => ps.contains p) (l := List.range 5)).length_le
      simpa using this
    show (match intsD (ps.map intM) with
      | some ns => if ns.length < 64 then some (Rv.ol ((srtI ns).map .int)) else none
      | none => (lotsD (ps.map intM)).map fun nss => Rv.ol ((srtL nss).map tupI)) = _
    rw [intsD_M]
    show (if (ps.map toI).length < 64 then some (Rv.ol ((srtI (ps.map toI)).map .int)) else none) = _
    rw [if_pos (by rw [List.length_map]; omega), bits_mk]
    have e : ((List.range 5).filter fun p => ps.contains p).map toI = srtI (ps.map toI) := by
      refine srtI_eq (List.pairwise_map.mpr ?_) (pe.map toI)
      have : (List.range 5).Pairwise (· < ·) := List.pairwise_lt_range
      exact (this.sublist List.filter_sublist).imp fun {a b} (q : a < b) => (by show (a : Int) ≤ (b : Int); omega)
    rw [← e, List.map_map]
    rfl
theorem kin_sub {n h : Nat} {t : List PyData} (hT : TinOk n t) (hn : n < 800000) (hh : h < 32) (h1 : 1 ≤ pop h) (h4 : pop h ≤ 4) :
    ∃ (ks : List Nat) (t' : List PyData) (es : List En), KinOk ks ∧ (∀ k ∈ ks, sub k h = true) ∧ TinOk (n + 40) t' ∧ den_kin [.bl t, .fz (lotM h)] = .ok (.fz (famM ks), .bl t' :: es) := by
  have len1 : ∀ (t : List PyData) (e2 e3 e4 e5 : En), (ofD (dLenP 1)) [.bl t, .fz (lotM h), e2, e3, e4, e5] = .ok (.fz (intM (pop h)), [.bl t, .fz (lotM h), e2, e3, e4, e5]) := fun t e2 e3 e4 e5 => by
    show Rs.ok (Rv.fz (.int ((bits h).map intM).length), _) = Rs.ok (Rv.fz (.int ((bits h).length : Nat)), _)
    rw [List.length_map]
  obtain ⟨d1, t1, a1, a2, a3⟩ := take_at (ρ := [.bl t, .fz (lotM h), .no, .no, .no, .no]) (b := 3) (fb := ofD (dC (.int 3))) rfl hT (by omega) (by omega) (by omega) rfl
  obtain ⟨d2, t2, b1, b2, b3⟩ := more_at (ρ := [.bl t1, .fz (lotM h), .no, .no, .no, .no]) (k := 1) (b := pop h) (fb := ofD (dLenP 1)) rfl a2 (by omega) (by omega) (by have := pop_lt h; omega) (len1 ..)
  have s0 : (sPar [3, 4] (dCons (frz (dFn (den_take) (aLend 0 (aCons (ofD (dC (.int 3))) aNil)))) (dCons (frz (dBin addD (dC (.int 1)) (frz (dFn (den_take) (aLend 0 (aCons (ofD (dLenP 1)) aNil)))))) dNil))) [.bl t, .fz (lotM h), .no, .no, .no, .no] = .ok (.nx, [.bl t2, .fz (lotM h), .no, .fz (intM d1), .fz (intM (1 + d2)), .no]) :=
    ev_bnd (ev_cons a3 (ev_cons b3 rfl)) rfl
  have t0 : (dCmpT gtD (dName 3) (dC (.int 0))) [.bl t2, .fz (lotM h), .no, .fz (intM d1), .fz (intM (1 + d2)), .no] = .ok (d1 != 0, [.bl t2, .fz (lotM h), .no, .fz (intM d1), .fz (intM (1 + d2)), .no]) := ev_cmpT rfl rfl (isR_ok (all1 c_gt a1))
  by_cases z : d1 = 0
  · have s1 : (sIf (dCmpT gtD (dName 3) (dC (.int 0))) (sRet (dCall tupleD (dCons (frz (dFn (den_counted) (aCons (ofD (dName 1)) (aCons (ofD (dName 4)) aNil)))) dNil))) sNx) [.bl t2, .fz (lotM h), .no, .fz (intM d1), .fz (intM (1 + d2)), .no] = .ok (.nx, [.bl t2, .fz (lotM h), .no, .fz (intM d1), .fz (intM (1 + d2)), .no]) :=
      ev_if t0 (by rw [show (d1 != 0) = false by simp [z]]; rfl)
    have lots : (frz (dFn (den_lots) (aCons (ofD (dName 1)) aNil))) [.bl t2, .fz (lotM h), .no, .fz (intM d1), .fz (intM (1 + d2)), .no] = .ok (.list ((tl.filter fun m => sub m h).map lotM), [.bl t2, .fz (lotM h), .no, .fz (intM d1), .fz (intM (1 + d2)), .no]) :=
      frzL (gv_fn (as := [.fz (lotM h)]) rfl rfl rfl (isG_ok (all1 c_lots hh)))
    have ne0 : ∀ m, m < 32 → (dCmpT neD (dName 5) (dTup dNil)) [.bl t2, .fz (lotM h), .no, .fz (intM d1), .fz (intM (1 + d2)), .fz (lotM m)] = .ok (m != 0, [.bl t2, .fz (lotM h), .no, .fz (intM d1), .fz (intM (1 + d2)), .fz (lotM m)]) := fun m hm =>
      ev_cmpT (y := lotM 0) rfl rfl (isR_ok (all2 c_neL hm (by decide)))
    have fl : (tl.filter fun m => sub m h).length ≤ 32 := (List.filter_sublist (p := fun m => sub m h) (l := tl)).length_le
    have c := ev_comp1 (ρ := [.bl t2, .fz (lotM h), .no, .fz (intM d1), .fz (intM (1 + d2)), .no]) (ρ1 := [.bl t2, .fz (lotM h), .no, .fz (intM d1), .fz (intM (1 + d2)), .no]) (i := 5) (ft := dCmpT neD (dName 5) (dTup dNil)) (fe := dName 5) (ds := tl.filter fun m => sub m h) (u := lotM) (fun m => m != 0) lotM (ev_iseq lots rfl) rfl (fun m hm => ne0 m (tl_lt m (List.mem_filter.mp hm).1)) (fun _ _ _ => rfl) (by omega)
    have s2 : (sSet 2 (dComp (iSeq (frz (dFn (den_lots) (aCons (ofD (dName 1)) aNil)))) (hName 5) (dCmpT neD (dName 5) (dTup dNil)) (dName 5) [5])) [.bl t2, .fz (lotM h), .no, .fz (intM d1), .fz (intM (1 + d2)), .no] = .ok (.nx, [.bl t2, .fz (lotM h), .ol ((goods h).map lotM), .fz (intM d1), .fz (intM (1 + d2)), .no]) := ev_set c rfl
    obtain ⟨d3, t3, g1, g2, g3⟩ := more_at (ρ := [.bl t2, .fz (lotM h), .fz (.list ((goods h).map lotM)), .fz (intM d1), .fz (intM (1 + d2)), .no]) (k := 1) (b := 2) (fb := ofD (dC (.int 2))) rfl b2 (by omega) (by omega) (by omega) rfl
    have gl := goods_len h
    obtain ⟨t4, ys, rest, es, k1, k2, k3, k4⟩ := pick_ev (xs := (goods h).map lotM) (cnt := 1 + d3) g2 (by simp; omega) (by simp; omega) (by omega)
    obtain ⟨ms, r, e, pe⟩ := pick_map k4
    subst e
    rw [List.length_map, List.length_map] at k3
    have gn : 0 < (goods h).length := List.length_pos_iff.mpr (goods_ne hh h1)
    have mlt : Lt ms := fun m hm => tl_lt m (List.mem_filter.mp (List.mem_filter.mp (pe.mem_iff.mp (List.mem_append.mpr (.inl hm)))).1).1
    have mne : ms ≠ [] := by
      intro e
      rw [e] at k3
      simp at k3
      omega
    have ha : (aLend 0 (aCons (ofD (dName 2)) (aCons (ofD (frz (dBin addD (dC (.int 1)) (frz (dFn (den_take) (aLend 0 (aCons (ofD (dC (.int 2))) aNil))))))) aNil))) [.bl t2, .fz (lotM h), .ol ((goods h).map lotM), .fz (intM d1), .fz (intM (1 + d2)), .no] = .ok ([.sl 0, .fz (.list ((goods h).map lotM)), .fz (intM (1 + d3))], [.bl t3, .fz (lotM h), .fz (.list ((goods h).map lotM)), .fz (intM d1), .fz (intM (1 + d2)), .no]) :=
      ev_lendB (ρ := [.bl t2, .fz (lotM h), .ol ((goods h).map lotM), .fz (intM d1), .fz (intM (1 + d2)), .no]) rfl (ev_aconsF (ρ1 := [.bl t2, .fz (lotM h), .fz (.list ((goods h).map lotM)), .fz (intM d1), .fz (intM (1 + d2)), .no]) rfl (ev_aconsF (ev_ofD g3) rfl))
    have hp := ev_lend ha rfl rfl (es := [.fz (.list ((goods h).map lotM)), .fz (intM (1 + d3))]) rfl k1
    have s3 := gv_fn (den := den_least) (as := [.fz (.list (ms.map lotM))]) (ρ1 := [.bl t4, .fz (lotM h), .fz (.list ((goods h).map lotM)), .fz (intM d1), .fz (intM (1 + d2)), .no]) (ev_aconsF (g := aNil) (ev_ofD (frzL hp)) rfl) rfl rfl (least_ev (.inl rfl) mlt (by omega))
    refine ⟨FU (up ms), t4, [.fz (lotM h)], fu_ok mlt mne (by omega), fun x hx => by
      rw [← least_FU mlt] at hx
      exact (List.mem_filter.mp (List.mem_filter.mp (pe.mem_iff.mp (List.mem_append.mpr (.inl (mo_iff.mp (List.mem_filter.mp hx).2).1)))).1).2, k2.mono (by simp; omega), ?_⟩
    exact Eq.trans (ev_run (n := 2) (N := 6) (as := [.bl t, .fz (lotM h)]) (ev_seq s0 (ev_seq s1 (ev_seq s2 (ev_ret s3))))) rfl
  · have cn : (frz (dFn (den_counted) (aCons (ofD (dName 1)) (aCons (ofD (dName 4)) aNil)))) [.bl t2, .fz (lotM h), .no, .fz (intM d1), .fz (intM (1 + d2)), .no] = .ok (.list ((cnt h (1 + d2)).map lotM), [.bl t2, .fz (lotM h), .no, .fz (intM d1), .fz (intM (1 + d2)), .no]) :=
      frzL (gv_fn (as := [.fz (lotM h), .fz (intM (1 + d2))]) rfl rfl rfl (isG_ok (all2 c_counted hh (by omega))))
    have s1 : (sIf (dCmpT gtD (dName 3) (dC (.int 0))) (sRet (dCall tupleD (dCons (frz (dFn (den_counted) (aCons (ofD (dName 1)) (aCons (ofD (dName 4)) aNil)))) dNil))) sNx) [.bl t2, .fz (lotM h), .no, .fz (intM d1), .fz (intM (1 + d2)), .no] = .ok (.rt (.fz (famM (cnt h (1 + d2)))), [.bl t2, .fz (lotM h), .no, .fz (intM d1), .fz (intM (1 + d2)), .no]) :=
      ev_if t0 (by rw [show (d1 != 0) = true by simp [z]]; exact ev_ret (ev_call (ev_cons cn rfl) rfl))
    refine ⟨cnt h (1 + d2), t2, [.fz (lotM h)], cnt_ok hh (by omega) (by omega) h4, fun x hx => by
      have q := (List.mem_filter.mp hx).2
      simp only [Bool.and_eq_true] at q
      exact q.1, b2.mono (by omega), ?_⟩
    exact Eq.trans (ev_run (n := 2) (N := 6) (as := [.bl t, .fz (lotM h)]) (ev_seq s0 (ev_seqR s1))) rfl
theorem kin_sat {ρ : Ev} {n h i : Nat} {t : List PyData} (h0 : ρ[0]? = some (.bl t)) (hi : dName i ρ = .ok (lotM h, ρ)) (hT : TinOk n t) (hn : n < 800000) (hh : h < 32) (h1 : 1 ≤ pop h) (h4 : pop h ≤ 4) :
    ∃ (ks : List Nat) (t' : List PyData), KinOk ks ∧ (∀ k ∈ ks, sub k h = true) ∧ TinOk (n + 40) t' ∧ frz (dFn den_kin (aLend 0 (aCons (ofD (dName i)) aNil))) ρ = .ok (famM ks, ρ.set 0 (.bl t')) := by
  obtain ⟨ks, t', es, k1, k4, k2, k3⟩ := kin_sub hT hn hh h1 h4
  exact ⟨ks, t', k1, k4, k2, frzF (ev_lend (ρ1 := ρ) (as := [.fz (lotM h)]) (ev_lendB h0 (ev_aconsF (ev_ofD hi) rfl)) rfl h0 (es := [.fz (lotM h)]) rfl k3)⟩
theorem c_sub8 : (List.range 32).all (fun k => (List.range 8).all fun h => !(sub k h) || decide (k < 8)) = true := by decide +kernel
theorem sub8 {k h : Nat} (hk : k < 32) (hh : h < 8) (s : sub k h = true) : k < 8 := by
  have c := all1 (all1 c_sub8 hk) hh
  rw [s] at c
  simpa using c
theorem c_bit8 : (List.range 32).all (fun h => !((bits h).all fun p => decide (p < 3)) || decide (h < 8)) = true := by decide +kernel
theorem bit8 {h : Nat} (hh : h < 32) (s : ∀ p ∈ bits h, p < 3) : h < 8 := by
  have c := all1 c_bit8 hh
  rw [show ((bits h).all fun p => decide (p < 3)) = true from List.all_eq_true.mpr fun p hp => decide_eq_true (s p hp)] at c
  simpa using c
/-- one of the goods -/
theorem of_ev {n : Nat} {t xs : List PyData} (h : TinOk n t) (hn : n < 900000) (h0 : 0 < xs.length) (hl : xs.length < 1000000) : ∃ (d : Nat) (x : PyData) (t' : List PyData) (es : List En), d < xs.length ∧ xs[d]? = some x ∧ TinOk (n + 1) t' ∧ den_of [.bl t, .fz (.list xs)] = .ok (.fz x, .bl t' :: es) := by
  obtain ⟨d, t', a1, a2, a3⟩ := take_at (ρ := [.bl t, .fz (.list xs)]) (b := xs.length) (fb := ofD (dLenP 1)) rfl h hn h0 hl rfl
  have gx : xs[d]? = some xs[d] := List.getElem?_eq_getElem a1
  refine ⟨d, xs[d], t', [.fz (.list xs)], a1, gx, a2, ?_⟩
  have it : itemE (some (.fz (.list xs))) (intM d) = some xs[d] := by
    show atI xs (d : Int) = _
    rw [at_n a1, gx]
  have pk : (dPeek 1 (frz (dFn (den_take) (aLend 0 (aCons (ofD (dLenP 1)) aNil))))) [.bl t, .fz (.list xs)] = .ok (xs[d], [.bl t', .fz (.list xs)]) := ev_peek rfl a3 it
  exact Eq.trans (ev_run (n := 2) (N := 2) (as := [.bl t, .fz (.list xs)]) (ev_ret (ev_ofD pk))) rfl
theorem of_at {ρ ρ1 : Ev} {n : Nat} {t xs : List PyData} {f : Dn PyData} (h0 : ρ[0]? = some (.bl t)) (h1 : ρ1[0]? = some (.bl t)) (hf : f ρ = .ok (.list xs, ρ1)) (h : TinOk n t) (hn : n < 900000) (hp : 0 < xs.length) (hl : xs.length < 1000000) : ∃ (d : Nat) (x : PyData) (t' : List PyData), d < xs.length ∧ xs[d]? = some x ∧ TinOk (n + 1) t' ∧ frz (dFn den_of (aLend 0 (aCons (ofD f) aNil))) ρ = .ok (x, ρ1.set 0 (.bl t')) := by
  obtain ⟨d, x, t', es, a1, a2, a3, a4⟩ := of_ev h hn hp hl
  exact ⟨d, x, t', a1, a2, a3, frzF (ev_lend (ρ1 := ρ1) (as := [.fz (.list xs)]) (ev_lendB h0 (ev_aconsF (ev_ofD hf) rfl)) rfl h1 (es := [.fz (.list xs)]) rfl a4)⟩
end K15

/-! A16: a deed that is drawn. -/
namespace K15
open PySem PySem.Spec L2 Gx M10
open PyProof.Rows hiding St
def dE (t : List PyData) (w : Str) (tk r : Int) (e5 e6 e7 : En) : Ev := [.bl t, .fz (.int 3), .fz (.str w), .fz (.int tk), .fz (.int r), e5, e6, e7]
abbrev r3 : List PyData := (List.range 3).map intM
theorem pick2_ev {n : Nat} {t : List PyData} {w : Str} {tk r : Int} (h : TinOk n t) (hn : n < 700000) : ∃ (p q : Nat) (t' : List PyData), p < 3 ∧ q < 3 ∧ TinOk (n + 3) t' ∧ (sSet 6 (dFn (den_pick) (aLend 0 (aCons (ofD (dName 5)) (aCons (ofD (dC (.int 2))) aNil))))) (dE t w tk r (.ol r3) .no .no) = .ok (.nx, dE t' w tk r (.fz (.list r3)) (.ol [intM p, intM q]) .no) := by
  obtain ⟨t2, ys, rest, es, k1, k2, k3, k4⟩ := pick_ev (xs := r3) (cnt := 2) h (by simp; omega) (by simp) (by omega)
  obtain ⟨ps, r', e, pe⟩ := pick_map k4
  subst e
  have hs : ∀ p ∈ ps, p < 3 := fun p hp => List.mem_range.mp (pe.mem_iff.mp (List.mem_append.mpr (.inl hp)))
  rw [List.length_map] at k3
  have l2 : ps.length = 2 := k3.trans (by simp)
  match ps, l2, hs, k1 with
  | [p, q], _, hs, k1 =>
    have hp := ev_lend (ρ := dE t w tk r (.ol r3) .no .no) (ρ1 := dE t w tk r (.fz (.list r3)) .no .no) (f := aLend 0 (aCons (ofD (dName 5)) (aCons (ofD (dC (.int 2))) aNil))) (as := [.fz (.list r3), .fz (.int 2)]) (ev_lendB rfl (ev_aconsF rfl (ev_aconsF rfl rfl))) rfl rfl (es := [.fz (.list r3), .fz (.int 2)]) rfl k1
    exact ⟨p, q, t2, hs p (by simp), hs q (by simp), k2.mono (by simp), ev_setTo hp rfl rfl⟩
theorem homes_ev {n : Nat} {t : List PyData} {w : Str} {tk r : Int} (h : TinOk n t) (hn : n < 700000) : ∃ (m : Nat) (t' : List PyData), m < 8 ∧ 1 ≤ pop m ∧ pop m ≤ 4 ∧ TinOk (n + 4) t' ∧ (sSet 7 (dCall tupleD (dCons (frz (dCall sort2D (dCons (frz (dFn (den_pick) (aLend 0 (aCons (ofD (dName 5)) (aCons (ofD (frz (dBin addD (dC (.int 1)) (frz (dFn (den_take) (aLend 0 (aCons (ofD (dName 1)) aNil))))))) aNil))))) dNil))) dNil))) (dE t w tk r (.ol r3) .no .no) = .ok (.nx, dE t' w tk r (.fz (.list r3)) .no (.fz (lotM m))) := by
  obtain ⟨d, t1, d1, d2, d3⟩ := more_at (ρ := dE t w tk r (.fz (.list r3)) .no .no) (k := 1) (b := 3) (fb := ofD (dName 1)) rfl h (by omega) (by omega) (by omega) rfl
  obtain ⟨t2, ys, rest, es, k1, k2, k3, k4⟩ := pick_ev (xs := r3) (cnt := 1 + d) d2 (by simp; omega) (by simp) (by omega)
  obtain ⟨ps, r', e, pe⟩ := pick_map k4
  subst e
  have nd : ps.Nodup := (List.nodup_append.mp (pe.nodup_iff.mpr List.nodup_range)).1
  have hs : ∀ p ∈ ps, p < 3 := fun p hp => List.mem_range.mp (pe.mem_iff.mp (List.mem_append.mpr (.inl hp)))
  obtain ⟨m, m1, mb, m2, m3⟩ := sort_sub nd fun p hp => Nat.lt_trans (hs p hp) (by decide)
  rw [List.length_map] at k3
  have hl : ps.length = 1 + d := by
    rw [k3]
    simp
    omega
  refine ⟨m, t2, bit8 m1 fun p hp => hs p (mb p hp), by omega, by omega, k2.mono (by simp), ?_⟩
  have ha : (aLend 0 (aCons (ofD (dName 5)) (aCons (ofD (frz (dBin addD (dC (.int 1)) (frz (dFn (den_take) (aLend 0 (aCons (ofD (dName 1)) aNil))))))) aNil))) (dE t w tk r (.ol r3) .no .no) = .ok ([.sl 0, .fz (.list r3), .fz (intM (1 + d))], dE t1 w tk r (.fz (.list r3)) .no .no) :=
    ev_lendB rfl (ev_aconsF (ρ1 := dE t w tk r (.fz (.list r3)) .no .no) rfl (ev_aconsF (ev_ofD d3) rfl))
  have hp := ev_lend ha rfl rfl (es := [.fz (.list r3), .fz (intM (1 + d))]) rfl k1
  exact ev_setTo (ρ1 := dE t2 w tk r (.fz (.list r3)) .no .no) (ev_call (ev_cons (frzL (ev_call (ev_cons (frzL hp) rfl) m3)) rfl) rfl) rfl rfl
end K15

/-! A17: every deed that is drawn is a deed. -/
namespace K15
open PySem PySem.Spec L2 Gx M10
open PyProof.Rows hiding St
abbrev dWr : Dn Fl := sSeq (sSet 7 (dCall tupleD (dCons (frz (dCall sort2D (dCons (frz (dFn (den_pick) (aLend 0 (aCons (ofD (dName 5)) (aCons (ofD (frz (dBin addD (dC (.int 1)) (frz (dFn (den_take) (aLend 0 (aCons (ofD (dName 1)) aNil))))))) aNil))))) dNil))) dNil)))
  (sRet (ofD (dTup (dCons (dName 2) (dCons (dName 3) (dCons (dName 4) (dCons (dName 7) (dCons (frz (dFn (den_kin) (aLend 0 (aCons (ofD (dName 7)) aNil)))) dNil))))))))
abbrev inWr : Dn Bool := dCmpT inW (dName 2) (dTup (dCons (dC (.str "put")) (dCons (dC (.str "strike")) dNil)))
theorem dwr_ev {n : Nat} {t : List PyData} {w : Str} {tk r : Int} (b : Bool) (hw : ∀ m ks, (Dd.wr b tk r m ks).d = .tuple [.str w, .int tk, .int r, lotM m, famM ks]) (h : TinOk n t) (hn : n < 700000) (hr : 1 ≤ r) : ∃ (d : Dd) (t' : List PyData) (m : Nat), d.ok ∧ (d.isW = true → d.rk = r) ∧ TinOk (n + 60) t' ∧ dWr (dE t w tk r (.ol r3) .no .no) = .ok (.rt (.fz d.d), dE t' w tk r (.fz (.list r3)) .no (.fz (lotM m))) := by
  obtain ⟨m, t1, m8, p1, p4, h1, e1⟩ := homes_ev (w := w) (tk := tk) (r := r) h hn
  obtain ⟨ks, t2, k1, k2, k3, k4⟩ := kin_sat (ρ := dE t1 w tk r (.fz (.list r3)) .no (.fz (lotM m))) (i := 7) rfl rfl h1 (by omega) (show m < 32 by omega) p1 p4
  refine ⟨.wr b tk r m ks, t2, m, ⟨hr, m8, fun k hk => sub8 (k1.lt k hk) m8 (k2 k hk), Nat.le_trans k1.len (by decide)⟩, fun _ => rfl, k3.mono (by omega), ?_⟩
  rw [hw]
  exact ev_seq e1 (ev_ret (ev_ofD (ev_tup (ev_cons rfl (ev_cons rfl (ev_cons rfl (ev_cons rfl (ev_cons k4 ev_nil))))) rfl)))
def sixW (w : Str) : Prop := w = "put" ∨ w = "strike" ∨ w = "copy" ∨ w = "send" ∨ w = "lose" ∨ w = "wait"
theorem deed_ev {n : Nat} {t : List PyData} {w : Str} {tk r : Int} (hw : sixW w) (h : TinOk n t) (hn : n < 700000) (hr : 1 ≤ r) : ∃ (d : Dd) (t' : List PyData) (es : List En), d.ok ∧ (d.isW = true → d.rk = r) ∧ TinOk (n + 60) t' ∧ den_deed [.bl t, .fz (.int 3), .fz (.str w), .fz (.int tk), .fz (.int r)] = .ok (.fz d.d, .bl t' :: es) := by
  have s1 : (sSet 5 (dR1 (rg1X false) (dName 1))) (dE t w tk r .no .no .no) = .ok (.nx, dE t w tk r (.ol r3) .no .no) := by kernel_rfl
  have run : ∀ (d : Dd) (t' : List PyData) (e5 e6 e7 : En), b_deed (dE t w tk r .no .no .no) = .ok (.rt (.fz d.d), dE t' w tk r e5 e6 e7) → ∃ es, den_deed [.bl t, .fz (.int 3), .fz (.str w), .fz (.int tk), .fz (.int r)] = .ok (.fz d.d, .bl t' :: es) := fun d t' e5 e6 e7 e =>
    ⟨[.fz (.int 3), .fz (.str w), .fz (.int tk), .fz (.int r)], Eq.trans (ev_run (n := 5) (N := 8) (as := [.bl t, .fz (.int 3), .fz (.str w), .fz (.int tk), .fz (.int r)]) e) rfl⟩
  obtain ⟨p, q, t1, p3, q3, h1, e1⟩ := pick2_ev (w := w) (tk := tk) (r := r) h hn
  have ix0 : (dPeek 6 (dC (.int 0))) (dE t1 w tk r (.fz (.list r3)) (.ol [intM p, intM q]) .no) = .ok (intM p, dE t1 w tk r (.fz (.list r3)) (.ol [intM p, intM q]) .no) := rfl
  have ix1 : (dPeek 6 (dC (.int 1))) (dE t1 w tk r (.fz (.list r3)) (.ol [intM p, intM q]) .no) = .ok (intM q, dE t1 w tk r (.fz (.list r3)) (.ol [intM p, intM q]) .no) := rfl
  rcases hw with rfl | rfl | rfl | rfl | rfl | rfl
  · obtain ⟨d, t', m, a1, a2, a3, a4⟩ := dwr_ev (tk := tk) (r := r) false (fun _ _ => rfl) h hn hr
    obtain ⟨es, e⟩ := run d t' _ _ _ (ev_seq s1 (ev_seqR (ev_if (b := true) (by kernel_rfl) a4)))
    exact ⟨d, t', es, a1, a2, a3, e⟩
  · obtain ⟨d, t', m, a1, a2, a3, a4⟩ := dwr_ev (tk := tk) (r := r) true (fun _ _ => rfl) h hn hr
    obtain ⟨es, e⟩ := run d t' _ _ _ (ev_seq s1 (ev_seqR (ev_if (b := true) (by kernel_rfl) a4)))
    exact ⟨d, t', es, a1, a2, a3, e⟩
  · have tl : sRet (ofD (dTup (dCons (dName 2) (dCons (dName 3) (dCons (dPeek 6 (dC (.int 0))) (dCons (dPeek 6 (dC (.int 1))) dNil)))))) (dE t1 "copy" tk r (.fz (.list r3)) (.ol [intM p, intM q]) .no) = .ok (.rt (.fz (Dd.cp true tk p q).d), dE t1 "copy" tk r (.fz (.list r3)) (.ol [intM p, intM q]) .no) := ev_ret (ev_ofD (ev_tup (ev_cons rfl (ev_cons rfl (ev_cons ix0 (ev_cons ix1 ev_nil)))) rfl))
    obtain ⟨es, e⟩ := run (.cp true tk p q) t1 _ _ _ (ev_seq s1 (ev_seq (ρ1 := dE t "copy" tk r (.ol r3) .no .no) (by kernel_rfl) (ev_seq (ρ1 := dE t "copy" tk r (.ol r3) .no .no) (by kernel_rfl) (ev_seq e1 (ev_seq (ρ1 := dE t1 "copy" tk r (.fz (.list r3)) (.ol [intM p, intM q]) .no) (by kernel_rfl) tl)))))
    exact ⟨.cp true tk p q, t1, es, ⟨p3, q3⟩, (fun z => by cases z), h1.mono (by omega), e⟩
  · have tl : sRet (ofD (dTup (dCons (dName 2) (dCons (dName 3) (dCons (dPeek 6 (dC (.int 0))) (dCons (dPeek 6 (dC (.int 1))) dNil)))))) (dE t1 "send" tk r (.fz (.list r3)) (.ol [intM p, intM q]) .no) = .ok (.rt (.fz (Dd.cp false tk p q).d), dE t1 "send" tk r (.fz (.list r3)) (.ol [intM p, intM q]) .no) := ev_ret (ev_ofD (ev_tup (ev_cons rfl (ev_cons rfl (ev_cons ix0 (ev_cons ix1 ev_nil)))) rfl))
    obtain ⟨es, e⟩ := run (.cp false tk p q) t1 _ _ _ (ev_seq s1 (ev_seq (ρ1 := dE t "send" tk r (.ol r3) .no .no) (by kernel_rfl) (ev_seq (ρ1 := dE t "send" tk r (.ol r3) .no .no) (by kernel_rfl) (ev_seq e1 (ev_seq (ρ1 := dE t1 "send" tk r (.fz (.list r3)) (.ol [intM p, intM q]) .no) (by kernel_rfl) tl)))))
    exact ⟨.cp false tk p q, t1, es, ⟨p3, q3⟩, (fun z => by cases z), h1.mono (by omega), e⟩
  · have tl : sRet (ofD (dTup (dCons (dName 2) (dCons (dName 3) (dCons (dPeek 6 (dC (.int 0))) dNil))))) (dE t1 "lose" tk r (.fz (.list r3)) (.ol [intM p, intM q]) .no) = .ok (.rt (.fz (Dd.lose tk p).d), dE t1 "lose" tk r (.fz (.list r3)) (.ol [intM p, intM q]) .no) := ev_ret (ev_ofD (ev_tup (ev_cons rfl (ev_cons rfl (ev_cons ix0 ev_nil))) rfl))
    obtain ⟨es, e⟩ := run (.lose tk p) t1 _ _ _ (ev_seq s1 (ev_seq (ρ1 := dE t "lose" tk r (.ol r3) .no .no) (by kernel_rfl) (ev_seq (ρ1 := dE t "lose" tk r (.ol r3) .no .no) (by kernel_rfl) (ev_seq e1 (ev_seqR (ev_if (b := true) (by kernel_rfl) tl))))))
    exact ⟨.lose tk p, t1, es, p3, (fun z => by cases z), h1.mono (by omega), e⟩
  · have tl : sRet (ofD (dTup (dCons (dName 2) (dCons (dName 3) dNil)))) (dE t "wait" tk r (.ol r3) .no .no) = .ok (.rt (.fz (Dd.wait tk).d), dE t "wait" tk r (.ol r3) .no .no) := ev_ret (ev_ofD (ev_tup (ev_cons rfl (ev_cons rfl ev_nil)) rfl))
    obtain ⟨es, e⟩ := run (.wait tk) t _ _ _ (ev_seq s1 (ev_seq (ρ1 := dE t "wait" tk r (.ol r3) .no .no) (by kernel_rfl) (ev_seqR (ev_if (b := true) (by kernel_rfl) tl))))
    exact ⟨.wait tk, t, es, trivial, (fun z => by cases z), h.mono (by omega), e⟩
end K15

/-! A18: a leaf that is drawn: the parts of a turn. -/
namespace K15
open PySem PySem.Spec L2 Gx M10
open PyProof.Rows hiding St
abbrev wds : List PyData := [.str "put", .str "put", .str "put", .str "strike", .str "copy", .str "copy", .str "copy", .str "send", .str "send", .str "lose", .str "wait"]
theorem wds_six : ∀ (d : Nat) (x : PyData), wds[d]? = some x → ∃ w : Str, x = .str w ∧ sixW w
  | 0, _, h => by cases h; exact ⟨_, rfl, .inl rfl⟩
  | 1, _, h => by cases h; exact ⟨_, rfl, .inl rfl⟩
  | 2, _, h => by cases h; exact ⟨_, rfl, .inl rfl⟩
  | 3, _, h => by cases h; exact ⟨_, rfl, .inr (.inl rfl)⟩
  | 4, _, h => by cases h; exact ⟨_, rfl, .inr (.inr (.inl rfl))⟩
  | 5, _, h => by cases h; exact ⟨_, rfl, .inr (.inr (.inl rfl))⟩
  | 6, _, h => by cases h; exact ⟨_, rfl, .inr (.inr (.inl rfl))⟩
  | 7, _, h => by cases h; exact ⟨_, rfl, .inr (.inr (.inr (.inl rfl)))⟩
  | 8, _, h => by cases h; exact ⟨_, rfl, .inr (.inr (.inr (.inl rfl)))⟩
  | 9, _, h => by cases h; exact ⟨_, rfl, .inr (.inr (.inr (.inr (.inl rfl))))⟩
  | 10, _, h => by cases h; exact ⟨_, rfl, .inr (.inr (.inr (.inr (.inr rfl))))⟩
  | _ + 11, _, h => by cases h
/-- the deeds as they are written down, one more -/
theorem wn_app (ds : List Dd) (d : Dd) : wn (ds ++ [d]) = wn ds ++ (if d.isW then [ds.length] else []) := by
  unfold wn
  rw [List.length_append, List.length_singleton, List.range_succ, List.filter_append]
  congr 1
  · refine List.filter_congr fun k hk => ?_
    have h := List.mem_range.mp hk
    unfold gd
    rw [List.getD_eq_getElem?_getD, List.getD_eq_getElem?_getD, List.getElem?_append_left h]
  · have e : gd (ds ++ [d]) ds.length = d := by
      unfold gd
      rw [List.getD_eq_getElem?_getD, List.getElem?_append_right (Nat.le_refl _)]
      simp
    rw [List.filter_cons, e]
    rfl
theorem gd_app {ds : List Dd} {d : Dd} {k : Nat} (h : k < ds.length) : gd (ds ++ [d]) k = gd ds k := by
  unfold gd
  rw [List.getD_eq_getElem?_getD, List.getD_eq_getElem?_getD, List.getElem?_append_left h]
theorem gd_new (ds : List Dd) (d : Dd) : gd (ds ++ [d]) ds.length = d := by
  unfold gd
  rw [List.getD_eq_getElem?_getD, List.getElem?_append_right (Nat.le_refl _)]
  simp
theorem asc_app {ds : List Dd} {d : Dd} {m r : Int} (h : Asc ds) (hm : ∀ k ∈ wn ds, (gd ds k).rk ≤ m) (hr : m < r) (hd : d.isW = true → d.rk = r) : Asc (ds ++ [d]) ∧ ∀ k ∈ wn (ds ++ [d]), (gd (ds ++ [d]) k).rk ≤ r := by
  have old : ∀ k ∈ wn ds, (gd (ds ++ [d]) k).rk = (gd ds k).rk := fun k hk => by rw [gd_app (wn_lt hk).1]
  cases y : d.isW with
  | false =>
    have e : wn (ds ++ [d]) = wn ds := by rw [wn_app, y]; simp
    constructor
    · unfold Asc at h ⊢
      rw [e]
      exact h.imp_of_mem fun {a b} ha hb q => by rw [old a ha, old b hb]; exact q
    · intro k hk
      rw [e] at hk
      rw [old k hk]
      have := hm k hk
      omega
  | true =>
    have e : wn (ds ++ [d]) = wn ds ++ [ds.length] := by rw [wn_app, y]; rfl
    constructor
    · unfold Asc at h ⊢
      rw [e, List.pairwise_append]
      refine ⟨h.imp_of_mem fun {a b} ha hb q => by rw [old a ha, old b hb]; exact q, List.pairwise_singleton _ _, fun a ha b hb => ?_⟩
      rw [List.mem_singleton.mp hb, gd_new, old a ha, hd y]
      have := hm a ha
      omega
    · intro k hk
      rw [e] at hk
      rcases List.mem_append.mp hk with hk | hk
      · rw [old k hk]
        have := hm k hk
        omega
      · rw [List.mem_singleton.mp hk, gd_new, hd y]
        exact Int.le_refl _
end K15

/-! A19: a turn of the leaf's loop: the word that is left to be written. -/
namespace K15
open PySem PySem.Spec L2 Gx M10
open PyProof.Rows hiding St
def W6 : Nat → Str
  | 0 => "put"
  | 1 => "strike"
  | 2 => "copy"
  | 3 => "send"
  | 4 => "lose"
  | _ => "wait"
theorem w6_six : ∀ i : Nat, sixW (W6 i)
  | 0 => .inl rfl
  | 1 => .inr (.inl rfl)
  | 2 => .inr (.inr (.inl rfl))
  | 3 => .inr (.inr (.inr (.inl rfl)))
  | 4 => .inr (.inr (.inr (.inr (.inl rfl))))
  | _ + 5 => .inr (.inr (.inr (.inr (.inr rfl))))
theorem six_w6 {w : Str} (h : sixW w) : ∃ i, i < 6 ∧ w = W6 i := by
  rcases h with rfl | rfl | rfl | rfl | rfl | rfl
  · exact ⟨0, by decide, rfl⟩
  · exact ⟨1, by decide, rfl⟩
  · exact ⟨2, by decide, rfl⟩
  · exact ⟨3, by decide, rfl⟩
  · exact ⟨4, by decide, rfl⟩
  · exact ⟨5, by decide, rfl⟩
def kd (i : Nat) : Nat := if i < 2 then 0 else if i = 3 then 1 else 2
def nw (i a b : Nat) : Nat := if (kd i == 0 && a == 0) || (kd i == 1 && b == 0) then 2 else i
def na (i a : Nat) : Nat := if kd i == 0 then a - 1 else a
def nb (i b : Nat) : Nat := if kd i == 1 then b - 1 else b
theorem nw_lt {i a b : Nat} (h : i < 6) : nw i a b < 6 := by
  unfold nw
  split <;> omega
theorem na_lt {i a : Nat} (h : a < 4) : na i a < 4 := by
  unfold na
  split <;> omega
theorem nb_lt {i b : Nat} (h : b < 2) : nb i b < 2 := by
  unfold nb
  split <;> omega
def lfE (t : List PyData) (z m lap e5 e6 tk rk : En) (a b : Nat) (w : Str) (e11 : En) : Ev := [.bl t, .fz (.int 3), z, m, lap, e5, e6, tk, rk, .ol [intM a, intM b], .fz (.str w), e11]
abbrev leM : Dn Fl := sSeq (sSet 11 (ofD (dIf (dCmpT inW (dName 10) (dTup (dCons (dC (.str "put")) (dCons (dC (.str "strike")) dNil)))) (dC (.int 0)) (dIf (dCmpT eqD (dName 10) (dC (.str "send"))) (dC (.int 1)) (dC (.int 2))))))
  (sSeq (sIf (dAndT (dCmpT ltD (dName 11) (dC (.int 2))) (dCmpT eqD (dPeek 9 (dName 11)) (dC (.int 0)))) (sSet 10 (ofD (dC (.str "copy")))) sNx)
  (sIf (dAndT (dCmpT ltD (dName 11) (dC (.int 2))) (dCmpT gtD (dPeek 9 (dName 11)) (dC (.int 0)))) (sSetIx 9 (dName 11) (frz (dBin subD (dPeek 9 (dName 11)) (dC (.int 1))))) sNx))
theorem fa2 {P : Nat → Prop} (h0 : P 0) (h1 : P 1) : ∀ m, m < 2 → P m
  | 0, _ => h0
  | 1, _ => h1
theorem fa4 {P : Nat → Prop} (h0 : P 0) (h1 : P 1) (h2 : P 2) (h3 : P 3) : ∀ m, m < 4 → P m
  | 0, _ => h0
  | 1, _ => h1
  | 2, _ => h2
  | 3, _ => h3
theorem fa6 {P : Nat → Prop} (h0 : P 0) (h1 : P 1) (h2 : P 2) (h3 : P 3) (h4 : P 4) (h5 : P 5) : ∀ m, m < 6 → P m
  | 0, _ => h0
  | 1, _ => h1
  | 2, _ => h2
  | 3, _ => h3
  | 4, _ => h4
  | 5, _ => h5
theorem lem_ev (t : List PyData) (z m lap e5 e6 tk rk e11 : En) (h11 : okEn e11) : ∀ i, i < 6 → ∀ a, a < 4 → ∀ b, b < 2 → leM (lfE t z m lap e5 e6 tk rk a b (W6 i) e11) = .ok (.nx, lfE t z m lap e5 e6 tk rk (na i a) (nb i b) (W6 (nw i a b)) (.fz (intM (kd i)))) := by
  rcases h11 with rfl | ⟨y, rfl⟩ <;> refine fa6 ?_ ?_ ?_ ?_ ?_ ?_ <;> refine fa4 ?_ ?_ ?_ ?_ <;> refine fa2 ?_ ?_ <;> kernel_rfl
end K15

/-! A20: a turn of the leaf's loop: the word that is drawn. -/
namespace K15
open PySem PySem.Spec L2 Gx M10
open PyProof.Rows hiding St
theorem seq_inv {ρ ρ1 : Ev} {f g : Dn Fl} (h1 : sSeq f g ρ = .ok (.nx, ρ1)) : ∃ ρ2, f ρ = .ok (.nx, ρ2) ∧ g ρ2 = .ok (.nx, ρ1) := by
  have k1 : bnd f (fun fl => match fl with
    | .nx => g
    | fl => ret fl) ρ = .ok (.nx, ρ1) := h1
  unfold bnd at k1
  cases e : f ρ with
  | st => rw [e] at k1; cases k1
  | ex x => rw [e] at k1; cases k1
  | ok t =>
    obtain ⟨fl, ρ2⟩ := t
    rw [e] at k1
    cases fl with
    | nx => exact ⟨ρ2, rfl, k1⟩
    | _ => cases k1
theorem seq4 {ρ ρ1 : Ev} {f g h k : Dn Fl} {r : Rs (Fl × Ev)} (h1 : sSeq f (sSeq g h) ρ = .ok (.nx, ρ1)) (h2 : k ρ1 = r) : sSeq f (sSeq g (sSeq h k)) ρ = r := by
  obtain ⟨ρ2, a1, a2⟩ := seq_inv h1
  exact ev_seq a1 (seq3 a2 h2)
def o5 (e : En) : Prop := e = .ol wds ∨ e = .fz (.list wds)
def lf0 (t : List PyData) (z m : En) (k : Nat) (e5 e6 tk rk : En) (a b : Nat) (e10 e11 : En) : Ev := [.bl t, .fz (.int 3), z, m, .fz (intM k), e5, e6, tk, rk, .ol [intM a, intM b], e10, e11]
abbrev leW : Dn Fl := sSet 10 (ofD (dIf (dOrT (dCmpT gtD (dName 4) (dC (.int 0))) (dCmpT eqD (frz (dFn (den_take) (aLend 0 (aCons (ofD (dC (.int 4))) aNil)))) (dC (.int 0)))) (frz (dFn (den_of) (aLend 0 (aCons (ofD (dName 5)) aNil)))) (dC (.str "put"))))
theorem word_at {n : Nat} {t : List PyData} {z m : En} {k : Nat} {e5 e6 tk rk : En} {a b : Nat} {e10 e11 : En} (h : TinOk n t) (hn : n < 700000) (h5 : o5 e5) : ∃ (i : Nat) (t' : List PyData), i < 6 ∧ TinOk (n + 1) t' ∧ frz (dFn (den_of) (aLend 0 (aCons (ofD (dName 5)) aNil))) (lf0 t z m k e5 e6 tk rk a b e10 e11) = .ok (.str (W6 i), lf0 t' z m k (.fz (.list wds)) e6 tk rk a b e10 e11) := by
  have hf : dName 5 (lf0 t z m k e5 e6 tk rk a b e10 e11) = .ok (.list wds, lf0 t z m k (.fz (.list wds)) e6 tk rk a b e10 e11) := by
    rcases h5 with rfl | rfl <;> rfl
  obtain ⟨d, x, t', a1, a2, a3, a4⟩ := of_at (ρ := lf0 t z m k e5 e6 tk rk a b e10 e11) rfl rfl hf h (by omega) (by decide) (by decide)
  obtain ⟨w, rfl, hw⟩ := wds_six d x a2
  obtain ⟨i, i6, rfl⟩ := six_w6 hw
  exact ⟨i, t', i6, a3, a4⟩
theorem leW_ev {n : Nat} {t : List PyData} {z m : En} {k : Nat} {e5 e6 tk rk : En} {a b : Nat} {e10 e11 : En} (h : TinOk n t) (hn : n < 600000) (h5 : o5 e5) (h10 : okEn e10) : ∃ (i : Nat) (t' : List PyData) (e5' : En), i < 6 ∧ o5 e5' ∧ TinOk (n + 2) t' ∧ leW (lf0 t z m k e5 e6 tk rk a b e10 e11) = .ok (.nx, lfE t' z m (.fz (intM k)) e5' e6 tk rk a b (W6 i) e11) := by
  have fin : ∀ (t' : List PyData) (e5' : En) (i : Nat), (dIf (dOrT (dCmpT gtD (dName 4) (dC (.int 0))) (dCmpT eqD (frz (dFn (den_take) (aLend 0 (aCons (ofD (dC (.int 4))) aNil)))) (dC (.int 0)))) (frz (dFn (den_of) (aLend 0 (aCons (ofD (dName 5)) aNil)))) (dC (.str "put"))) (lf0 t z m k e5 e6 tk rk a b e10 e11) = .ok (.str (W6 i), lf0 t' z m k e5' e6 tk rk a b e10 e11) → leW (lf0 t z m k e5 e6 tk rk a b e10 e11) = .ok (.nx, lfE t' z m (.fz (intM k)) e5' e6 tk rk a b (W6 i) e11) := fun t' e5' i e =>
    ev_setTo (ρ1 := lf0 t' z m k e5' e6 tk rk a b e10 e11) (ev_ofD e) (by rcases h10 with rfl | ⟨_, rfl⟩ <;> rfl) rfl
  cases k with
  | succ k =>
    have c : (dOrT (dCmpT gtD (dName 4) (dC (.int 0))) (dCmpT eqD (frz (dFn (den_take) (aLend 0 (aCons (ofD (dC (.int 4))) aNil)))) (dC (.int 0)))) (lf0 t z m (k + 1) e5 e6 tk rk a b e10 e11) = .ok (true, lf0 t z m (k + 1) e5 e6 tk rk a b e10 e11) :=
      ev_bnd (a := true) (ev_cmpT rfl rfl (by show fB (decide ((0 : Int) < ((k + 1 : Nat) : Int))) = fB true; rw [decide_eq_true (by omega)])) rfl
    obtain ⟨i, t', i6, h', e⟩ := word_at (z := z) (m := m) (k := k + 1) (e6 := e6) (tk := tk) (rk := rk) (a := a) (b := b) (e10 := e10) (e11 := e11) h (by omega) h5
    exact ⟨i, t', _, i6, .inr rfl, h'.mono (by omega), fin _ _ _ (ev_bnd c e)⟩
  | zero =>
    obtain ⟨d, t1, d1, d2, d3⟩ := take_at (ρ := lf0 t z m 0 e5 e6 tk rk a b e10 e11) (b := 4) (fb := ofD (dC (.int 4))) rfl h (by omega) (by omega) (by omega) rfl
    have c : (dOrT (dCmpT gtD (dName 4) (dC (.int 0))) (dCmpT eqD (frz (dFn (den_take) (aLend 0 (aCons (ofD (dC (.int 4))) aNil)))) (dC (.int 0)))) (lf0 t z m 0 e5 e6 tk rk a b e10 e11) = .ok (d == 0, lf0 t1 z m 0 e5 e6 tk rk a b e10 e11) :=
      ev_bnd (a := false) rfl (ev_cmpT d3 rfl (isR_ok (all1 c_eq0 (show d < 6 by omega))))
    by_cases y : (d == 0) = true
    · obtain ⟨i, t', i6, h', e⟩ := word_at (z := z) (m := m) (k := 0) (e6 := e6) (tk := tk) (rk := rk) (a := a) (b := b) (e10 := e10) (e11 := e11) d2 (by omega) h5
      exact ⟨i, t', _, i6, .inr rfl, h', fin _ _ _ (ev_bnd c (by rw [y]; exact e))⟩
    · exact ⟨0, t1, e5, by decide, h5, d2.mono (by omega), fin _ _ _ (ev_bnd c (by rw [show (d == 0) = false by simpa using y]; rfl))⟩
end K15

/-! A21: a whole turn of the leaf's loop. -/
namespace K15
open PySem PySem.Spec L2 Gx M10
open PyProof.Rows hiding St
theorem tks_int : ∀ (d : Nat) (x : PyData), ([.int 0, .int 1, .int 1, .int 2] : List PyData)[d]? = some x → ∃ v : Int, x = .int v
  | 0, _, h => by cases h; exact ⟨_, rfl⟩
  | 1, _, h => by cases h; exact ⟨_, rfl⟩
  | 2, _, h => by cases h; exact ⟨_, rfl⟩
  | 3, _, h => by cases h; exact ⟨_, rfl⟩
  | _ + 4, _, h => by cases h
abbrev leT : Dn Fl := sSet 7 (dBin addD (dName 7) (frz (dFn (den_of) (aLend 0 (aCons (ofD (frz (dLst (dCons (dC (.int 0)) (dCons (dC (.int 1)) (dCons (dC (.int 1)) (dCons (dC (.int 2)) dNil))))))) aNil)))))
abbrev leR : Dn Fl := sSet 8 (dBin addD (frz (dBin addD (dName 8) (dC (.int 1)))) (frz (dCall intD (dCons (frz (dBin eqD (frz (dFn (den_take) (aLend 0 (aCons (ofD (dC (.int 3))) aNil)))) (dC (.int 0)))) dNil))))
abbrev leD : Dn Fl := sApp 6 (frz (dFn (den_deed) (aLend 0 (aCons (ofD (dName 1)) (aCons (ofD (dName 10)) (aCons (ofD (dName 7)) (aCons (ofD (dName 8)) aNil)))))))
theorem leT_ev {n : Nat} {t : List PyData} {z m lap e5 e6 rk e11 : En} {a b : Nat} {w : Str} {tk : Int} (h : TinOk n t) (hn : n < 600000) : ∃ (v : Int) (t' : List PyData), TinOk (n + 1) t' ∧ leT (lfE t z m lap e5 e6 (.fz (.int tk)) rk a b w e11) = .ok (.nx, lfE t' z m lap e5 e6 (.fz (.int v)) rk a b w e11) := by
  obtain ⟨d, x, t', a1, a2, a3, a4⟩ := of_at (ρ := lfE t z m lap e5 e6 (.fz (.int tk)) rk a b w e11) (ρ1 := lfE t z m lap e5 e6 (.fz (.int tk)) rk a b w e11) (xs := [.int 0, .int 1, .int 1, .int 2]) (f := frz (dLst (dCons (dC (.int 0)) (dCons (dC (.int 1)) (dCons (dC (.int 1)) (dCons (dC (.int 2)) dNil)))))) rfl rfl rfl h (by omega) (by decide) (by decide)
  obtain ⟨v, rfl⟩ := tks_int d x a2
  exact ⟨tk + v, t', a3, ev_setTo (ρ1 := lfE t' z m lap e5 e6 (.fz (.int tk)) rk a b w e11) (ev_bin rfl a4 rfl) rfl rfl⟩
theorem leR_ev {n : Nat} {t : List PyData} {z m lap e5 e6 tk e11 : En} {a b : Nat} {w : Str} {rk : Int} (h : TinOk n t) (hn : n < 600000) : ∃ (r : Int) (t' : List PyData), rk < r ∧ TinOk (n + 1) t' ∧ leR (lfE t z m lap e5 e6 tk (.fz (.int rk)) a b w e11) = .ok (.nx, lfE t' z m lap e5 e6 tk (.fz (.int r)) a b w e11) := by
  obtain ⟨d, t', d1, d2, d3⟩ := take_at (ρ := lfE t z m lap e5 e6 tk (.fz (.int rk)) a b w e11) (b := 3) (fb := ofD (dC (.int 3))) rfl h (by omega) (by omega) (by omega) rfl
  have q : (frz (dCall intD (dCons (frz (dBin eqD (frz (dFn (den_take) (aLend 0 (aCons (ofD (dC (.int 3))) aNil)))) (dC (.int 0)))) dNil))) (lfE t z m lap e5 e6 tk (.fz (.int rk)) a b w e11) = .ok (.int (if d == 0 then 1 else 0), lfE t' z m lap e5 e6 tk (.fz (.int rk)) a b w e11) := by
    refine frzF (ev_call (ev_cons (frzF (ev_bin d3 rfl (isR_ok (all1 c_eq0 (show d < 6 by omega))))) ev_nil) ?_)
    cases (d == 0) <;> rfl
  refine ⟨rk + 1 + (if d == 0 then 1 else 0), t', by split <;> omega, d2, ev_setTo (ρ1 := lfE t' z m lap e5 e6 tk (.fz (.int rk)) a b w e11) (ev_bin rfl q rfl) rfl rfl⟩
theorem leD_ev {n i : Nat} {t : List PyData} {z m lap e5 e11 : En} {a b : Nat} {tk r : Int} {ds : List Dd} (h : TinOk n t) (hn : n < 600000) (hr : 1 ≤ r) (hl : ds.length ≤ 900) : ∃ (d : Dd) (t' : List PyData), d.ok ∧ (d.isW = true → d.rk = r) ∧ TinOk (n + 60) t' ∧ leD (lfE t z m lap e5 (.ol (ds.map Dd.d)) (.fz (.int tk)) (.fz (.int r)) a b (W6 i) e11) = .ok (.nx, lfE t' z m lap e5 (.ol ((ds ++ [d]).map Dd.d)) (.fz (.int tk)) (.fz (.int r)) a b (W6 i) e11) := by
  obtain ⟨d, t', es, a1, a2, a3, a4⟩ := deed_ev (w := W6 i) (tk := tk) (r := r) (w6_six i) h (by omega) hr
  refine ⟨d, t', a1, a2, a3, ?_⟩
  have hp := ev_lend (ρ := lfE t z m lap e5 (.ol (ds.map Dd.d)) (.fz (.int tk)) (.fz (.int r)) a b (W6 i) e11) (ρ1 := lfE t z m lap e5 (.ol (ds.map Dd.d)) (.fz (.int tk)) (.fz (.int r)) a b (W6 i) e11) (f := aLend 0 (aCons (ofD (dName 1)) (aCons (ofD (dName 10)) (aCons (ofD (dName 7)) (aCons (ofD (dName 8)) aNil))))) (as := [.fz (.int 3), .fz (.str (W6 i)), .fz (.int tk), .fz (.int r)]) (ev_lendB rfl (ev_aconsF rfl (ev_aconsF rfl (ev_aconsF rfl (ev_aconsF rfl rfl))))) rfl rfl (es := [.fz (.int 3), .fz (.str (W6 i)), .fz (.int tk), .fz (.int r)]) rfl a4
  refine (ev_appS (i := 6) (ρ := lfE t z m lap e5 (.ol (ds.map Dd.d)) (.fz (.int tk)) (.fz (.int r)) a b (W6 i) e11) rfl (frzF hp) rfl (by rw [List.length_map]; omega)).trans ?_
  rw [List.map_append]
  rfl
end K15

/-! A22: a leaf that is drawn. -/
namespace K15
open PySem PySem.Spec L2 Gx M10
open PyProof.Rows hiding St
structure LI (n : Nat) (z m : En) (j : Nat) (σ : Ev) (t : List PyData) (e4 e5 : En) (ds : List Dd) (tk rk : Int) (a b : Nat) (e10 e11 : En) : Prop where
  o4 : okEn e4
  h5 : o5 e5
  o10 : okEn e10
  o11 : okEn e11
  ha : a < 4
  hb : b < 2
  ok : Ok ds
  asc : Asc ds
  ln : ds.length = j
  r0 : 0 ≤ rk
  top : ∀ k ∈ wn ds, (gd ds k).rk ≤ rk
  tin : TinOk (n + 70 * j) t
  eq : σ = [.bl t, .fz (.int 3), z, m, e4, e5, .ol (ds.map Dd.d), .fz (.int tk), .fz (.int rk), .ol [intM a, intM b], e10, e11]
def LX (n : Nat) (z m : En) (j : Nat) (σ : Ev) : Prop := ∃ t e4 e5 ds tk rk a b e10 e11, LI n z m j σ t e4 e5 ds tk rk a b e10 e11
abbrev leB : Dn Fl := sSeq leW (sSeq (sSet 11 (ofD (dIf (dCmpT inW (dName 10) (dTup (dCons (dC (.str "put")) (dCons (dC (.str "strike")) dNil)))) (dC (.int 0)) (dIf (dCmpT eqD (dName 10) (dC (.str "send"))) (dC (.int 1)) (dC (.int 2))))))
  (sSeq (sIf (dAndT (dCmpT ltD (dName 11) (dC (.int 2))) (dCmpT eqD (dPeek 9 (dName 11)) (dC (.int 0)))) (sSet 10 (ofD (dC (.str "copy")))) sNx)
  (sSeq (sIf (dAndT (dCmpT ltD (dName 11) (dC (.int 2))) (dCmpT gtD (dPeek 9 (dName 11)) (dC (.int 0)))) (sSetIx 9 (dName 11) (frz (dBin subD (dPeek 9 (dName 11)) (dC (.int 1))))) sNx)
  (sSeq leT (sSeq leR leD)))))
theorem turn_ev {n : Nat} {z m : En} {j : Nat} {σ : Ev} (hn : n + 70 * j < 500000) (hj : j ≤ 900) (h : LX n z m j σ) : ∃ σ1 σ2, hName 4 (intM j) σ = some σ1 ∧ leB σ1 = .ok (.nx, σ2) ∧ LX n z m (j + 1) σ2 := by
  obtain ⟨t, e4, e5, ds, tk, rk, a, b, e10, e11, I⟩ := h
  obtain ⟨o4, h5, o10, o11, ha, hb, ok, asc, ln, r0, top, tin, rfl⟩ := I
  obtain ⟨i, t1, e5', i6, h5', h1, q1⟩ := leW_ev (z := z) (m := m) (k := j) (e6 := .ol (ds.map Dd.d)) (tk := .fz (.int tk)) (rk := .fz (.int rk)) (a := a) (b := b) (e11 := e11) tin (by omega) h5 o10
  have q2 := lem_ev t1 z m (.fz (intM j)) e5' (.ol (ds.map Dd.d)) (.fz (.int tk)) (.fz (.int rk)) e11 o11 i i6 a ha b hb
  obtain ⟨v, t2, h2, q3⟩ := leT_ev (z := z) (m := m) (lap := .fz (intM j)) (e5 := e5') (e6 := .ol (ds.map Dd.d)) (rk := .fz (.int rk)) (e11 := .fz (intM (kd i))) (a := na i a) (b := nb i b) (w := W6 (nw i a b)) (tk := tk) h1 (by omega)
  obtain ⟨r, t3, hr, h3, q4⟩ := leR_ev (z := z) (m := m) (lap := .fz (intM j)) (e5 := e5') (e6 := .ol (ds.map Dd.d)) (tk := .fz (.int v)) (e11 := .fz (intM (kd i))) (a := na i a) (b := nb i b) (w := W6 (nw i a b)) (rk := rk) h2 (by omega)
  obtain ⟨d, t4, d1, d2, h4, q5⟩ := leD_ev (i := nw i a b) (z := z) (m := m) (lap := .fz (intM j)) (e5 := e5') (e11 := .fz (intM (kd i))) (a := na i a) (b := nb i b) (tk := v) (r := r) (ds := ds) h3 (by omega) (by omega) (by omega)
  obtain ⟨asc', top'⟩ := asc_app asc top hr d2
  refine ⟨lf0 t z m j e5 (.ol (ds.map Dd.d)) (.fz (.int tk)) (.fz (.int rk)) a b e10 e11, _, by rcases o4 with rfl | ⟨_, rfl⟩ <;> rfl, ev_seq q1 (seq4 q2 (ev_seq q3 (ev_seq q4 q5))), t4, .fz (intM j), e5', ds ++ [d], v, r, na i a, nb i b, .fz (.str (W6 (nw i a b))), .fz (intM (kd i)), ⟨.inr ⟨_, rfl⟩, h5', .inr ⟨_, rfl⟩, .inr ⟨_, rfl⟩, na_lt ha, nb_lt hb, fun x hx => ?_, asc', by rw [List.length_append, ln]; rfl, by omega, top', h4.mono (by omega), rfl⟩⟩
  rcases List.mem_append.mp hx with hx | hx
  · exact ok x hx
  · rw [List.mem_singleton.mp hx]; exact d1
end K15

/-! A23: the leaf. -/
namespace K15
open PySem PySem.Spec L2 Gx M10
open PyProof.Rows hiding St
abbrev Mo : En := .fz (.tuple [.int 3, .int 1])
theorem lives_int : ∀ (d : Nat) (x : PyData), ([.int 0, .int 1, .int 2, .int 3, .int 9] : List PyData)[d]? = some x → ∃ v : Int, x = .int v
  | 0, _, h => by cases h; exact ⟨_, rfl⟩
  | 1, _, h => by cases h; exact ⟨_, rfl⟩
  | 2, _, h => by cases h; exact ⟨_, rfl⟩
  | 3, _, h => by cases h; exact ⟨_, rfl⟩
  | 4, _, h => by cases h; exact ⟨_, rfl⟩
  | _ + 5, _, h => by cases h
theorem leaf_ev {n s : Nat} {t : List PyData} (h : TinOk n t) (hn : n < 300000) (hs : s ≤ 900) : ∃ (l : Int) (ds : List Dd) (t' : List PyData) (es : List En), Ok ds ∧ Asc ds ∧ ds.length = s ∧ TinOk (n + 70 * s + 1) t' ∧ den_leaf [.bl t, .fz (.int 3), .fz (intM s), Mo] = .ok (.fz (bkD l ds), .bl t' :: es) := by
  have st : LX n (.fz (intM s)) Mo 0 [.bl t, .fz (.int 3), .fz (intM s), Mo, .no, .ol wds, .ol [], .fz (.int 0), .fz (.int 0), .ol [intM 3, intM 1], .no, .no] :=
    ⟨t, .no, .ol wds, [], 0, 0, 3, 1, .no, .no, .inl rfl, .inl rfl, .inl rfl, .inl rfl, by decide, by decide, fun d hd => (List.not_mem_nil hd).elim, List.Pairwise.nil, rfl, Int.le_refl _, fun k hk => (by cases hk), by simpa using h, rfl⟩
  obtain ⟨ρ', q, t1, e4, e5, ds, tk, rk, a, b, e10, e11, I⟩ := ev_loopI (u := fun i => intM (0 + i)) (h := hName 4) (fb := leB) (fun pr σ => LX n (.fz (intM s)) Mo pr.length σ) (List.range s) _ (fun pr i po e σ hi => by
    obtain ⟨rfl, hlt⟩ := rng_pre e
    rw [Nat.zero_add]
    obtain ⟨σ1, σ2, e1, e2, e3⟩ := turn_ev (by omega) (by omega) hi
    exact ⟨σ1, σ2, e1, e2, by rw [List.length_append]; exact e3⟩) st
  obtain ⟨o4, h5, o10, o11, ha, hb, ok, asc, ln, r0, top, tin, rfl⟩ := I
  rw [List.length_range] at ln tin
  have h0 : (iRg1 (dCons (dName 2) dNil)) [.bl t, .fz (.int 3), .fz (intM s), Mo, .no, .ol wds, .ol [], .fz (.int 0), .fz (.int 0), .ol [intM 3, intM 1], .no, .no] = .ok ((List.range s).map fun i => intM (0 + i), [.bl t, .fz (.int 3), .fz (intM s), Mo, .no, .ol wds, .ol [], .fz (.int 0), .fz (.int 0), .ol [intM 3, intM 1], .no, .no]) :=
    ev_bnd (ev_cons rfl ev_nil) (ev_lft (rg1_n (by omega)))
  obtain ⟨d, x, t2, a1, a2, a3, a4⟩ := of_at (ρ := [.bl t1, .fz (.int 3), .fz (intM s), Mo, e4, e5, .ol (ds.map Dd.d), .fz (.int tk), .fz (.int rk), .ol [intM a, intM b], e10, e11]) (ρ1 := [.bl t1, .fz (.int 3), .fz (intM s), Mo, e4, e5, .ol (ds.map Dd.d), .fz (.int tk), .fz (.int rk), .ol [intM a, intM b], e10, e11]) (xs := [.int 0, .int 1, .int 2, .int 3, .int 9]) (f := frz (dLst (dCons (dC (.int 0)) (dCons (dC (.int 1)) (dCons (dC (.int 2)) (dCons (dC (.int 3)) (dCons (dC (.int 9)) dNil))))))) rfl rfl rfl tin (by omega) (by decide) (by decide)
  obtain ⟨l, rfl⟩ := lives_int d x a2
  have fin : (sRet (ofD (dTup (dCons (dName 1) (dCons (frz (dFn (den_of) (aLend 0 (aCons (ofD (frz (dLst (dCons (dC (.int 0)) (dCons (dC (.int 1)) (dCons (dC (.int 2)) (dCons (dC (.int 3)) (dCons (dC (.int 9)) dNil)))))))) aNil)))) (dCons (frz (dCall tupleD (dCons (dName 6) dNil))) dNil)))))) [.bl t1, .fz (.int 3), .fz (intM s), Mo, e4, e5, .ol (ds.map Dd.d), .fz (.int tk), .fz (.int rk), .ol [intM a, intM b], e10, e11] = .ok (.rt (.fz (bkD l ds)), [.bl t2, .fz (.int 3), .fz (intM s), Mo, e4, e5, .fz (.list (ds.map Dd.d)), .fz (.int tk), .fz (.int rk), .ol [intM a, intM b], e10, e11]) :=
    ev_ret (ev_ofD (ev_tup (ev_cons rfl (ev_cons a4 (ev_cons (frzF (ev_call (ev_cons rfl ev_nil) rfl)) ev_nil))) rfl))
  exact ⟨l, ds, t2, [.fz (.int 3), .fz (intM s), Mo], ok, asc, ln, a3, Eq.trans (ev_run (n := 4) (N := 12) (as := [.bl t, .fz (.int 3), .fz (intM s), Mo]) (ev_seq (ρ1 := [.bl t, .fz (.int 3), .fz (intM s), Mo, .no, .ol wds, .ol [], .no, .no, .no, .no, .no]) (by kernel_rfl) (ev_seq (ρ1 := [.bl t, .fz (.int 3), .fz (intM s), Mo, .no, .ol wds, .ol [], .fz (.int 0), .fz (.int 0), .ol [intM 3, intM 1], .no, .no]) (by kernel_rfl) (ev_seq (ev_bnd h0 q) fin)))) rfl⟩
end K15

/-! A24: a page; by hand. -/
namespace K15
open PySem PySem.Spec L2 Gx M10
open PyProof.Rows hiding St
theorem page_ev {n : Nat} {t : List PyData} (h : TinOk n t) (hn : n < 200000) : ∃ (l : Int) (ds : List Dd) (t' : List PyData) (es : List En), Ok ds ∧ Asc ds ∧ ds.length ≤ 5 ∧ TinOk (n + 400) t' ∧ den_page [.bl t, Mo] = .ok (.fz (bkD l ds), .bl t' :: es) := by
  obtain ⟨d, t1, d1, d2, d3⟩ := more_at (ρ := [.bl t, Mo]) (k := 3) (b := 3) (fb := ofD (dC (.int 3))) rfl h (by omega) (by omega) (by omega) rfl
  obtain ⟨l, ds, t2, es, a1, a2, a3, a4, a5⟩ := leaf_ev (s := 3 + d) d2 (by omega) (by omega)
  have hp := ev_lend (ρ := [.bl t, Mo]) (ρ1 := [.bl t1, Mo]) (f := aLend 0 (aCons (ofD (dC (.int 3))) (aCons (ofD (frz (dBin addD (dC (.int 3)) (frz (dFn (den_take) (aLend 0 (aCons (ofD (dC (.int 3))) aNil))))))) (aCons (ofD (dName 1)) aNil)))) (as := [.fz (.int 3), .fz (intM (3 + d)), .fz (.tuple [.int 3, .int 1])]) (ev_lendB rfl (ev_aconsF rfl (ev_aconsF (ev_ofD d3) (ev_aconsF rfl rfl)))) rfl rfl (es := [.fz (.int 3), .fz (intM (3 + d)), Mo]) rfl a5
  exact ⟨l, ds, t2, [Mo], a1, a2, by omega, a4.mono (by omega), Eq.trans (ev_run (n := 2) (N := 2) (as := [.bl t, Mo]) (ev_ret hp)) rfl⟩
theorem hand_ev : isG (den_by_hand_right []) (.fz (.bool true)) = true := by kernel_rfl
end K15

set_option maxHeartbeats 0
namespace K15
open PySem PySem.Spec L2 Gx
open PyProof.Rows hiding St
def cTgt_2 : PyData → Ev → Option Ev := hTup 2 (hCons (hName 3) (hCons (hName 4) hNil))
def cBody_2 : Dn Fl := sSeq (sSet 5 (dBin modD (frz (dCall intD (dCons (dName 3) dNil))) (dName 1)))
  (sSetIx 2 (dName 5) (frz (dBin addD (dPeek 2 (dName 5)) (frz (dBin mulD (dName 4) (frz (dBin addD (dName 3) (dC (.int 2)))))))))
def cEnv_2 (ns : List Int) (p q : Int) (e3 e4 e5 : En) : Ev := [.sc (.l ns), .fz (.int 2), .ol [.int p, .int q], e3, e4, e5]
theorem cbody_ev_2 (ns : List Int) (p q : Int) (i : Nat) (z : Int) (e5 : En) (hi : i < 1000) (he : isBl (some e5) = false) : ∃ p' q' d, cBody_2 (cEnv_2 ns p q (.fz (.int i)) (.fz (.int z)) e5) = .ok (.nx, cEnv_2 ns p' q' (.fz (.int i)) (.fz (.int z)) (.fz d)) := by
  have hw : w64 ((i : Int) + 2) = true := w64_of (by omega) (by omega)
  rcases (show (i : Int) % 2 = 0 ∨ (i : Int) % 2 = 1 by omega) with h | h
  · refine ⟨p + z * (i + 2), q, .int 0, ?_⟩
    refine ev_seq (ρ1 := cEnv_2 ns p q (.fz (.int i)) (.fz (.int z)) (.fz (.int 0))) (Eq.trans (ev_set (r := .fz (.int 0)) (ρ1 := cEnv_2 ns p q (.fz (.int i)) (.fz (.int z)) e5) (ev_bin (ev_frz (ev_call (ev_cons rfl ev_nil) rfl)) rfl (by show modD (.int i) (.int 2) = _; rw [modD_ev (by decide), h])) he) rfl) ?_
    exact Eq.trans (ev_setIx (ev_frz (ev_bin (ev_peek rfl rfl rfl) (ev_frz (ev_bin rfl (ev_frz (ev_bin rfl rfl rfl)) (mulD_r hw))) rfl)) rfl rfl rfl) rfl
  · refine ⟨p, q + z * (i + 2), .int 1, ?_⟩
    refine ev_seq (ρ1 := cEnv_2 ns p q (.fz (.int i)) (.fz (.int z)) (.fz (.int 1))) (Eq.trans (ev_set (r := .fz (.int 1)) (ρ1 := cEnv_2 ns p q (.fz (.int i)) (.fz (.int z)) e5) (ev_bin (ev_frz (ev_call (ev_cons rfl ev_nil) rfl)) rfl (by show modD (.int i) (.int 2) = _; rw [modD_ev (by decide), h])) he) rfl) ?_
    exact Eq.trans (ev_setIx (ev_frz (ev_bin (ev_peek rfl rfl rfl) (ev_frz (ev_bin rfl (ev_frz (ev_bin rfl rfl rfl)) (mulD_r hw))) rfl)) rfl rfl rfl) rfl
def okE_2 (e3 e4 e5 : En) : Prop := (e3 = .no ∧ e4 = .no ∧ e5 = .no) ∨ ∃ a b c, e3 = .fz a ∧ e4 = .fz b ∧ e5 = .fz c
theorem cloop_ev_2 (ns : List Int) : ∀ (l : List Int) (i : Nat) (p q : Int) (e3 e4 e5 : En), okE_2 e3 e4 e5 → i + l.length < 1000 → ∃ p' q' f3 f4 f5, loopF cTgt_2 cBody_2 (enumD i (l.map .int)) (cEnv_2 ns p q e3 e4 e5) = .ok (.nx, cEnv_2 ns p' q' f3 f4 f5)
  | [], i, p, q, e3, e4, e5, _, _ => ⟨p, q, e3, e4, e5, rfl⟩
  | z :: l, i, p, q, e3, e4, e5, he, hl => by
    simp only [List.length_cons] at hl
    have ht : cTgt_2 (.tuple [.int (i : Nat), .int z]) (cEnv_2 ns p q e3 e4 e5) = some (cEnv_2 ns p q (.fz (.int i)) (.fz (.int z)) e5) ∧ isBl (some e5) = false := by
      rcases he with ⟨rfl, rfl, rfl⟩ | ⟨a, b, c, rfl, rfl, rfl⟩
      · exact ⟨rfl, rfl⟩
      · exact ⟨rfl, rfl⟩
    obtain ⟨p1, q1, d, e⟩ := cbody_ev_2 ns p q i z e5 (by omega) ht.2
    obtain ⟨p', q', f3, f4, f5, ih⟩ := cloop_ev_2 ns l (i + 1) p1 q1 (.fz (.int i)) (.fz (.int z)) (.fz d) (.inr ⟨_, _, _, rfl, rfl, rfl⟩) (by omega)
    refine ⟨p', q', f3, f4, f5, ?_⟩
    show (match cTgt_2 (.tuple [.int (i : Nat), .int z]) (cEnv_2 ns p q e3 e4 e5) with
      | none => .st
      | some ρ1 => match cBody_2 ρ1 with
        | .st => .st
        | .ex e => .ex e
        | .ok (.nx, ρ2) => loopF cTgt_2 cBody_2 (enumD (i + 1) (l.map .int)) ρ2
        | .ok (.ct, ρ2) => loopF cTgt_2 cBody_2 (enumD (i + 1) (l.map .int)) ρ2
        | .ok (.bk, ρ2) => .ok (.nx, ρ2)
        | .ok (.rt r, ρ2) => .ok (.rt r, ρ2) : Rs (Fl × Ev)) = _
    rw [ht.1]
    simp only [e]
    exact ih
theorem cut2_2 (xs : List PyData) : Gx.cutD xs none (some 2) = xs.take 2 := by
  unfold Gx.cutD
  rw [HT.sIx_none, show HT.sIx xs.length xs.length (some 2) = min 2 xs.length from HT.sIx_nat _ _ 2, List.drop_zero, Nat.sub_zero]
  by_cases h : 2 ≤ xs.length
  · rw [Nat.min_eq_left h]
  · rw [Nat.min_eq_right (by omega), List.take_length, List.take_of_length_le (by omega)]
theorem cut63_2 (x y : PyData) (xs : List PyData) (h : xs.length + 2 ≤ 63) : Gx.cutD (x :: y :: xs) (some 2) (some 63) = xs := by
  unfold Gx.cutD
  rw [show HT.sIx (x :: y :: xs).length 0 (some 2) = min 2 (x :: y :: xs).length from HT.sIx_nat _ _ 2, show HT.sIx (x :: y :: xs).length (x :: y :: xs).length (some 63) = min 63 (x :: y :: xs).length from HT.sIx_nat _ _ 63]
  simp only [List.length_cons]
  rw [show min 2 (xs.length + 1 + 1) = 2 by omega, show min 63 (xs.length + 1 + 1) = xs.length + 1 + 1 by omega]
  show List.take (xs.length + 1 + 1 - 2) xs = xs
  exact List.take_of_length_le (by omega)
theorem cells_ev_2 (ns : List Int) (hl : ns.length ≤ 63) : ∃ cs : List Int, (cs.length = 1 ∨ cs.length = 2) ∧ den_cells [.sc (.l ns), .fz (.int 2)] = .ok (.ol (cs.map .int), [.sc (.l ns), .fz (.int 2)]) := by
  match ns, hl with
  | [], _ => exact ⟨[0], .inl rfl, by kernel_rfl⟩
  | [x], _ => exact ⟨[x], .inl rfl, by kernel_rfl⟩
  | x :: y :: rest, hl =>
    simp only [List.length_cons] at hl
    obtain ⟨p', q', f3, f4, f5, hlp⟩ := cloop_ev_2 (x :: y :: rest) rest 0 x y .no .no .no (.inl ⟨rfl, rfl, rfl⟩) (by omega)
    refine ⟨[p', q'], .inr rfl, ?_⟩
    refine Eq.trans (ev_run (n := 2) (N := 6) (as := [.sc (.l (x :: y :: rest)), .fz (.int 2)]) (r := .ol [.int p', .int q']) (ρ1 := [.sc (.l (x :: y :: rest)), .fz (.int 2), .no, f3, f4, f5]) ?_) rfl
    show b_cells [.sc (.l (x :: y :: rest)), .fz (.int 2), .no, .no, .no, .no] = _
    have s1 : (dSlP 0 dOff (dOn (dName 1))) [.sc (.l (x :: y :: rest)), .fz (.int 2), .no, .no, .no, .no] = .ok (.ol [.int x, .int y], [.sc (.l (x :: y :: rest)), .fz (.int 2), .no, .no, .no, .no]) := by
      have e : Gx.cutD ((x :: y :: rest).map .int) none (some 2) = [.int x, .int y] := by rw [cut2_2]; rfl
      rw [← e]
      rfl
    have s2 : (dSlP 0 (dOn (dName 1)) (dOn (dC (.int 63)))) (cEnv_2 (x :: y :: rest) x y .no .no .no) = .ok (.ol (rest.map .int), cEnv_2 (x :: y :: rest) x y .no .no .no) := by
      have e : Gx.cutD ((x :: y :: rest).map .int) (some 2) (some 63) = rest.map .int := cut63_2 _ _ _ (by simpa using hl)
      rw [← e]
      rfl
    refine ev_seq (ρ1 := cEnv_2 (x :: y :: rest) x y .no .no .no) (Eq.trans (ev_set (r := .ol [.int x, .int y]) (ρ1 := [.sc (.l (x :: y :: rest)), .fz (.int 2), .no, .no, .no, .no]) (ev_bnd (ev_call (ev_cons (ev_frz s1) ev_nil) rfl) (ev_bnd (ev_lft rfl) rfl)) rfl) rfl) ?_
    refine ev_seq (ρ1 := cEnv_2 (x :: y :: rest) p' q' f3 f4 f5) (ev_bnd (a := enumD 0 (rest.map .int)) (ρ1 := cEnv_2 (x :: y :: rest) x y .no .no .no) (ev_bnd (ev_cons (ev_frz s2) ev_nil) (ev_lft rfl)) hlp) ?_
    rfl
end K15

/-! A26: the inner turns of what is right. -/
namespace K15
open PySem PySem.Spec L2 Gx M10
open PyProof.Rows hiding St
abbrev riP : Dn Fl := sIf (dNotT (dTru (frz (dFn (den_paper_right) (aCons (ofD (dName 1)) (aCons (ofD (dName 2)) (aCons (ofD (dName 4)) aNil))))))) (sRet (ofD (dC (.bool false)))) sNx
def riE (t : En) (l : Int) (ds : List Dd) (c : Nat) (e3 e4 : En) : Ev := [t, .fz (bkD l ds), .fz (lotM c), e3, e4]
theorem inner_ev {t e3 e4 : En} {l : Int} {ds : List Dd} {c : Nat} (hl : ds.length ≤ 1000) (ok : Ok ds) (hc : c < 8) (o4 : okEn e4) (rs : List Int) (hr : ∀ r ∈ rs, 1 ≤ r) : ∃ e4', okEn e4' ∧ loopF (hName 4) riP (rs.map .int) (riE t l ds c e3 e4) = .ok (.nx, riE t l ds c e3 e4') := by
  obtain ⟨ρ', q, e4', o', rfl⟩ := ev_loopI (u := PyData.int) (h := hName 4) (fb := riP) (fun _ σ => ∃ e4', okEn e4' ∧ σ = riE t l ds c e3 e4') rs (riE t l ds c e3 e4) (fun pr r po e σ hi => by
    obtain ⟨x, ox, rfl⟩ := hi
    have h1 : 1 ≤ r := hr r (by rw [e]; simp)
    exact ⟨riE t l ds c e3 (.fz (.int r)), riE t l ds c e3 (.fz (.int r)), by rcases ox with rfl | ⟨_, rfl⟩ <;> rfl, ev_if (ev_bnd (ev_bnd (frzF (gv_fn (as := [.fz (bkD l ds), .fz (lotM c), .fz (.int r)]) rfl rfl rfl (paper_ev hl ok hc h1))) (ev_lft rfl)) rfl) rfl, _, .inr ⟨_, rfl⟩, rfl⟩) ⟨e4, o4, rfl⟩
  exact ⟨e4', o', q⟩
end K15

/-! E34: a law whose script gives up to two boxes, each judged by itself. -/
namespace Gx
open PySem PySem.Spec L2
open PyProof.Rows hiding St
abbrev lawB2 (dh dc dr db : Den) : Dn Fl := sSeq (sIf (dNotT (dTru (frz (dFn0 dh)))) (sRet (ofD (dC (.bool false)))) sNx)
  (sSeq (sSet 1 (dFn dc (aLend 0 (aCons (ofD (dC (.int 2))) aNil))))
  (sRet (dCall allD (dCons (frz (dComp (iRg1 (dCons (dLenP 1) dNil)) (hName 2) yesT (frz (dFn dr (aCons (dFn db (aCons (ofD (dName 1)) (aCons (ofD (dName 2)) aNil))) aNil))) [2])) dNil))))
theorem fn0_ev {dh : Den} {r : Rv} {ρ : Ev} (h : Gv dh [] r) : dFn0 dh ρ = .ok (r, ρ) := by
  obtain ⟨es, h⟩ := h
  exact ev_fn (as := []) rfl rfl rfl h
theorem law2_ev {dh dc dr db : Den} {T : List PyData → Prop} (h1 : Gv dh [] (.fz (.bool true)))
    (h2 : ∀ ns : List Int, ns.length ≤ 63 → ∃ cs : List Int, (cs.length = 1 ∨ cs.length = 2) ∧ dc [.sc (.l ns), .fz (.int 2)] = .ok (.ol (cs.map .int), [.sc (.l ns), .fz (.int 2)]))
    (h3 : ∀ (cs : List Int) (k : Nat) (z : Int), cs[k]? = some z → k < 2 → cs.length ≤ 2 → ∃ t, T t ∧ Gv db [.fz (.list (cs.map .int)), .fz (.int k)] (.ol t))
    (h4 : ∀ t, T t → Gv dr [.bl t] (.fz (.bool true))) (ns : List Int) (hl : ns.length ≤ 63) : runF 1 3 (lawB2 dh dc dr db) [.sc (.l ns)] = .ok (.fz (.bool true), [.sc (.l ns)]) := by
  obtain ⟨cs, hc, hcells⟩ := h2 ns hl
  have s1 : (sIf (dNotT (dTru (frz (dFn0 dh)))) (sRet (ofD (dC (.bool false)))) sNx) [.sc (.l ns), .no, .no] = .ok (.nx, [.sc (.l ns), .no, .no]) :=
    ev_if (b := false) (ev_bnd (a := true) (ev_bnd (ev_frz (fn0_ev h1)) rfl) rfl) rfl
  have s2 : (sSet 1 (dFn dc (aLend 0 (aCons (ofD (dC (.int 2))) aNil)))) [.sc (.l ns), .no, .no] = .ok (.nx, [.sc (.l ns), .ol (cs.map .int), .no]) :=
    ev_set (ρ1 := [.sc (.l ns), .no, .no]) (r := .ol (cs.map .int)) (ev_fn (ev_lendS rfl (ev_aconsF (d := .int 2) rfl rfl)) rfl rfl hcells) rfl
  -- one turn
  have turn : ∀ (k : Nat) (e1 : En), k < cs.length → (e1 = .ol (cs.map .int) ∨ e1 = .fz (.list (cs.map .int))) →
      (frz (dFn dr (aCons (dFn db (aCons (ofD (dName 1)) (aCons (ofD (dName 2)) aNil))) aNil))) [.sc (.l ns), e1, .fz (.int k)] = .ok (.bool true, [.sc (.l ns), .fz (.list (cs.map .int)), .fz (.int k)]) := fun k e1 hk he => by
    have hz : cs[k]? = some cs[k] := List.getElem?_eq_getElem hk
    obtain ⟨t, ht, hb⟩ := h3 cs k cs[k] hz (by omega) (by omega)
    have n1 : (dName 1) [.sc (.l ns), e1, .fz (.int k)] = .ok (.list (cs.map .int), [.sc (.l ns), .fz (.list (cs.map .int)), .fz (.int k)]) := by
      rcases he with rfl | rfl <;> rfl
    have b1 : (dFn db (aCons (ofD (dName 1)) (aCons (ofD (dName 2)) aNil))) [.sc (.l ns), e1, .fz (.int k)] = .ok (.ol t, [.sc (.l ns), .fz (.list (cs.map .int)), .fz (.int k)]) :=
      gv_fn (as := [.fz (.list (cs.map .int)), .fz (.int k)]) (ev_aconsF (ev_ofD n1) (ev_aconsF (ev_ofD rfl) rfl)) rfl rfl hb
    exact ev_frz (r := .fz (.bool true)) (gv_fn (as := [.tp t]) (ev_aconsO b1 rfl) rfl rfl (h4 t ht))
  have fin : (frz (dComp (iRg1 (dCons (dLenP 1) dNil)) (hName 2) yesT (frz (dFn dr (aCons (dFn db (aCons (ofD (dName 1)) (aCons (ofD (dName 2)) aNil))) aNil))) [2])) [.sc (.l ns), .ol (cs.map .int), .no] = .ok (.list (List.replicate cs.length (.bool true)), [.sc (.l ns), .fz (.list (cs.map .int)), .no]) := by
    match cs, hc with
    | [a], _ =>
      have it : (iRg1 (dCons (dLenP 1) dNil)) [.sc (.l ns), .ol [.int a], .no] = .ok ([.int 0], [.sc (.l ns), .ol [.int a], .no]) := by kernel_rfl
      have t0 := turn 0 (.ol [.int a]) (by show 0 < 1; decide) (.inl rfl)
      refine ev_frz (r := .ol [.bool true]) (Eq.trans (ev_comp (ys := [.bool true]) (ρ2 := [.sc (.l ns), .fz (.list [.int a]), .no]) it rfl ?_) rfl)
      exact ev_ccons (ρ1 := [.sc (.l ns), .ol [.int a], .fz (.int 0)]) (ρ2 := [.sc (.l ns), .ol [.int a], .fz (.int 0)]) (ρ3 := [.sc (.l ns), .fz (.list [.int a]), .fz (.int 0)]) rfl rfl t0 (by decide) rfl
    | [a, b], _ =>
      have it : (iRg1 (dCons (dLenP 1) dNil)) [.sc (.l ns), .ol [.int a, .int b], .no] = .ok ([.int 0, .int 1], [.sc (.l ns), .ol [.int a, .int b], .no]) := by kernel_rfl
      have t0 := turn 0 (.ol [.int a, .int b]) (by show 0 < 2; decide) (.inl rfl)
      have t1 := turn 1 (.fz (.list [.int a, .int b])) (by show 1 < 2; decide) (.inr rfl)
      refine ev_frz (r := .ol [.bool true, .bool true]) (Eq.trans (ev_comp (ys := [.bool true, .bool true]) (ρ2 := [.sc (.l ns), .fz (.list [.int a, .int b]), .no]) it rfl ?_) rfl)
      refine ev_ccons (ρ1 := [.sc (.l ns), .ol [.int a, .int b], .fz (.int 0)]) (ρ2 := [.sc (.l ns), .ol [.int a, .int b], .fz (.int 0)]) (ρ3 := [.sc (.l ns), .fz (.list [.int a, .int b]), .fz (.int 0)]) rfl rfl t0 (by decide) ?_
      exact ev_ccons (ρ1 := [.sc (.l ns), .fz (.list [.int a, .int b]), .fz (.int 1)]) (ρ2 := [.sc (.l ns), .fz (.list [.int a, .int b]), .fz (.int 1)]) (ρ3 := [.sc (.l ns), .fz (.list [.int a, .int b]), .fz (.int 1)]) rfl rfl t1 (by decide) rfl
  have al : (dCall allD (dCons (frz (dComp (iRg1 (dCons (dLenP 1) dNil)) (hName 2) yesT (frz (dFn dr (aCons (dFn db (aCons (ofD (dName 1)) (aCons (ofD (dName 2)) aNil))) aNil))) [2])) dNil)) [.sc (.l ns), .ol (cs.map .int), .no] = .ok (.fz (.bool true), [.sc (.l ns), .fz (.list (cs.map .int)), .no]) := by
    refine ev_call (ev_cons fin ev_nil) ?_
    rcases hc with e | e <;> rw [e] <;> rfl
  exact Eq.trans (ev_run (n := 1) (N := 3) (as := [.sc (.l ns)]) (ev_seq s1 (ev_seq s2 (ev_ret al)))) rfl
end Gx

/-! A27: all is right. -/
namespace K15
open PySem PySem.Spec L2 Gx M10
open PyProof.Rows hiding St
theorem c_lots3 : isG (den_lots [.fz (.list [.int 0, .int 1, .int 2])]) (.ol ((tl.filter fun m => sub m 7).map lotM)) = true := by kernel_rfl
theorem c_sub7 : (tl.filter fun m => sub m 7).all (fun m => decide (m < 8)) = true := by decide +kernel
abbrev riI : Dn (List PyData) := iSeq (frz (dBin addD (frz (dLst (dCons (dC (.int 1)) dNil))) (frz (dFn (den_pick) (aLend 0 (aCons (ofD (frz (dFn (den_ranks) (aCons (ofD (dName 1)) aNil)))) (aCons (ofD (dC (.int 2))) aNil)))))))
abbrev riO : Dn (List PyData) := iSeq (frz (dFn (den_pick) (aLend 0 (aCons (ofD (frz (dFn (den_lots) (aCons (ofD (frz (dLst (dCons (dC (.int 0)) (dCons (dC (.int 1)) (dCons (dC (.int 2)) dNil)))))) aNil)))) (aCons (ofD (dC (.int 4))) aNil)))))
theorem ranks_in {ds : List Dd} (ok : Ok ds) : ∀ x ∈ (ds.filter Dd.isW).map Dd.rk, 1 ≤ x := fun x hx => by
  obtain ⟨d, hd, rfl⟩ := List.mem_map.mp hx
  exact rk_pos (ok d (List.mem_filter.mp hd).1) (List.mem_filter.mp hd).2
theorem riI_ev {n : Nat} {t : List PyData} {l : Int} {ds : List Dd} {c : Nat} {e4 : En} (h : TinOk n t) (hn : n < 500000) (hl : ds.length ≤ 5) (ok : Ok ds) : ∃ (t' : List PyData) (rs : List Int), TinOk (n + 5) t' ∧ (∀ r ∈ rs, 1 ≤ r) ∧ riI (riE (.bl t) l ds c .no e4) = .ok (rs.map .int, riE (.bl t') l ds c .no e4) := by
  have rk : (frz (dFn (den_ranks) (aCons (ofD (dName 1)) aNil))) (riE (.bl t) l ds c .no e4) = .ok (.list (((ds.filter Dd.isW).map Dd.rk).map .int), riE (.bl t) l ds c .no e4) := by
    rw [List.map_map]
    exact frzL (gv_fn (as := [.fz (bkD l ds)]) rfl rfl rfl (ranks_ev (by omega)))
  have rl : ((ds.filter Dd.isW).map Dd.rk).length ≤ 5 := by
    rw [List.length_map]
    exact Nat.le_trans (List.length_filter_le _ _) hl
  obtain ⟨t', ys, rest, es, p1, p2, p3, p4⟩ := pick_ev (xs := ((ds.filter Dd.isW).map Dd.rk).map .int) (cnt := 2) h (by rw [List.length_map]; omega) (by rw [List.length_map]; omega) (by omega)
  obtain ⟨ms, r, e, pe⟩ := pick_map p4
  subst e
  have yl : ms.length ≤ 2 := by rw [List.length_map] at p3; omega
  have hp := ev_lend (ρ := riE (.bl t) l ds c .no e4) (ρ1 := riE (.bl t) l ds c .no e4) (f := aLend 0 (aCons (ofD (frz (dFn (den_ranks) (aCons (ofD (dName 1)) aNil)))) (aCons (ofD (dC (.int 2))) aNil))) (as := [.fz (.list (((ds.filter Dd.isW).map Dd.rk).map .int)), .fz (.int 2)]) (ev_lendB rfl (ev_aconsF (ev_ofD rk) (ev_aconsF rfl rfl))) rfl rfl (es := [.fz (.list (((ds.filter Dd.isW).map Dd.rk).map .int)), .fz (.int 2)]) rfl p1
  refine ⟨t', 1 :: ms, p2.mono (by rw [List.length_map]; omega), fun x hx => ?_, ?_⟩
  · rcases List.mem_cons.mp hx with rfl | hx
    · omega
    · exact ranks_in ok x (pe.mem_iff.mp (List.mem_append.mpr (.inl hx)))
  · exact ev_iseq (frzL (ev_bin (x := .list [.int 1]) (y := .list (ms.map .int)) rfl (frzL hp) (addD_l (by rw [List.length_map]; show 1 + _ ≤ _; omega)))) rfl
theorem outer_ev {n : Nat} {l : Int} {ds : List Dd} (hl : ds.length ≤ 5) (ok : Ok ds) (hn : n < 300000) (cs : List Nat) (h8 : ∀ c ∈ cs, c < 8) (h5 : cs.length ≤ 5) {t : List PyData} (h : TinOk n t) : ∃ (t' : List PyData) (e2 e4 : En), TinOk (n + 25) t' ∧ loopF (hName 2) (sFor riI (hName 4) riP) (cs.map lotM) [.bl t, .fz (bkD l ds), .no, .no, .no] = .ok (.nx, [.bl t', .fz (bkD l ds), e2, .no, e4]) := by
  obtain ⟨ρ', q, t', e2, e4, _, _, h', rfl⟩ := ev_loopI (u := lotM) (h := hName 2) (fb := sFor riI (hName 4) riP) (fun pr σ => ∃ t' e2 e4, okEn e2 ∧ okEn e4 ∧ TinOk (n + 5 * pr.length) t' ∧ σ = [.bl t', .fz (bkD l ds), e2, .no, e4]) cs [.bl t, .fz (bkD l ds), .no, .no, .no] (fun pr c po e σ hi => by
    obtain ⟨t', e2, e4, o2, o4, h', rfl⟩ := hi
    have c8 : c < 8 := h8 c (by rw [e]; simp)
    have pl : pr.length < 5 := by
      have := congrArg List.length e
      simp at this
      omega
    obtain ⟨t2, rs, a1, a2, a3⟩ := riI_ev (l := l) (c := c) (e4 := e4) h' (by omega) hl ok
    obtain ⟨e4', o4', b⟩ := inner_ev (t := .bl t2) (l := l) (c := c) (e3 := .no) (by omega) ok c8 o4 rs a2
    exact ⟨riE (.bl t') l ds c .no e4, riE (.bl t2) l ds c .no e4', by rcases o2 with rfl | ⟨_, rfl⟩ <;> rfl, ev_bnd a3 b, t2, .fz (lotM c), e4', .inr ⟨_, rfl⟩, o4', by rw [List.length_append, List.length_singleton, Nat.mul_add]; exact a1, rfl⟩) ⟨t, .no, .no, .inl rfl, .inl rfl, h, rfl⟩
  exact ⟨t', e2, e4, h'.mono (by omega), q⟩
theorem own_of : ∀ (d : Nat) (x : PyData), ([lotM 7, lotM 3, lotM 6, lotM 5] : List PyData)[d]? = some x → ∃ w, w < 8 ∧ x = lotM w
  | 0, _, h => by cases h; exact ⟨7, by decide, rfl⟩
  | 1, _, h => by cases h; exact ⟨3, by decide, rfl⟩
  | 2, _, h => by cases h; exact ⟨6, by decide, rfl⟩
  | 3, _, h => by cases h; exact ⟨5, by decide, rfl⟩
  | _ + 4, _, h => by cases h
theorem right_ev {n : Nat} {t : List PyData} (hT : TinOk n t) (hn : n < 100000) : Gv den_right [.bl t] (.fz (.bool true)) := by
  obtain ⟨l, ds, t1, es, ok, asc, dl, h1, pg⟩ := page_ev hT (by omega)
  have s1 : (sSet 1 (dFn (den_page) (aLend 0 (aCons (ofD (dTup (dCons (dC (.int 3)) (dCons (dC (.int 1)) dNil)))) aNil)))) [.bl t, .no, .no, .no, .no] = .ok (.nx, [.bl t1, .fz (bkD l ds), .no, .no, .no]) :=
    ev_set (ρ1 := [.bl t1, .no, .no, .no, .no]) (r := .fz (bkD l ds)) (ev_lend (ρ := [.bl t, .no, .no, .no, .no]) (ρ1 := [.bl t, .no, .no, .no, .no]) (as := [.fz (.tuple [.int 3, .int 1])]) (ev_lendB rfl (ev_aconsF rfl rfl)) rfl rfl (es := [Mo]) rfl pg) rfl
  -- the crews
  have lt : (frz (dFn (den_lots) (aCons (ofD (frz (dLst (dCons (dC (.int 0)) (dCons (dC (.int 1)) (dCons (dC (.int 2)) dNil)))))) aNil))) [.bl t1, .fz (bkD l ds), .no, .no, .no] = .ok (.list ((tl.filter fun m => sub m 7).map lotM), [.bl t1, .fz (bkD l ds), .no, .no, .no]) :=
    frzL (gv_fn (as := [.fz (.list [.int 0, .int 1, .int 2])]) rfl rfl rfl (isG_ok c_lots3))
  have tl8 : (tl.filter fun m => sub m 7).length ≤ 32 := List.length_filter_le _ tl
  obtain ⟨t2, ys, rest, es2, p1, p2, p3, p4⟩ := pick_ev (xs := (tl.filter fun m => sub m 7).map lotM) (cnt := 4) h1 (by rw [List.length_map]; omega) (by rw [List.length_map]; omega) (by omega)
  obtain ⟨ms, r, e, pe⟩ := pick_map p4
  subst e
  have m5 : ms.length ≤ 5 := by rw [List.length_map] at p3; omega
  have m8 : ∀ c ∈ ms, c < 8 := fun c hc => of_decide_eq_true (List.all_eq_true.mp c_sub7 c (pe.mem_iff.mp (List.mem_append.mpr (.inl hc))))
  have it : riO [.bl t1, .fz (bkD l ds), .no, .no, .no] = .ok (ms.map lotM, [.bl t2, .fz (bkD l ds), .no, .no, .no]) :=
    ev_iseq (frzL (ev_lend (ρ := [.bl t1, .fz (bkD l ds), .no, .no, .no]) (ρ1 := [.bl t1, .fz (bkD l ds), .no, .no, .no]) (as := [.fz (.list ((tl.filter fun m => sub m 7).map lotM)), .fz (.int 4)]) (ev_lendB rfl (ev_aconsF (ev_ofD lt) (ev_aconsF rfl rfl))) rfl rfl (es := [.fz (.list ((tl.filter fun m => sub m 7).map lotM)), .fz (.int 4)]) rfl p1)) rfl
  obtain ⟨t3, e2, e4, h3, lp⟩ := outer_ev (n := n + 400 + 32) (l := l) dl ok (by omega) ms m8 m5 (p2.mono (by rw [List.length_map]; omega))
  have s2 : (sFor riO (hName 2) (sFor riI (hName 4) riP)) [.bl t1, .fz (bkD l ds), .no, .no, .no] = .ok (.nx, [.bl t3, .fz (bkD l ds), e2, .no, e4]) := ev_bnd it lp
  -- the owners
  obtain ⟨d, x, t4, es4, d1, d2, d3, d4⟩ := of_ev (xs := [lotM 7, lotM 3, lotM 6, lotM 5]) h3 (by omega) (by decide) (by decide)
  obtain ⟨w, w8, rfl⟩ := own_of d x d2
  have s3 : (sSet 3 (dFn (den_of) (aLend 0 (aCons (ofD (frz (dLst (dCons (dTup (dCons (dC (.int 0)) (dCons (dC (.int 1)) (dCons (dC (.int 2)) dNil)))) (dCons (dTup (dCons (dC (.int 0)) (dCons (dC (.int 1)) dNil))) (dCons (dTup (dCons (dC (.int 1)) (dCons (dC (.int 2)) dNil))) (dCons (dTup (dCons (dC (.int 0)) (dCons (dC (.int 2)) dNil))) dNil))))))) aNil)))) [.bl t3, .fz (bkD l ds), e2, .no, e4] = .ok (.nx, [.bl t4, .fz (bkD l ds), e2, .fz (lotM w), e4]) :=
    ev_set (ρ1 := [.bl t4, .fz (bkD l ds), e2, .no, e4]) (r := .fz (lotM w)) (ev_lend (ρ := [.bl t3, .fz (bkD l ds), e2, .no, e4]) (ρ1 := [.bl t3, .fz (bkD l ds), e2, .no, e4]) (as := [.fz (.list [lotM 7, lotM 3, lotM 6, lotM 5])]) (ev_lendB rfl (ev_aconsF (ev_ofD rfl) rfl)) rfl rfl (es := [.fz (.list [lotM 7, lotM 3, lotM 6, lotM 5])]) rfl d4) rfl
  obtain ⟨a, t5, a1, a2, a3⟩ := take_at (ρ := [.bl t4, .fz (bkD l ds), e2, .fz (lotM w), e4]) (b := 4) (fb := ofD (dC (.int 4))) rfl d3 (by omega) (by omega) (by omega) rfl
  exact gv_run ⟨_, ev_seq s1 (ev_seq s2 (ev_seq s3 (ev_ret (gv_fn (as := [.fz (bkD l ds), .fz (lotM w), .fz (intM a)]) (ev_aconsF (ev_ofD rfl) (ev_aconsF (ev_ofD rfl) (ev_aconsF (ev_ofD a3) rfl))) rfl rfl (versions_ev (by omega) ok asc w8 a1)))))⟩
theorem box_sat (cs : List Int) (k : Nat) (z : Int) (h : cs[k]? = some z) (hk : k < 2) (hl : cs.length ≤ 2) : ∃ t, (∃ a s : Int, 0 ≤ a ∧ t = tinD a s 0) ∧ Gv den_box [.fz (.list (cs.map .int)), .fz (.int k)] (.ol t) := by
  obtain ⟨a, s, e, ha⟩ := box_ev (cs.map .int) k z (by rw [List.getElem?_map, h]; rfl) (by omega) (by rw [List.length_map]; omega)
  exact ⟨_, ⟨a, s, ha, rfl⟩, _, e⟩
theorem law_ev (ns : List Int) (hl : ns.length ≤ 63) : den_law [.sc (.l ns)] = .ok (.fz (.bool true), [.sc (.l ns)]) :=
  law2_ev (T := fun t => ∃ a s : Int, 0 ≤ a ∧ t = tinD a s 0) (isG_ok hand_ev) cells_ev_2 box_sat (fun t ⟨a, s, ha, e⟩ => right_ev (n := 0) ⟨a, s, 0, e, ha, by omega, by omega⟩ (by omega)) ns hl
end K15

set_option maxHeartbeats 0
namespace K15
open PySem PySem.Spec L2 Gx
open PyProof.Rows hiding St
def noneB (K : PySem.W.Frag) (x : Str) : Bool := decide (PySem.W.nsIn K mainGlobals x = some none)
abbrev nms : List Str := ["abs", "all", "bool", "enumerate", "int", "isinstance", "len", "list", "min", "range", "reversed", "set", "sorted", "str", "tuple", "zip"]
def chk (K : PySem.W.Frag) : Bool := nms.all (noneB K)
theorem def_mk {K : PySem.W.Frag} {h : Heap} {mg : Str → Option Value} {x : Str} {st : Stmt} {ps : List Str} {f : Addr} {od an : Option Addr} {sl : Array (Option Value)} {oc kV dc pm cd ct : Value} (X : K.In h) (G : h.Ns mainGlobals mg) (a : PySem.W.nsIn K mainGlobals x = some (some (.ref f)))
    (l : K.lookup f = some ⟨oc, od, .func (PySem.W.fnOf x x (defArgs st) (defBody st) (defScope st) .none kV dc pm an cd ct), sl⟩) (c : PySem.W.codeIn K cd x = true) (k : PySem.W.keepIn K (.ref f) = true)
    (hb : ∀ (kV doc pm : Value) (an : Option Addr) (cdv ct : Value) (us : List Value), us.length = ps.length → bindArgs (PySem.W.fnOf x x (defArgs st) (defBody st) (defScope st) Value.none kV doc pm an cdv ct) { pos := us } = pure (ps.zip us)) : DefAt K mg x st ps :=
  have F := fun_mk l c k
  ⟨f, _, F, PySem.W.mg_of X G a, F.binds hb⟩
theorem defD_mk4 {K : PySem.W.Frag} {h : Heap} {mg : Str → Option Value} {x : Str} {st : Stmt} {ps : List Str} {f T e0 e1 e2 e3 : Addr} {od an oT : Option Addr} {sl sT : Array (Option Value)} {cT oc kV dc pm cd ct : Value} {n ne0 ne1 ne2 ne3 : Nat} {de0 de1 de2 de3 : Option Addr} {se0 se1 se2 se3 : Array (Option Value)} (X : K.In h) (G : h.Ns mainGlobals mg) (a : PySem.W.nsIn K mainGlobals x = some (some (.ref f)))
    (l : K.lookup f = some ⟨oc, od, .func (PySem.W.fnOf x x (defArgs st) (defBody st) (defScope st) (.ref T) kV dc pm an cd ct), sl⟩) (c : PySem.W.codeIn K cd x = true) (k : PySem.W.keepIn K (.ref f) = true)
    (lT : K.lookup T = some ⟨cT, oT, .seq #[Value.ref e0, Value.ref e1, Value.ref e2, Value.ref e3] n, sT⟩) (le0 : K.lookup e0 = some ⟨.type "tuple", de0, .seq #[] ne0, se0⟩) (le1 : K.lookup e1 = some ⟨.type "tuple", de1, .seq #[] ne1, se1⟩) (le2 : K.lookup e2 = some ⟨.type "tuple", de2, .seq #[] ne2, se2⟩) (le3 : K.lookup e3 = some ⟨.type "tuple", de3, .seq #[] ne3, se3⟩) : DefD K mg x st ps 4 :=
  ⟨f, _, [V.ref e0, V.ref e1, V.ref e2, V.ref e3], ⟨⟨oc, od, .ref T, kV, dc, pm, an, cd, ct, sl, rfl, l, c, .inr ⟨by simp, T, _, [Value.ref e0, Value.ref e1, Value.ref e2, Value.ref e3], n, rfl, lT, rfl, .cons rfl (.cons rfl (.cons rfl (.cons rfl (.nil))))⟩, .inl rfl⟩, k⟩, PySem.W.mg_of X G a, rfl, fun v hv => by
    simp only [List.mem_cons, List.not_mem_nil, or_false] at hv
    rcases hv with rfl | rfl | rfl | rfl
    · exact ⟨e0, rfl, fun H => .inr ⟨_, #[], ne0, le0, rfl, rfl, by decide, .nil⟩⟩
    · exact ⟨e1, rfl, fun H => .inr ⟨_, #[], ne1, le1, rfl, rfl, by decide, .nil⟩⟩
    · exact ⟨e2, rfl, fun H => .inr ⟨_, #[], ne2, le2, rfl, rfl, by decide, .nil⟩⟩
    · exact ⟨e3, rfl, fun H => .inr ⟨_, #[], ne3, le3, rfl, rfl, by decide, .nil⟩⟩⟩
theorem words_WRITES {K : PySem.W.Frag} {h : Heap} {mg : Str → Option Value} {a : Addr} {od : Option Addr} {sl : Array (Option Value)} {n : Nat} {t0 t1 : Nat} (X : K.In h) (G : h.Ns mainGlobals mg) (ha : PySem.W.nsIn K mainGlobals "WRITES" = some (some (.ref a)))
    (l : K.lookup a = some ⟨.type "tuple", od, .seq #[Value.str "put" t0, Value.str "strike" t1] n, sl⟩) : WordsAt K mg "WRITES" w_WRITES := ⟨a, PySem.W.mg_of X G ha, fun H => .inr ⟨_, _, n, l, rfl, rfl, (show 2 ≤ sizeLine by decide), .cons ⟨t0, rfl⟩ (.cons ⟨t1, rfl⟩ (.nil))⟩⟩
theorem txt_mk {K : PySem.W.Frag} {h : Heap} {mg : Str → Option Value} (X : K.In h) (G : h.Ns mainGlobals mg) (c : chk K = true)
    (ad_refuse : DefD K mg "refuse" s_refuse ["book", "places", "moments", "numbers", "ages"] 4) (ad_is_write : DefAt K mg "is_write" s_is_write ["deed"]) (ad_write_numbers : DefAt K mg "write_numbers" s_write_numbers ["deeds"]) (ad_writes_from : DefAt K mg "writes_from" s_writes_from ["deeds", "version"]) (ad_mask_of : DefAt K mg "mask_of" s_mask_of ["lot"]) (ad_masks_of : DefAt K mg "masks_of" s_masks_of ["family"]) (ad_has_place : DefAt K mg "has_place" s_has_place ["mask", "place"]) (ad_frozen : DefAt K mg "frozen" s_frozen ["value"]) (ad_choices : DefAt K mg "choices" s_choices ["items", "many"]) (ad_mask_ahead : DefAt K mg "mask_ahead" s_mask_ahead ["deed", "mask"]) (ad_past_masks : DefAt K mg "past_masks" s_past_masks ["deeds", "mask", "moment"]) (ad_road_in : DefAt K mg "road_in" s_road_in ["deeds", "masks", "place", "start"]) (ad_masks_behind : DefAt K mg "masks_behind" s_masks_behind ["book", "some"]) (ad_first_free : DefAt K mg "first_free" s_first_free ["lots", "mask"]) (ad_offers_from : DefAt K mg "offers_from" s_offers_from ["deeds", "version"]) (ad_first_held : DefAt K mg "first_held" s_first_held ["offers", "masks"]) (ad_hold_paper : DefAt K mg "hold_paper" s_hold_paper ["book", "some", "version"]) (ad_held_by : DefAt K mg "held_by" s_held_by ["book", "offers", "some"]) (ad_missed_versions : DefAt K mg "missed_versions" s_missed_versions ["book", "owners", "asked"]) (ad_box : DefAt K mg "_law_box" s_box ["script", "k"]) (ad_take : DefAt K mg "_law_take" s_take ["tin", "below_so"]) (ad_cells : DefAt K mg "_law_cells" s_cells ["script", "most_so"]) (ad_of : DefAt K mg "_law_of" s_of ["tin", "goods_so"]) (ad_pick : DefAt K mg "_law_pick" s_pick ["tin", "goods_so", "count_so"]) (ad_lists : DefAt K mg "_law_lists" s_lists ["matter"]) (ad_same : DefAt K mg "_law_same" s_same ["got", "due"]) (ad_lots : DefAt K mg "_law_lots" s_lots ["goods_so"]) (ad_counted : DefAt K mg "_law_counted" s_counted ["goods_so", "need_so"]) (ad_within : DefAt K mg "_law_within" s_within ["crew", "wide_so"]) (ad_apart : DefAt K mg "_law_apart" s_apart ["crew", "wide_so"]) (ad_least : DefAt K mg "_law_least" s_least ["lots_so"]) (ad_room : DefAt K mg "_law_room" s_room ["kin_so", "crew"]) (ad_kin : DefAt K mg "_law_kin" s_kin ["tin", "homes_so"]) (ad_deed : DefAt K mg "_law_deed" s_deed ["tin", "many_so", "word_so", "tick_so", "rank_so"]) (ad_leaf : DefAt K mg "_law_leaf" s_leaf ["tin", "many_so", "size_so", "most_so"]) (ad_law_is_write : DefAt K mg "_law_is_write" s_law_is_write ["deed_so"]) (ad_writes : DefAt K mg "_law_writes" s_writes ["leaf"]) (ad_past : DefAt K mg "_law_past" s_past ["leaf", "crew", "hour_so"]) (ad_misses : DefAt K mg "_law_misses" s_misses ["leaf", "crew", "rank_so"]) (ad_two_of : DefAt K mg "_law_two_of" s_two_of []) (ad_plain_one : DefAt K mg "_law_plain_one" s_plain_one []) (ad_fallen : DefAt K mg "_law_fallen" s_fallen []) (ad_taken_over : DefAt K mg "_law_taken_over" s_taken_over ["from_so"]) (ad_covered : DefAt K mg "_law_covered" s_covered ["sooner_so"]) (ad_ranks : DefAt K mg "_law_ranks" s_ranks ["leaf"]) (ad_page : DefAt K mg "_law_page" s_page ["tin", "most_so"]) (ad_is_road : DefAt K mg "_law_is_road" s_is_road ["leaf", "road_so", "hour_so", "start_so"]) (ad_first_full : DefAt K mg "_law_first_full" s_first_full ["leaf", "crew", "rank_so"]) (ad_stays : DefAt K mg "_law_stays" s_stays ["leaf", "crew", "spot_so", "start_so"]) (ad_paper_right : DefAt K mg "_law_paper_right" s_paper_right ["leaf", "crew", "rank_so"]) (ad_versions_right : DefAt K mg "_law_versions_right" s_versions_right ["leaf", "owners_so", "asked_so"]) (ad_by_hand_right : DefAt K mg "_law_by_hand_right" s_by_hand_right []) (ad_right : DefAt K mg "_law_right" s_right ["tin"]) (ad_law : DefAt K mg "law" s_law ["script"]) (aw_WRITES : WordsAt K mg "WRITES" w_WRITES) : Txt K mg := by
  unfold chk at c
  have nn : ∀ x ∈ nms, mg x = none := fun x hx => PySem.W.mg_none_of X G (of_decide_eq_true (List.all_eq_true.mp c x hx))
  exact {
    bt := ⟨nn "abs" (by simp), nn "all" (by simp), nn "bool" (by simp), nn "enumerate" (by simp), nn "int" (by simp), nn "isinstance" (by simp), nn "len" (by simp), nn "list" (by simp), nn "min" (by simp), nn "range" (by simp), nn "reversed" (by simp), nn "set" (by simp), nn "sorted" (by simp), nn "str" (by simp), nn "tuple" (by simp), nn "zip" (by simp)⟩
    d_refuse := ad_refuse
    d_is_write := ad_is_write
    d_write_numbers := ad_write_numbers
    d_writes_from := ad_writes_from
    d_mask_of := ad_mask_of
    d_masks_of := ad_masks_of
    d_has_place := ad_has_place
    d_frozen := ad_frozen
    d_choices := ad_choices
    d_mask_ahead := ad_mask_ahead
    d_past_masks := ad_past_masks
    d_road_in := ad_road_in
    d_masks_behind := ad_masks_behind
    d_first_free := ad_first_free
    d_offers_from := ad_offers_from
    d_first_held := ad_first_held
    d_hold_paper := ad_hold_paper
    d_held_by := ad_held_by
    d_missed_versions := ad_missed_versions
    d_box := ad_box
    d_take := ad_take
    d_cells := ad_cells
    d_of := ad_of
    d_pick := ad_pick
    d_lists := ad_lists
    d_same := ad_same
    d_lots := ad_lots
    d_counted := ad_counted
    d_within := ad_within
    d_apart := ad_apart
    d_least := ad_least
    d_room := ad_room
    d_kin := ad_kin
    d_deed := ad_deed
    d_leaf := ad_leaf
    d_law_is_write := ad_law_is_write
    d_writes := ad_writes
    d_past := ad_past
    d_misses := ad_misses
    d_two_of := ad_two_of
    d_plain_one := ad_plain_one
    d_fallen := ad_fallen
    d_taken_over := ad_taken_over
    d_covered := ad_covered
    d_ranks := ad_ranks
    d_page := ad_page
    d_is_road := ad_is_road
    d_first_full := ad_first_full
    d_stays := ad_stays
    d_paper_right := ad_paper_right
    d_versions_right := ad_versions_right
    d_by_hand_right := ad_by_hand_right
    d_right := ad_right
    d_law := ad_law
    w_WRITES := aw_WRITES
  }
def spLaw (K : PySem.W.Frag) : Sp := fun vs H Q _ => ∃ (a : Addr) (ns : List Int), vs = [.ref a] ∧ SqL K H a (ns.map V.int) ∧ ns.length ≤ 63 ∧ ∀ H', Q (.bl true) H'
theorem law_sp {K : PySem.W.Frag} {mg : Str → Option Value} (vs : List V) (H : Hp) (Q : VK) (E : XK) (h : spLaw K vs H Q E) : spD K mg 1 den_law vs H Q E := by
  obtain ⟨a, ns, rfl, hs, hl, q⟩ := h
  refine ⟨rfl, [.sc (.l ns)], H, ⟨Same.refl H, fun i d e => ?_, fun i xs e => ?_, fun i ms e => ?_, fun i j p hi => ?_, rfl⟩, fun i xs e => ?_, ?_⟩
  · cases i <;> simp at e
  · cases i <;> simp at e
  · cases i with
    | zero => simp at e; subst e; exact ⟨a, rfl, hs⟩
    | succ i => simp at e
  · rcases hi with ⟨xs, e⟩ | ⟨xs, e⟩ <;> (cases i <;> simp at e)
  · cases i <;> simp at e
  · rw [law_ev ns hl]
    intro v F' H' S ro
    have ro' : Dq F' v (.bool true) := ro
    cases ro' with
    | bl _ => exact q H'
theorem fin {P : Program} {w : World} {K : PySem.W.Frag} {mg : Str → Option Value} {fa : Addr} (T : Txt K mg) (hfa : mg "law" = some (.ref fa)) : ∃ fd : FuncData, (∀ (s : Shared) (v : Value), BindsTo s fd ⟨[v], []⟩ [("script", v)]) ∧ ∀ base : Heap, FnOk P w K mg base (L2.CX P w) 17 fa fd ["script"] (spLaw K) := by
  obtain ⟨f, fd, Fn, hm, hb⟩ := T.d_law.ex
  have e := hfa.symm.trans hm
  cases e
  refine ⟨fd, fun s v => ?_, fun base => ?_⟩
  · obtain ⟨oc, od, kV, doc, pm, an, cdv, ct, osl, e, _, _⟩ := Fn.ex
    subst e
    exact .of_eq rfl
  · have F1 : FnOk P w K mg base (L2.CX P w) 17 fa fd ["script"] (spD K mg 1 den_law) := ok_law T fa fd Fn
    exact ⟨fun vs H Q E h => (by obtain ⟨a, ns, rfl, _⟩ := h; rfl), fun A outer s H args us vs Q E hr e hb hv h => F1.run A outer s H args us vs Q E hr e hb hv (law_sp vs H Q E h)⟩
end K15
open PySem PySem.W PyProof.Rows
theorem PySem.Challenge.cw_hintring_k15_papers_of_what_is_held_holds : PySem.Challenge.rw_hintring_k15_papers_of_what_is_held.Holds := by
  w_on; o_law; k_head; (case hw => w_witness2)
  k_fill
  refine L2.walk_of (l := PySem.Challenge.rw_hintring_k15_papers_of_what_is_held) (n := 63) (k := 17) (x := "script") (CX := fun w => L2.CX PySem.Challenge.rw_hintring_k15_papers_of_what_is_held.prog w) (sp := fun w => K15.spLaw _) rfl (by decide) rfl ⟨rfl, by decide, by decide⟩ (fun w h Y => PySem.W.kIn_of Y) ?F (fun _ _ a ns hl _ hS => ⟨a, ns, rfl, hS, hl, fun _ => rfl⟩) (fun _ _ _ _ _ ⟨_, _, _, _, _, _, _, _, _, _, _, _, z⟩ => z)
  case F =>
    intro w mg fa h KX G hmg
    have T := @K15.txt_mk _ _ _ KX G (by kernel_rfl)
      (by refine' K15.defD_mk4 KX G ?za ?zl ?zc ?zk ?zT ?le0 ?le1 ?le2 ?le3; (case za => k_is); (case zl => k_is); (case zc => k_is); (case zk => k_is); (case zT => k_is); (case le0 => k_is); (case le1 => k_is); (case le2 => k_is); (case le3 => k_is))
      (by refine' K15.def_mk KX G ?za ?zl ?zc ?zk (fun _ _ _ _ _ _ us hl => match us, hl with | [_], _ => rfl); (case za => k_is); (case zl => k_is); (case zc => k_is); (case zk => k_is))
      (by refine' K15.def_mk KX G ?za ?zl ?zc ?zk (fun _ _ _ _ _ _ us hl => match us, hl with | [_], _ => rfl); (case za => k_is); (case zl => k_is); (case zc => k_is); (case zk => k_is))
      (by refine' K15.def_mk KX G ?za ?zl ?zc ?zk (fun _ _ _ _ _ _ us hl => match us, hl with | [_, _], _ => rfl); (case za => k_is); (case zl => k_is); (case zc => k_is); (case zk => k_is))
      (by refine' K15.def_mk KX G ?za ?zl ?zc ?zk (fun _ _ _ _ _ _ us hl => match us, hl with | [_], _ => rfl); (case za => k_is); (case zl => k_is); (case zc => k_is); (case zk => k_is))
      (by refine' K15.def_mk KX G ?za ?zl ?zc ?zk (fun _ _ _ _ _ _ us hl => match us, hl with | [_], _ => rfl); (case za => k_is); (case zl => k_is); (case zc => k_is); (case zk => k_is))
      (by refine' K15.def_mk KX G ?za ?zl ?zc ?zk (fun _ _ _ _ _ _ us hl => match us, hl with | [_, _], _ => rfl); (case za => k_is); (case zl => k_is); (case zc => k_is); (case zk => k_is))
      (by refine' K15.def_mk KX G ?za ?zl ?zc ?zk (fun _ _ _ _ _ _ us hl => match us, hl with | [_], _ => rfl); (case za => k_is); (case zl => k_is); (case zc => k_is); (case zk => k_is))
      (by refine' K15.def_mk KX G ?za ?zl ?zc ?zk (fun _ _ _ _ _ _ us hl => match us, hl with | [_, _], _ => rfl); (case za => k_is); (case zl => k_is); (case zc => k_is); (case zk => k_is))
      (by refine' K15.def_mk KX G ?za ?zl ?zc ?zk (fun _ _ _ _ _ _ us hl => match us, hl with | [_, _], _ => rfl); (case za => k_is); (case zl => k_is); (case zc => k_is); (case zk => k_is))
      (by refine' K15.def_mk KX G ?za ?zl ?zc ?zk (fun _ _ _ _ _ _ us hl => match us, hl with | [_, _, _], _ => rfl); (case za => k_is); (case zl => k_is); (case zc => k_is); (case zk => k_is))
      (by refine' K15.def_mk KX G ?za ?zl ?zc ?zk (fun _ _ _ _ _ _ us hl => match us, hl with | [_, _, _, _], _ => rfl); (case za => k_is); (case zl => k_is); (case zc => k_is); (case zk => k_is))
      (by refine' K15.def_mk KX G ?za ?zl ?zc ?zk (fun _ _ _ _ _ _ us hl => match us, hl with | [_, _], _ => rfl); (case za => k_is); (case zl => k_is); (case zc => k_is); (case zk => k_is))
      (by refine' K15.def_mk KX G ?za ?zl ?zc ?zk (fun _ _ _ _ _ _ us hl => match us, hl with | [_, _], _ => rfl); (case za => k_is); (case zl => k_is); (case zc => k_is); (case zk => k_is))
      (by refine' K15.def_mk KX G ?za ?zl ?zc ?zk (fun _ _ _ _ _ _ us hl => match us, hl with | [_, _], _ => rfl); (case za => k_is); (case zl => k_is); (case zc => k_is); (case zk => k_is))
      (by refine' K15.def_mk KX G ?za ?zl ?zc ?zk (fun _ _ _ _ _ _ us hl => match us, hl with | [_, _], _ => rfl); (case za => k_is); (case zl => k_is); (case zc => k_is); (case zk => k_is))
      (by refine' K15.def_mk KX G ?za ?zl ?zc ?zk (fun _ _ _ _ _ _ us hl => match us, hl with | [_, _, _], _ => rfl); (case za => k_is); (case zl => k_is); (case zc => k_is); (case zk => k_is))
      (by refine' K15.def_mk KX G ?za ?zl ?zc ?zk (fun _ _ _ _ _ _ us hl => match us, hl with | [_, _, _], _ => rfl); (case za => k_is); (case zl => k_is); (case zc => k_is); (case zk => k_is))
      (by refine' K15.def_mk KX G ?za ?zl ?zc ?zk (fun _ _ _ _ _ _ us hl => match us, hl with | [_, _, _], _ => rfl); (case za => k_is); (case zl => k_is); (case zc => k_is); (case zk => k_is))
      (by refine' K15.def_mk KX G ?za ?zl ?zc ?zk (fun _ _ _ _ _ _ us hl => match us, hl with | [_, _], _ => rfl); (case za => k_is); (case zl => k_is); (case zc => k_is); (case zk => k_is))
      (by refine' K15.def_mk KX G ?za ?zl ?zc ?zk (fun _ _ _ _ _ _ us hl => match us, hl with | [_, _], _ => rfl); (case za => k_is); (case zl => k_is); (case zc => k_is); (case zk => k_is))
      (by refine' K15.def_mk KX G ?za ?zl ?zc ?zk (fun _ _ _ _ _ _ us hl => match us, hl with | [_, _], _ => rfl); (case za => k_is); (case zl => k_is); (case zc => k_is); (case zk => k_is))
      (by refine' K15.def_mk KX G ?za ?zl ?zc ?zk (fun _ _ _ _ _ _ us hl => match us, hl with | [_, _], _ => rfl); (case za => k_is); (case zl => k_is); (case zc => k_is); (case zk => k_is))
      (by refine' K15.def_mk KX G ?za ?zl ?zc ?zk (fun _ _ _ _ _ _ us hl => match us, hl with | [_, _, _], _ => rfl); (case za => k_is); (case zl => k_is); (case zc => k_is); (case zk => k_is))
      (by refine' K15.def_mk KX G ?za ?zl ?zc ?zk (fun _ _ _ _ _ _ us hl => match us, hl with | [_], _ => rfl); (case za => k_is); (case zl => k_is); (case zc => k_is); (case zk => k_is))
      (by refine' K15.def_mk KX G ?za ?zl ?zc ?zk (fun _ _ _ _ _ _ us hl => match us, hl with | [_, _], _ => rfl); (case za => k_is); (case zl => k_is); (case zc => k_is); (case zk => k_is))
      (by refine' K15.def_mk KX G ?za ?zl ?zc ?zk (fun _ _ _ _ _ _ us hl => match us, hl with | [_], _ => rfl); (case za => k_is); (case zl => k_is); (case zc => k_is); (case zk => k_is))
      (by refine' K15.def_mk KX G ?za ?zl ?zc ?zk (fun _ _ _ _ _ _ us hl => match us, hl with | [_, _], _ => rfl); (case za => k_is); (case zl => k_is); (case zc => k_is); (case zk => k_is))
      (by refine' K15.def_mk KX G ?za ?zl ?zc ?zk (fun _ _ _ _ _ _ us hl => match us, hl with | [_, _], _ => rfl); (case za => k_is); (case zl => k_is); (case zc => k_is); (case zk => k_is))
      (by refine' K15.def_mk KX G ?za ?zl ?zc ?zk (fun _ _ _ _ _ _ us hl => match us, hl with | [_, _], _ => rfl); (case za => k_is); (case zl => k_is); (case zc => k_is); (case zk => k_is))
      (by refine' K15.def_mk KX G ?za ?zl ?zc ?zk (fun _ _ _ _ _ _ us hl => match us, hl with | [_], _ => rfl); (case za => k_is); (case zl => k_is); (case zc => k_is); (case zk => k_is))
      (by refine' K15.def_mk KX G ?za ?zl ?zc ?zk (fun _ _ _ _ _ _ us hl => match us, hl with | [_, _], _ => rfl); (case za => k_is); (case zl => k_is); (case zc => k_is); (case zk => k_is))
      (by refine' K15.def_mk KX G ?za ?zl ?zc ?zk (fun _ _ _ _ _ _ us hl => match us, hl with | [_, _], _ => rfl); (case za => k_is); (case zl => k_is); (case zc => k_is); (case zk => k_is))
      (by refine' K15.def_mk KX G ?za ?zl ?zc ?zk (fun _ _ _ _ _ _ us hl => match us, hl with | [_, _, _, _, _], _ => rfl); (case za => k_is); (case zl => k_is); (case zc => k_is); (case zk => k_is))
      (by refine' K15.def_mk KX G ?za ?zl ?zc ?zk (fun _ _ _ _ _ _ us hl => match us, hl with | [_, _, _, _], _ => rfl); (case za => k_is); (case zl => k_is); (case zc => k_is); (case zk => k_is))
      (by refine' K15.def_mk KX G ?za ?zl ?zc ?zk (fun _ _ _ _ _ _ us hl => match us, hl with | [_], _ => rfl); (case za => k_is); (case zl => k_is); (case zc => k_is); (case zk => k_is))
      (by refine' K15.def_mk KX G ?za ?zl ?zc ?zk (fun _ _ _ _ _ _ us hl => match us, hl with | [_], _ => rfl); (case za => k_is); (case zl => k_is); (case zc => k_is); (case zk => k_is))
      (by refine' K15.def_mk KX G ?za ?zl ?zc ?zk (fun _ _ _ _ _ _ us hl => match us, hl with | [_, _, _], _ => rfl); (case za => k_is); (case zl => k_is); (case zc => k_is); (case zk => k_is))
      (by refine' K15.def_mk KX G ?za ?zl ?zc ?zk (fun _ _ _ _ _ _ us hl => match us, hl with | [_, _, _], _ => rfl); (case za => k_is); (case zl => k_is); (case zc => k_is); (case zk => k_is))
      (by refine' K15.def_mk KX G ?za ?zl ?zc ?zk (fun _ _ _ _ _ _ us hl => match us, hl with | [], _ => rfl); (case za => k_is); (case zl => k_is); (case zc => k_is); (case zk => k_is))
      (by refine' K15.def_mk KX G ?za ?zl ?zc ?zk (fun _ _ _ _ _ _ us hl => match us, hl with | [], _ => rfl); (case za => k_is); (case zl => k_is); (case zc => k_is); (case zk => k_is))
      (by refine' K15.def_mk KX G ?za ?zl ?zc ?zk (fun _ _ _ _ _ _ us hl => match us, hl with | [], _ => rfl); (case za => k_is); (case zl => k_is); (case zc => k_is); (case zk => k_is))
      (by refine' K15.def_mk KX G ?za ?zl ?zc ?zk (fun _ _ _ _ _ _ us hl => match us, hl with | [_], _ => rfl); (case za => k_is); (case zl => k_is); (case zc => k_is); (case zk => k_is))
      (by refine' K15.def_mk KX G ?za ?zl ?zc ?zk (fun _ _ _ _ _ _ us hl => match us, hl with | [_], _ => rfl); (case za => k_is); (case zl => k_is); (case zc => k_is); (case zk => k_is))
      (by refine' K15.def_mk KX G ?za ?zl ?zc ?zk (fun _ _ _ _ _ _ us hl => match us, hl with | [_], _ => rfl); (case za => k_is); (case zl => k_is); (case zc => k_is); (case zk => k_is))
      (by refine' K15.def_mk KX G ?za ?zl ?zc ?zk (fun _ _ _ _ _ _ us hl => match us, hl with | [_, _], _ => rfl); (case za => k_is); (case zl => k_is); (case zc => k_is); (case zk => k_is))
      (by refine' K15.def_mk KX G ?za ?zl ?zc ?zk (fun _ _ _ _ _ _ us hl => match us, hl with | [_, _, _, _], _ => rfl); (case za => k_is); (case zl => k_is); (case zc => k_is); (case zk => k_is))
      (by refine' K15.def_mk KX G ?za ?zl ?zc ?zk (fun _ _ _ _ _ _ us hl => match us, hl with | [_, _, _], _ => rfl); (case za => k_is); (case zl => k_is); (case zc => k_is); (case zk => k_is))
      (by refine' K15.def_mk KX G ?za ?zl ?zc ?zk (fun _ _ _ _ _ _ us hl => match us, hl with | [_, _, _, _], _ => rfl); (case za => k_is); (case zl => k_is); (case zc => k_is); (case zk => k_is))
      (by refine' K15.def_mk KX G ?za ?zl ?zc ?zk (fun _ _ _ _ _ _ us hl => match us, hl with | [_, _, _], _ => rfl); (case za => k_is); (case zl => k_is); (case zc => k_is); (case zk => k_is))
      (by refine' K15.def_mk KX G ?za ?zl ?zc ?zk (fun _ _ _ _ _ _ us hl => match us, hl with | [_, _, _], _ => rfl); (case za => k_is); (case zl => k_is); (case zc => k_is); (case zk => k_is))
      (by refine' K15.def_mk KX G ?za ?zl ?zc ?zk (fun _ _ _ _ _ _ us hl => match us, hl with | [], _ => rfl); (case za => k_is); (case zl => k_is); (case zc => k_is); (case zk => k_is))
      (by refine' K15.def_mk KX G ?za ?zl ?zc ?zk (fun _ _ _ _ _ _ us hl => match us, hl with | [_], _ => rfl); (case za => k_is); (case zl => k_is); (case zc => k_is); (case zk => k_is))
      (by refine' K15.def_mk KX G ?za ?zl ?zc ?zk (fun _ _ _ _ _ _ us hl => match us, hl with | [_], _ => rfl); (case za => k_is); (case zl => k_is); (case zc => k_is); (case zk => k_is))
      (by refine' K15.words_WRITES KX G ?za ?zl; (case za => k_is); (case zl => k_is))
    obtain ⟨fd, b, ok⟩ := K15.fin (P := PySem.Challenge.rw_hintring_k15_papers_of_what_is_held.prog) (w := w) T hmg
    exact ⟨fd, b, fun base _ _ => ok base⟩
