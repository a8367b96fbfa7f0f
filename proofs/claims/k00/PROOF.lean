import PyProof.Rows.All
import Wide.All
import OpenK.AllK
import Wide.FinOn
import PySem.Challenge.RW_hintring_k00_errors_made_by_hand
import HandS.ForMost
import HandS.ForExc
import HandS.Flow
import HandS.ExcInit
import HandS.Conv
import HandS.TupAny
import HandS.IsInst
import HandS.Style
import HandS.Wide
import HandS.Zip
import HandS.Rev
import HandS.RevRange
import HandS.Defaults
import HandS.ExcIs
import HandS.ExcValue
import HandS.ExcField
import HandS.ExcOwn
import HandS.ExcSuper
import HandS.ExcBuiltin
import HandS.ForSpec
import KE.KExcIs
import HandS.FStr
set_option Elab.async false
set_option linter.all false
set_option maxRecDepth 100000
set_option maxHeartbeats 1000000
/-! G1: plain data in the place of heaps: what a slot stands for, steps, results, and how they are put together. -/
namespace Gx
open PySem PySem.Spec L2
open PyProof.Rows hiding St

structure Ex where
  cls : Str
  arg : Option Int
inductive Rs (α : Type) where
  | st
  | ex (e : Ex)
  | ok (a : α)
inductive En where
  | no
  | fz (d : PyData)
  | ol (xs : List PyData)
  | bl (xs : List PyData)
  | sc (ns : List Int)
abbrev Ev := List En
inductive Rv where
  | fz (d : PyData)
  | ol (xs : List PyData)
def Rv.d : Rv → PyData
  | .fz d => d
  | .ol xs => .list xs
def Rv.en : Rv → En
  | .fz d => .fz d
  | .ol xs => .ol xs
inductive Fl where
  | nx
  | rt (r : Rv)
  | bk
  | ct
abbrev Dn (α : Type) := Ev → Rs (α × Ev)
def ret {α : Type} (a : α) : Dn α := fun ρ => .ok (a, ρ)
def bnd {α β : Type} (f : Dn α) (g : α → Dn β) : Dn β := fun ρ => match f ρ with
  | .st => .st
  | .ex e => .ex e
  | .ok (a, ρ') => g a ρ'
def lft {α : Type} : Option α → Dn α
  | none => fun _ => .st
  | some a => fun ρ => .ok (a, ρ)

/-! ### data over a heap -/
/-- an exception as data: its class stands at C; the number that it keeps -/
abbrev exD0 (C : Addr) : PyData := .dict [(.int (C : Int), .none)]
abbrev exD1 (C : Addr) (n : Int) : PyData := .dict [(.int (C : Int), .int n)]
mutual
inductive Dq (H : Hp) : V → PyData → Prop
  | non : Dq H .non .none
  | bl (b : Bool) : Dq H (.bl b) (.bool b)
  | int (i : Int) : Dq H (.int i) (.int i)
  | str (x : Str) : Dq H (.str x) (.str x)
  | lst {a : Addr} {xs : List V} {ds : List PyData} : H a = some (.lst xs) → DqAll H xs ds → Dq H (.ref a) (.list ds)
  | tup {a : Addr} {xs : List V} {ds : List PyData} : H a = some (.tup xs) → DqAll H xs ds → Dq H (.ref a) (.tuple ds)
  | ex0 {a C : Addr} : H a = some (exo a C none) → Dq H (.ref a) (exD0 C)
  | ex1 {a C d : Addr} {n : Int} : H a = some (exo a C (some d)) → H d = some (exd d [(("number" : Str), .int n)]) → Dq H (.ref a) (exD1 C n)
inductive DqAll (H : Hp) : List V → List PyData → Prop
  | nil : DqAll H [] []
  | cons {v : V} {vs : List V} {d : PyData} {ds : List PyData} : Dq H v d → DqAll H vs ds → DqAll H (v :: vs) (d :: ds)
end
mutual
/-- nothing but data -/
def cln : PyData → Bool
  | .list ds => clns ds
  | .tuple ds => clns ds
  | .dict _ => false
  | _ => true
def clns : List PyData → Bool
  | [] => true
  | d :: ds => cln d && clns ds
end
mutual
theorem dq_dp {K : PySem.W.Frag} {H : Hp} : ∀ (d : PyData) (v : V), cln d = true → Dq H v d → Dp K H v d
  | .none, _, _, h => by cases h; exact .non
  | .bool b, _, _, h => by cases h; exact .bl b
  | .int i, _, _, h => by cases h; exact .int i
  | .str x, _, _, h => by cases h; exact .str x
  | .list ds, _, c, h => by
    cases h with
    | lst hs ha => exact .lst (.of hs) (dqs_dp ds _ (by unfold cln at c; exact c) ha)
  | .tuple ds, _, c, h => by
    cases h with
    | tup hs ha => exact .tup (.of hs) (dqs_dp ds _ (by unfold cln at c; exact c) ha)
  | .dict _, _, c, h => by unfold cln at c; cases c
theorem dqs_dp {K : PySem.W.Frag} {H : Hp} : ∀ (ds : List PyData) (vs : List V), clns ds = true → DqAll H vs ds → DpAll K H vs ds
  | [], _, _, h => by cases h; exact .nil
  | d :: ds, _, c, h => by
    cases h with
    | cons h1 h2 =>
      unfold clns at c
      rw [Bool.and_eq_true] at c
      exact .cons (dq_dp d _ c.1 h1) (dqs_dp ds _ c.2 h2)
end
theorem same_T {K : PySem.W.Frag} {H H' : Hp} {a : Addr} {xs : List V} (e : Same H H') (h : SqT K H a xs) : SqT K H' a xs := by
  rcases h with (h | ⟨o, h⟩) | h
  · exact .inl (.inl (e _ _ h))
  · exact .inl (.inr ⟨o, e _ _ h⟩)
  · exact .inr h
mutual
theorem dp_mono {H H' : Hp} (e : Same H H') : ∀ (d : PyData) (v : V), Dq H v d → Dq H' v d
  | .none, _, h => by cases h; exact .non
  | .bool b, _, h => by cases h; exact .bl b
  | .int i, _, h => by cases h; exact .int i
  | .str x, _, h => by cases h; exact .str x
  | .list ds, _, h => by
    cases h with
    | lst hs ha => exact .lst (e _ _ hs) (dps_mono e ds _ ha)
  | .tuple ds, _, h => by
    cases h with
    | tup hs ha => exact .tup (e _ _ hs) (dps_mono e ds _ ha)
  | .dict _, _, h => by
    cases h with
    | ex0 h1 => exact .ex0 (e _ _ h1)
    | ex1 h1 h2 => exact .ex1 (e _ _ h1) (e _ _ h2)
theorem dps_mono {H H' : Hp} (e : Same H H') : ∀ (ds : List PyData) (vs : List V), DqAll H vs ds → DqAll H' vs ds
  | [], _, h => by cases h; exact .nil
  | d :: ds, _, h => by
    cases h with
    | cons h1 h2 => exact .cons (dp_mono e d _ h1) (dps_mono e ds _ h2)
end
theorem dps_len {H : Hp} : ∀ {vs : List V} {ds : List PyData}, DqAll H vs ds → vs.length = ds.length
  | [], _, h => by cases h; rfl
  | v :: vs, _, h => by
    cases h with
    | cons h1 h2 => simp [dps_len h2]
theorem dps_get {H : Hp} : ∀ {vs : List V} {ds : List PyData} {i : Nat} {d : PyData}, DqAll H vs ds → ds[i]? = some d → ∃ v, vs[i]? = some v ∧ Dq H v d
  | [], _, i, d, h, e => by cases h; simp at e
  | v :: vs, _, 0, d, h, e => by
    cases h with
    | cons h1 h2 =>
      simp at e
      subst e
      exact ⟨v, rfl, h1⟩
  | v :: vs, _, i + 1, d, h, e => by
    cases h with
    | cons h1 h2 =>
      obtain ⟨u, e1, e2⟩ := dps_get (i := i) h2 (by simpa using e)
      exact ⟨u, by simpa using e1, e2⟩
theorem dps_app {H : Hp} : ∀ {vs : List V} {ds : List PyData} {us : List V} {es : List PyData}, DqAll H vs ds → DqAll H us es → DqAll H (vs ++ us) (ds ++ es)
  | [], _, us, es, h, q => by cases h; exact q
  | v :: vs, _, us, es, h, q => by
    cases h with
    | cons h1 h2 => exact .cons h1 (dps_app h2 q)
theorem dps_one {H : Hp} {v : V} {d : PyData} (h : Dq H v d) : DqAll H [v] [d] := .cons h .nil
theorem dps_set {H : Hp} {v : V} {d : PyData} (q : Dq H v d) : ∀ {vs : List V} {ds : List PyData} (i : Nat), DqAll H vs ds → DqAll H (vs.set i v) (ds.set i d)
  | [], _, i, h => by cases h; exact .nil
  | u :: vs, _, 0, h => by
    cases h with
    | cons h1 h2 => exact .cons q h2
  | u :: vs, _, i + 1, h => by
    cases h with
    | cons h1 h2 => exact .cons h1 (dps_set q i h2)
theorem dps_take {H : Hp} : ∀ {vs : List V} {ds : List PyData} (n : Nat), DqAll H vs ds → DqAll H (vs.take n) (ds.take n)
  | _, _, 0, h => by simp; exact .nil
  | [], _, n + 1, h => by cases h; simp; exact .nil
  | v :: vs, _, n + 1, h => by
    cases h with
    | cons h1 h2 => exact .cons h1 (dps_take n h2)
theorem dps_drop {H : Hp} : ∀ {vs : List V} {ds : List PyData} (n : Nat), DqAll H vs ds → DqAll H (vs.drop n) (ds.drop n)
  | _, _, 0, h => by simpa using h
  | [], _, n + 1, h => by cases h; simp; exact .nil
  | v :: vs, _, n + 1, h => by
    cases h with
    | cons h1 h2 => simpa using dps_drop n h2
theorem dps_erase {H : Hp} : ∀ {vs : List V} {ds : List PyData} (i : Nat), DqAll H vs ds → DqAll H (vs.eraseIdx i) (ds.eraseIdx i)
  | [], _, i, h => by cases h; exact .nil
  | v :: vs, _, 0, h => by
    cases h with
    | cons h1 h2 => exact h2
  | v :: vs, _, i + 1, h => by
    cases h with
    | cons h1 h2 => exact .cons h1 (dps_erase i h2)
theorem dps_rev {H : Hp} : ∀ {vs : List V} {ds : List PyData}, DqAll H vs ds → DqAll H vs.reverse ds.reverse
  | [], _, h => by cases h; exact .nil
  | v :: vs, _, h => by
    cases h with
    | cons h1 h2 =>
      rw [List.reverse_cons, List.reverse_cons]
      exact dps_app (dps_rev h2) (dps_one h1)
theorem dps_rep {H : Hp} {vs : List V} {ds : List PyData} (h : DqAll H vs ds) : ∀ n : Nat, DqAll H (List.replicate n vs).flatten (List.replicate n ds).flatten
  | 0 => .nil
  | n + 1 => by
    rw [List.replicate_succ, List.replicate_succ, List.flatten_cons, List.flatten_cons]
    exact dps_app h (dps_rep h n)

/-! ### whose a list is -/
def OwnL (ρ : Ev) (σ : St) (p : Addr) : Prop := ∃ (i : Nat) (xs : List PyData), ρ[i]? = some (.ol xs) ∧ σ[i]? = some (some (.ref p))
def OwnB (ρ : Ev) (σ : St) (p : Addr) : Prop := ∃ (i : Nat) (xs : List PyData), ρ[i]? = some (.bl xs) ∧ σ[i]? = some (some (.ref p))
def Own (ρ : Ev) (σ : St) (p : Addr) : Prop := OwnL ρ σ p ∨ OwnB ρ σ p
def IsOwn (ρ : Ev) (i : Nat) : Prop := (∃ xs : List PyData, ρ[i]? = some (.ol xs)) ∨ ∃ xs : List PyData, ρ[i]? = some (.bl xs)
theorem own_at {ρ : Ev} {σ : St} {p : Addr} {i : Nat} (h : IsOwn ρ i) (e : σ[i]? = some (some (.ref p))) : Own ρ σ p := by
  rcases h with ⟨xs, h⟩ | ⟨xs, h⟩
  · exact .inl ⟨i, xs, h, e⟩
  · exact .inr ⟨i, xs, h, e⟩
theorem own_ex {ρ : Ev} {σ : St} {p : Addr} (h : Own ρ σ p) : ∃ i : Nat, IsOwn ρ i ∧ σ[i]? = some (some (.ref p)) := by
  rcases h with ⟨i, xs, h, e⟩ | ⟨i, xs, h, e⟩
  · exact ⟨i, .inl ⟨xs, h⟩, e⟩
  · exact ⟨i, .inr ⟨xs, h⟩, e⟩

/-- the slots σ over the heap H stand for ρ; F: what of H will never change -/
structure Rel (K : PySem.W.Frag) (ρ : Ev) (σ : St) (F H : Hp) : Prop where
  sub : Same F H
  fz : ∀ (i : Nat) (d : PyData), ρ[i]? = some (.fz d) → ∃ v, σ[i]? = some (some v) ∧ Dq F v d
  ls : ∀ (i : Nat) (xs : List PyData), (ρ[i]? = some (.ol xs) ∨ ρ[i]? = some (.bl xs)) → ∃ p vs, σ[i]? = some (some (.ref p)) ∧ H p = some (.lst vs) ∧ F p = none ∧ DqAll F vs xs
  sc : ∀ (i : Nat) (ns : List Int), ρ[i]? = some (.sc ns) → ∃ a, σ[i]? = some (some (.ref a)) ∧ SqL K F a (ns.map V.int)
  sep : ∀ (i j : Nat) (p : Addr), IsOwn ρ i → IsOwn ρ j → σ[i]? = some (some (.ref p)) → σ[j]? = some (some (.ref p)) → i = j
  ln : ρ.length = σ.length
theorem Rel.own {K : PySem.W.Frag} {ρ : Ev} {σ : St} {F H : Hp} (R : Rel K ρ σ F H) {p : Addr} (h : Own ρ σ p) : (∃ vs, H p = some (.lst vs)) ∧ F p = none := by
  obtain ⟨i, h, e⟩ := own_ex h
  obtain ⟨xs, hx⟩ : ∃ xs, ρ[i]? = some (.ol xs) ∨ ρ[i]? = some (.bl xs) := by
    rcases h with ⟨xs, h⟩ | ⟨xs, h⟩
    · exact ⟨xs, .inl h⟩
    · exact ⟨xs, .inr h⟩
  obtain ⟨q, vs, e1, e2, e3, _⟩ := R.ls i xs hx
  rw [e] at e1
  cases e1
  exact ⟨⟨vs, e2⟩, e3⟩

structure Stp (K : PySem.W.Frag) (ρ : Ev) (σ : St) (F H : Hp) (ρ' : Ev) (σ' : St) (F' H' : Hp) : Prop where
  rel : Rel K ρ' σ' F' H'
  ff : Same F F'
  fr : ∀ a o, H a = some o → ¬ Own ρ σ a → H' a = some o
  oo : ∀ p, OwnL ρ' σ' p → OwnL ρ σ p ∨ H p = none
  bk : ∀ (i : Nat) (xs : List PyData), ρ[i]? = some (.bl xs) → (∃ ys, ρ'[i]? = some (.bl ys)) ∧ σ'[i]? = σ[i]?
  kb : ∀ (i : Nat) (ys : List PyData), ρ'[i]? = some (.bl ys) → ∃ xs, ρ[i]? = some (.bl xs)
  nw : ∀ a, F' a ≠ none → F a ≠ none ∨ OwnL ρ σ a ∨ H a = none
  ln : ρ'.length = ρ.length
  dm : ∀ a, H' a = none → H a = none
section
variable {K : PySem.W.Frag} {ρ ρ1 ρ2 : Ev} {σ σ1 σ2 : St} {F F1 F2 H H1 H2 : Hp}
theorem Stp.refl (R : Rel K ρ σ F H) : Stp K ρ σ F H ρ σ F H :=
  ⟨R, Same.refl F, fun _ _ h _ => h, fun _ h => .inl h, fun _ xs h => ⟨⟨xs, h⟩, rfl⟩, fun _ ys h => ⟨ys, h⟩, fun _ h => .inl h, rfl, fun _ h => h⟩
theorem Stp.ob (s : Stp K ρ σ F H ρ1 σ1 F1 H1) {p : Addr} (h : OwnB ρ1 σ1 p) : OwnB ρ σ p := by
  obtain ⟨i, ys, h1, h2⟩ := h
  obtain ⟨xs, h3⟩ := s.kb i ys h1
  exact ⟨i, xs, h3, by rw [← (s.bk i xs h3).2]; exact h2⟩
theorem Stp.bo (s : Stp K ρ σ F H ρ1 σ1 F1 H1) {p : Addr} (h : OwnB ρ σ p) : OwnB ρ1 σ1 p := by
  obtain ⟨i, ys, h1, h2⟩ := h
  obtain ⟨⟨xs, h3⟩, h4⟩ := s.bk i ys h1
  exact ⟨i, xs, h3, by rw [h4]; exact h2⟩
/-- what was nobody's is nobody's -/
theorem Stp.nob (s : Stp K ρ σ F H ρ1 σ1 F1 H1) {a : Addr} {o : HO} (h : H a = some o) (n : ¬ Own ρ σ a) : ¬ Own ρ1 σ1 a := fun q => by
  rcases q with q | q
  · rcases s.oo a q with z | z
    · exact n (.inl z)
    · rw [h] at z
      cases z
  · exact n (.inr (s.ob q))
theorem Stp.trans (s : Stp K ρ σ F H ρ1 σ1 F1 H1) (t : Stp K ρ1 σ1 F1 H1 ρ2 σ2 F2 H2) : Stp K ρ σ F H ρ2 σ2 F2 H2 where
  rel := t.rel
  ff := s.ff.trans t.ff
  fr := fun a o h n => t.fr a o (s.fr a o h n) (s.nob h n)
  oo := fun p h => by
    rcases t.oo p h with z | z
    · exact s.oo p z
    · exact .inr (s.dm p z)
  bk := fun i xs h => by
    obtain ⟨⟨ys, h1⟩, h2⟩ := s.bk i xs h
    obtain ⟨h3, h4⟩ := t.bk i ys h1
    exact ⟨h3, h4.trans h2⟩
  kb := fun i ys h => by
    obtain ⟨xs, h1⟩ := t.kb i ys h
    exact s.kb i xs h1
  nw := fun a h => by
    rcases t.nw a h with z | z | z
    · exact s.nw a z
    · rcases s.oo a z with y | y
      · exact .inr (.inl y)
      · exact .inr (.inr y)
    · exact .inr (.inr (s.dm a z))
  ln := t.ln.trans s.ln
  dm := fun a h => s.dm a (t.dm a h)

/-- things are made, nothing is changed -/
structure Grow (F H F' H' : Hp) : Prop where
  ff : Same F F'
  hh : Same H H'
  sub : Same F' H'
  nw : ∀ a, F' a ≠ none → F a ≠ none ∨ H a = none
theorem Grow.refl (h : Same F H) : Grow F H F H := ⟨Same.refl F, Same.refl H, h, fun _ z => .inl z⟩
theorem Grow.trans (g : Grow F H F1 H1) (k : Grow F1 H1 F2 H2) : Grow F H F2 H2 :=
  ⟨g.ff.trans k.ff, g.hh.trans k.hh, k.sub, fun a z => by
    rcases k.nw a z with y | y
    · exact g.nw a y
    · exact .inr (g.hh.free y)⟩
theorem same_new {H : Hp} {p : Addr} {o : HO} (h : H p = none) : Same H (upd H p o) := fun b x e => by
  rw [upd_ne (ne_of_none e h)]
  exact e
theorem sub_none {F H : Hp} (s : Same F H) {p : Addr} (h : H p = none) : F p = none := s.free h
/-- a new thing that will not change -/
theorem Grow.new {p : Addr} {o : HO} (s : Same F H) (h : H p = none) : Grow F H (upd F p o) (upd H p o) :=
  ⟨same_new (s.free h), same_new h, fun b x e => by
    by_cases q : b = p
    · subst q
      rw [upd_same] at e ⊢
      exact e
    · rw [upd_ne q] at e ⊢
      exact s b x e, fun a z => by
    by_cases q : a = p
    · subst q
      exact .inr h
    · rw [upd_ne q] at z
      exact .inl z⟩
/-- a new thing whose way is open -/
theorem Grow.own {p : Addr} {o : HO} (s : Same F H) (h : H p = none) : Grow F H F (upd H p o) :=
  ⟨Same.refl F, same_new h, s.trans (same_new h), fun a z => .inl z⟩
theorem Grow.stp (R : Rel K ρ σ F H) (g : Grow F H F1 H1) : Stp K ρ σ F H ρ σ F1 H1 where
  rel := by
    refine ⟨g.sub, fun i d h => ?_, fun i xs h => ?_, fun i ns h => ?_, R.sep, R.ln⟩
    · obtain ⟨v, h1, h2⟩ := R.fz i d h
      exact ⟨v, h1, dp_mono g.ff d v h2⟩
    · obtain ⟨p, vs, h1, h2, h3, h4⟩ := R.ls i xs h
      refine ⟨p, vs, h1, g.hh _ _ h2, ?_, dps_mono g.ff xs vs h4⟩
      cases e : F1 p with
      | none => rfl
      | some o =>
        rcases g.nw p (by rw [e]; intro z; cases z) with z | z
        · exact absurd h3 z
        · rw [h2] at z
          cases z
    · obtain ⟨a, h1, h2⟩ := R.sc i ns h
      exact ⟨a, h1, g.ff.seq h2⟩
  ff := g.ff
  fr := fun a o h _ => g.hh a o h
  oo := fun _ h => .inl h
  bk := fun _ xs h => ⟨⟨xs, h⟩, rfl⟩
  kb := fun _ ys h => ⟨ys, h⟩
  nw := fun a h => by
    rcases g.nw a h with z | z
    · exact .inl z
    · exact .inr (.inr z)
  ln := rfl
  dm := fun a h => g.hh.free h
end

/-! ### results -/
def ROk (ρ : Ev) (σ : St) (H : Hp) (ρ' : Ev) (σ' : St) (F' H' : Hp) : Rv → V → Prop
  | .fz d, v => Dq F' v d
  | .ol xs, v => ∃ p vs, v = .ref p ∧ (OwnL ρ σ p ∨ H p = none) ∧ H' p = some (.lst vs) ∧ F' p = none ∧ DqAll F' vs xs ∧ ¬ Own ρ' σ' p
def ArOk (H : Hp) (d : Option Addr) (H' : Hp) : Option Int → Prop
  | none => d = none
  | some n => ∃ dd, d = some dd ∧ H dd = none ∧ H' dd = some (.xd [("number", .int n)])
/-- an exception on its way out -/
structure XP (mg : Str → Option Value) (ρ : Ev) (σ : St) (H : Hp) (e : Ex) (cls : Value) (d : Option Addr) (H' : Hp) : Prop where
  cl : mg e.cls = some cls
  fr : ∀ a o, H a = some o → ¬ Own ρ σ a → H' a = some o
  dm : ∀ a, H' a = none → H a = none
  ar : ArOk H d H' e.arg
def Out {α : Type} (mg : Str → Option Value) (E : XK) (ρ : Ev) (σ : St) (H : Hp) (m : Rs (α × Ev)) (P : α → Ev → Prop) : Prop :=
  match m with
  | .st => False
  | .ex e => ∀ cls d H', XP mg ρ σ H e cls d H' → E cls d H'
  | .ok (a, ρ') => P a ρ'
section
variable {α β : Type} {K : PySem.W.Frag} {mg : Str → Option Value} {E : XK} {ρ ρ1 : Ev} {σ σ1 : St} {F F1 H H1 : Hp}
theorem XP.after {e : Ex} {cls : Value} {d : Option Addr} {H' : Hp} (s : Stp K ρ σ F H ρ1 σ1 F1 H1) (x : XP mg ρ1 σ1 H1 e cls d H') : XP mg ρ σ H e cls d H' :=
  ⟨x.cl, fun a o h n => x.fr a o (s.fr a o h n) (s.nob h n), fun a h => s.dm a (x.dm a h), by
    have y := x.ar
    cases q : e.arg with
    | none => rw [q] at y; exact y
    | some n =>
      rw [q] at y
      obtain ⟨dd, h1, h2, h3⟩ := y
      exact ⟨dd, h1, s.dm dd h2, h3⟩⟩
theorem Out.mono {m : Rs (α × Ev)} {P P' : α → Ev → Prop} (h : Out mg E ρ σ H m P) (f : ∀ a ρ', P a ρ' → P' a ρ') : Out mg E ρ σ H m P' := by
  cases m with
  | st => exact h
  | ex e => exact h
  | ok a => exact f a.1 a.2 h
theorem out_bnd {f : Dn α} {g : α → Dn β} {P : β → Ev → Prop} (h : Out mg E ρ σ H (bnd f g ρ) P) :
    Out mg E ρ σ H (f ρ) (fun a ρ1 => ∀ σ1 F1 H1, Stp K ρ σ F H ρ1 σ1 F1 H1 → Out mg E ρ1 σ1 H1 (g a ρ1) P) := by
  unfold bnd at h
  cases e : f ρ with
  | st => rw [e] at h; exact h
  | ex x => rw [e] at h; exact h
  | ok a =>
    rw [e] at h
    intro σ1 F1 H1 s
    show Out mg E a.2 σ1 H1 (g a.1 a.2) P
    have h' : Out mg E ρ σ H (g a.1 a.2) P := h
    cases q : g a.1 a.2 with
    | st => rw [q] at h'; exact h'
    | ex x =>
      rw [q] at h'
      exact fun cls d H' xp => h' cls d H' (xp.after s)
    | ok b => rw [q] at h'; exact h'
theorem out_ret {a : α} {P : α → Ev → Prop} (h : Out mg E ρ σ H (ret a ρ) P) : P a ρ := h
theorem out_lft {o : Option α} {P : α → Ev → Prop} (h : Out mg E ρ σ H (lft o ρ) P) : ∃ a, o = some a ∧ P a ρ := by
  cases o with
  | none => exact (show False from h).elim
  | some a => exact ⟨a, rfl, h⟩
end

/-! ### readings -/
section
variable (K : PySem.W.Frag) (mg : Str → Option Value) (E : XK)
def tE (f : Dn Rv) : TE := fun σ H Q => ∃ ρ F, Rel K ρ σ F H ∧ Out mg E ρ σ H (f ρ) fun r ρ' => ∀ v F' H', Stp K ρ σ F H ρ' σ F' H' → ROk ρ σ H ρ' σ F' H' r v → Q v H'
def tD (f : Dn PyData) : TE := fun σ H Q => ∃ ρ F, Rel K ρ σ F H ∧ Out mg E ρ σ H (f ρ) fun d ρ' => ∀ v F' H', Stp K ρ σ F H ρ' σ F' H' → Dq F' v d → Q v H'
def tT (f : Dn Bool) : TT := fun σ H Q => ∃ ρ F, Rel K ρ σ F H ∧ Out mg E ρ σ H (f ρ) fun b ρ' => ∀ F' H', Stp K ρ σ F H ρ' σ F' H' → Q b H'
def tDs (f : Dn (List PyData)) : TA := fun σ H Q => ∃ ρ F, Rel K ρ σ F H ∧ Out mg E ρ σ H (f ρ) fun ds ρ' => ∀ vs F' H', Stp K ρ σ F H ρ' σ F' H' → DqAll F' vs ds → Q vs H'
def tS (f : Dn Fl) : TS := fun D σ H => ∃ ρ F, Rel K ρ σ F H ∧ Out mg E ρ σ H (f ρ) fun fl ρ' => match fl with
  | .nx => ∀ σ' F' H', Stp K ρ σ F H ρ' σ' F' H' → D.nx σ' H'
  | .bk => ∀ σ' F' H', Stp K ρ σ F H ρ' σ' F' H' → D.bk σ' H'
  | .ct => ∀ σ' F' H', Stp K ρ σ F H ρ' σ' F' H' → D.ct σ' H'
  | .rt r => ∀ σ' v F' H', Stp K ρ σ F H ρ' σ' F' H' → ROk ρ σ H ρ' σ' F' H' r v → D.rt v H'
end
theorem pe_wk {X : Cx} {e : Expr} {t t' : TE} (h : PE X e t) (w : ∀ σ H Q, t' σ H Q → t σ H Q) : PE X e t' := ⟨fun pins s σ H Q I q => h.run pins s σ H Q I (w σ H Q q)⟩
theorem pt_wk {X : Cx} {e : Expr} {t t' : TT} (h : PT X e t) (w : ∀ σ H Q, t' σ H Q → t σ H Q) : PT X e t' := ⟨fun pins s σ H Q I q => h.run pins s σ H Q I (w σ H Q q)⟩
theorem pw_wk {X : Cx} {e : Expr} {t t' : TT} (h : PW X e t) (w : ∀ σ H Q, t' σ H Q → t σ H Q) : PW X e t' := ⟨fun wh pins s σ H Q I q => h.run wh pins s σ H Q I (w σ H Q q)⟩
theorem pa_wk {X : Cx} {es : List Expr} {t t' : TA} (h : PA X es t) (w : ∀ σ H Q, t' σ H Q → t σ H Q) : PA X es t' := ⟨fun pos pins s σ H Q I q => h.run pos pins s σ H Q I (w σ H Q q)⟩
theorem ps_wk {X : Cx} {st : Stmt} {t t' : TS} (h : PS X st t) (w : ∀ D σ H, t' D σ H → t D σ H) : PS X st t' := ⟨fun pins s σ H D I q => h.run pins s σ H D I (w D σ H q)⟩
theorem pss_wk {X : Cx} {st : List Stmt} {t t' : TS} (h : PSs X st t) (w : ∀ D σ H, t' D σ H → t D σ H) : PSs X st t' := ⟨fun pins s σ H D I q => h.run pins s σ H D I (w D σ H q)⟩

/-- a list of one's own is let go -/
theorem freeze {K : PySem.W.Frag} {ρ ρ' : Ev} {σ σ' : St} {F H F' H' : Hp} {p : Addr} {vs : List V} (s : Stp K ρ σ F H ρ' σ' F' H') (h1 : OwnL ρ σ p ∨ H p = none) (h2 : H' p = some (.lst vs)) (h3 : F' p = none) (h4 : ¬ Own ρ' σ' p) :
    Stp K ρ σ F H ρ' σ' (upd F' p (.lst vs)) H' where
  rel := ⟨fun b x e => by
      by_cases q : b = p
      · subst q
        rw [upd_same] at e
        cases e
        exact h2
      · rw [upd_ne q] at e
        exact s.rel.sub b x e, fun i d h => by
      obtain ⟨v, e1, e2⟩ := s.rel.fz i d h
      exact ⟨v, e1, dp_mono (same_new h3) d v e2⟩, fun i xs h => by
      obtain ⟨q, ws, e1, e2, e3, e4⟩ := s.rel.ls i xs h
      have hi : IsOwn ρ' i := by
        rcases h with h | h
        · exact .inl ⟨xs, h⟩
        · exact .inr ⟨xs, h⟩
      have ne : q ≠ p := fun z => h4 (by rw [← z]; exact own_at hi e1)
      exact ⟨q, ws, e1, e2, by rw [upd_ne ne]; exact e3, dps_mono (same_new h3) xs ws e4⟩, fun i ns h => by
      obtain ⟨a, h1, h2⟩ := s.rel.sc i ns h
      exact ⟨a, h1, (same_new h3).seq h2⟩, s.rel.sep, s.rel.ln⟩
  ff := s.ff.trans (same_new h3)
  fr := s.fr
  oo := s.oo
  bk := s.bk
  kb := s.kb
  nw := fun a h => by
    by_cases q : a = p
    · subst q
      exact .inr h1
    · rw [upd_ne q] at h
      exact s.nw a h
  ln := s.ln
  dm := s.dm
def frz (f : Dn Rv) : Dn PyData := bnd f fun r => ret r.d
theorem toD {X : Cx} {e : Expr} {K : PySem.W.Frag} {mg : Str → Option Value} {E : XK} {f : Dn Rv} (h : PE X e (tE K mg E f)) : PE X e (tD K mg E (frz f)) :=
  pe_wk h fun σ H Q ⟨ρ, F, R, q⟩ => ⟨ρ, F, R, (out_bnd (K := K) (F := F) q).mono fun r ρ1 k v F1 H1 s ro => by
    cases r with
    | fz d => exact out_ret (k _ _ _ s) v F1 H1 s ro
    | ol xs =>
      obtain ⟨p, vs, rfl, h1, h2, h3, h4, h5⟩ := ro
      have s2 := freeze s h1 h2 h3 h5
      exact out_ret (k _ _ _ s2) _ _ _ s2 (.lst upd_same (dps_mono (same_new h3) xs vs h4))⟩
def ofD (f : Dn PyData) : Dn Rv := bnd f fun d => ret (.fz d)
theorem toE {X : Cx} {e : Expr} {K : PySem.W.Frag} {mg : Str → Option Value} {E : XK} {f : Dn PyData} (h : PE X e (tD K mg E f)) : PE X e (tE K mg E (ofD f)) :=
  pe_wk h fun σ H Q ⟨ρ, F, R, q⟩ => ⟨ρ, F, R, (out_bnd (K := K) (F := F) q).mono fun d ρ1 k v F1 H1 s dp => out_ret (k _ _ _ s) v F1 H1 s dp⟩
end Gx

/-! G2: expressions over plain data. -/
namespace Gx
open PySem PySem.Spec L2
open PyProof.Rows hiding St

/-! ### slots -/
theorem set_get {α : Type} {l : List α} {i j : Nat} {e x : α} (h : (l.set i e)[j]? = some x) : (j = i ∧ x = e) ∨ (j ≠ i ∧ l[j]? = some x) := by
  by_cases q : j = i
  · subst q
    by_cases z : j < l.length
    · rw [List.getElem?_set_self z] at h
      exact .inl ⟨rfl, (Option.some.inj h).symm⟩
    · rw [List.getElem?_eq_none (by simpa using z)] at h
      cases h
  · rw [List.getElem?_set_ne (Ne.symm q)] at h
    exact .inr ⟨q, h⟩
section
variable {K : PySem.W.Frag} {ρ ρ1 : Ev} {σ σ1 : St} {F F1 H H1 : Hp} {i : Nat}
theorem own_set_fz {d : PyData} {v : V} {p : Addr} (h : OwnL (ρ1.set i (.fz d)) (σ1.set i (some v)) p) : OwnL ρ1 σ1 p := by
  obtain ⟨j, xs, h1, h2⟩ := h
  rcases set_get h1 with ⟨_, z⟩ | ⟨n, h1⟩
  · cases z
  · rw [List.getElem?_set_ne (Ne.symm n)] at h2
    exact ⟨j, xs, h1, h2⟩
theorem isOwn_set {e : En} (he : ∀ xs, e ≠ .ol xs ∧ e ≠ .bl xs) {j : Nat} (h : IsOwn (ρ1.set i e) j) : j ≠ i ∧ IsOwn ρ1 j := by
  rcases h with ⟨xs, h⟩ | ⟨xs, h⟩
  · rcases set_get h with ⟨_, z⟩ | ⟨n, h⟩
    · exact absurd z.symm (he xs).1
    · exact ⟨n, .inl ⟨xs, h⟩⟩
  · rcases set_get h with ⟨_, z⟩ | ⟨n, h⟩
    · exact absurd z.symm (he xs).2
    · exact ⟨n, .inr ⟨xs, h⟩⟩
theorem store_fz {d : PyData} {v : V} (S : Stp K ρ σ F H ρ1 σ1 F1 H1) (nb : ∀ xs, ρ1[i]? ≠ some (.bl xs)) (hi : i < ρ1.length) (q : Dq F1 v d) : Stp K ρ σ F H (ρ1.set i (.fz d)) (σ1.set i (some v)) F1 H1 where
  rel := by
    have hσ : i < σ1.length := by rw [← S.rel.ln]; exact hi
    refine ⟨S.rel.sub, fun j e h => ?_, fun j xs h => ?_, fun j ns h => ?_, fun j k p hj hk e1 e2 => ?_, by simpa using S.rel.ln⟩
    · rcases set_get h with ⟨rfl, z⟩ | ⟨n, h⟩
      · cases z
        exact ⟨v, List.getElem?_set_self hσ, q⟩
      · rw [List.getElem?_set_ne (Ne.symm n)]
        exact S.rel.fz j e h
    · have h' : j ≠ i ∧ (ρ1[j]? = some (.ol xs) ∨ ρ1[j]? = some (.bl xs)) := by
        rcases h with h | h
        · rcases set_get h with ⟨_, z⟩ | ⟨n, h⟩
          · cases z
          · exact ⟨n, .inl h⟩
        · rcases set_get h with ⟨_, z⟩ | ⟨n, h⟩
          · cases z
          · exact ⟨n, .inr h⟩
      rw [List.getElem?_set_ne (Ne.symm h'.1)]
      exact S.rel.ls j xs h'.2
    · rcases set_get h with ⟨_, z⟩ | ⟨n, h⟩
      · cases z
      · rw [List.getElem?_set_ne (Ne.symm n)]
        exact S.rel.sc j ns h
    · obtain ⟨n1, o1⟩ := isOwn_set (fun xs => ⟨(fun z => by cases z), (fun z => by cases z)⟩) hj
      obtain ⟨n2, o2⟩ := isOwn_set (fun xs => ⟨(fun z => by cases z), (fun z => by cases z)⟩) hk
      rw [List.getElem?_set_ne (Ne.symm n1)] at e1
      rw [List.getElem?_set_ne (Ne.symm n2)] at e2
      exact S.rel.sep j k p o1 o2 e1 e2
  ff := S.ff
  fr := S.fr
  oo := fun p h => S.oo p (own_set_fz h)
  bk := fun j xs h => by
    obtain ⟨⟨ys, h1⟩, h2⟩ := S.bk j xs h
    have n : j ≠ i := fun z => nb ys (by rw [← z]; exact h1)
    rw [List.getElem?_set_ne (Ne.symm n), List.getElem?_set_ne (Ne.symm n)]
    exact ⟨⟨ys, h1⟩, h2⟩
  kb := fun j ys h => by
    rcases set_get h with ⟨_, z⟩ | ⟨n, h⟩
    · cases z
    · exact S.kb j ys h
  nw := S.nw
  ln := by rw [List.length_set]; exact S.ln
  dm := S.dm
theorem store_ol {p : Addr} {vs : List V} {xs : List PyData} (S : Stp K ρ σ F H ρ1 σ1 F1 H1) (nb : ∀ xs, ρ1[i]? ≠ some (.bl xs)) (hi : i < ρ1.length)
    (h1 : OwnL ρ σ p ∨ H p = none) (h2 : H1 p = some (.lst vs)) (h3 : F1 p = none) (h4 : DqAll F1 vs xs) (h5 : ¬ Own ρ1 σ1 p) : Stp K ρ σ F H (ρ1.set i (.ol xs)) (σ1.set i (some (.ref p))) F1 H1 where
  rel := by
    have hσ : i < σ1.length := by rw [← S.rel.ln]; exact hi
    have key : ∀ (j : Nat), IsOwn (ρ1.set i (.ol xs)) j → j ≠ i → IsOwn ρ1 j := fun j h n => by
      rcases h with ⟨ys, h⟩ | ⟨ys, h⟩
      · rw [List.getElem?_set_ne (Ne.symm n)] at h
        exact .inl ⟨ys, h⟩
      · rw [List.getElem?_set_ne (Ne.symm n)] at h
        exact .inr ⟨ys, h⟩
    refine ⟨S.rel.sub, fun j e h => ?_, fun j ys h => ?_, fun j ns h => ?_, fun j k q hj hk e1 e2 => ?_, by simpa using S.rel.ln⟩
    · rcases set_get h with ⟨_, z⟩ | ⟨n, h⟩
      · cases z
      · rw [List.getElem?_set_ne (Ne.symm n)]
        exact S.rel.fz j e h
    · by_cases n : j = i
      · subst n
        have e : ys = xs := by
          rcases h with h | h
          · rcases set_get h with ⟨_, z⟩ | ⟨n, h⟩
            · cases z; rfl
            · exact absurd rfl n
          · rcases set_get h with ⟨_, z⟩ | ⟨n, h⟩
            · cases z
            · exact absurd rfl n
        subst e
        exact ⟨p, vs, List.getElem?_set_self hσ, h2, h3, h4⟩
      · rw [List.getElem?_set_ne (Ne.symm n)] at h ⊢
        exact S.rel.ls j ys h
    · rcases set_get h with ⟨_, z⟩ | ⟨n, h⟩
      · cases z
      · rw [List.getElem?_set_ne (Ne.symm n)]
        exact S.rel.sc j ns h
    · by_cases n1 : j = i
      · by_cases n2 : k = i
        · rw [n1, n2]
        · rw [n1, List.getElem?_set_self hσ] at e1
          cases e1
          rw [List.getElem?_set_ne (Ne.symm n2)] at e2
          exact absurd (own_at (key k hk n2) e2) h5
      · rw [List.getElem?_set_ne (Ne.symm n1)] at e1
        by_cases n2 : k = i
        · rw [n2, List.getElem?_set_self hσ] at e2
          cases e2
          exact absurd (own_at (key j hj n1) e1) h5
        · rw [List.getElem?_set_ne (Ne.symm n2)] at e2
          exact S.rel.sep j k q (key j hj n1) (key k hk n2) e1 e2
  ff := S.ff
  fr := S.fr
  oo := fun q h => by
    obtain ⟨j, ys, e1, e2⟩ := h
    by_cases n : j = i
    · have hσ : i < σ1.length := by rw [← S.rel.ln]; exact hi
      rw [n, List.getElem?_set_self hσ] at e2
      cases e2
      exact h1
    · rw [List.getElem?_set_ne (Ne.symm n)] at e1 e2
      exact S.oo q ⟨j, ys, e1, e2⟩
  bk := fun j ys h => by
    obtain ⟨⟨zs, e1⟩, e2⟩ := S.bk j ys h
    have n : j ≠ i := fun z => nb zs (by rw [← z]; exact e1)
    rw [List.getElem?_set_ne (Ne.symm n), List.getElem?_set_ne (Ne.symm n)]
    exact ⟨⟨zs, e1⟩, e2⟩
  kb := fun j ys h => by
    rcases set_get h with ⟨_, z⟩ | ⟨n, h⟩
    · cases z
    · exact S.kb j ys h
  nw := S.nw
  ln := by rw [List.length_set]; exact S.ln
  dm := S.dm
/-- slot i gives its list away -/
theorem give {p : Addr} {vs : List V} {xs : List PyData} (S : Stp K ρ σ F H ρ1 σ1 F1 H1) (hx : ρ1[i]? = some (.ol xs)) (hp : σ1[i]? = some (some (.ref p))) :
    Stp K ρ σ F H (ρ1.set i .no) σ1 F1 H1 ∧ ¬ Own (ρ1.set i .no) σ1 p := by
  have key : ∀ {e : En} {j : Nat}, e ≠ .no → (ρ1.set i .no)[j]? = some e → j ≠ i ∧ ρ1[j]? = some e := fun {e j} ne h => by
    rcases set_get h with ⟨_, z⟩ | h
    · exact absurd z ne
    · exact h
  have key2 : ∀ {j : Nat}, IsOwn (ρ1.set i .no) j → j ≠ i ∧ IsOwn ρ1 j := fun {j} h => isOwn_set (fun xs => ⟨(fun z => by cases z), (fun z => by cases z)⟩) h
  refine ⟨⟨⟨S.rel.sub, fun j d h => S.rel.fz j d (key (by intro z; cases z) h).2, fun j ys h => ?_, fun j ns h => S.rel.sc j ns (key (by intro z; cases z) h).2, fun j k q hj hk => S.rel.sep j k q (key2 hj).2 (key2 hk).2, by rw [List.length_set]; exact S.rel.ln⟩,
    S.ff, S.fr, fun q h => ?_, fun j ys h => ?_, fun j ys h => S.kb j ys (key (by intro z; cases z) h).2, S.nw, by rw [List.length_set]; exact S.ln, S.dm⟩, fun h => ?_⟩
  · rcases h with h | h
    · exact S.rel.ls j ys (.inl (key (by intro z; cases z) h).2)
    · exact S.rel.ls j ys (.inr (key (by intro z; cases z) h).2)
  · obtain ⟨j, ys, h1, h2⟩ := h
    exact S.oo q ⟨j, ys, (key (by intro z; cases z) h1).2, h2⟩
  · obtain ⟨⟨zs, e1⟩, e2⟩ := S.bk j ys h
    have n : j ≠ i := fun z => by rw [z, hx] at e1; cases e1
    rw [List.getElem?_set_ne (Ne.symm n)]
    exact ⟨⟨zs, e1⟩, e2⟩
  · obtain ⟨j, h1, h2⟩ := own_ex h
    obtain ⟨n, h1⟩ := key2 h1
    exact n (S.rel.sep j i p h1 (.inl ⟨xs, hx⟩) h2 hp)
end

/-! ### what is new -/
def NOk (H F' H' : Hp) : Rv → V → Prop
  | .fz d, v => Dq F' v d
  | .ol xs, v => ∃ p vs, v = .ref p ∧ H p = none ∧ H' p = some (.lst vs) ∧ F' p = none ∧ DqAll F' vs xs
theorem NOk.rok {K : PySem.W.Frag} {ρ : Ev} {σ : St} {F H F' H' : Hp} (R : Rel K ρ σ F H) {r : Rv} {v : V} (h : NOk H F' H' r v) : ROk ρ σ H ρ σ F' H' r v := by
  cases r with
  | fz d => exact h
  | ol xs =>
    obtain ⟨p, vs, h1, h2, h3, h4, h5⟩ := h
    refine ⟨p, vs, h1, .inr h2, h3, h4, h5, fun z => ?_⟩
    obtain ⟨⟨ws, e⟩, _⟩ := R.own z
    rw [h2] at e
    cases e
theorem ROk.before {K : PySem.W.Frag} {ρ ρ1 ρ2 : Ev} {σ σ1 σ2 : St} {F H F1 H1 F2 H2 : Hp} (S : Stp K ρ σ F H ρ1 σ1 F1 H1) {r : Rv} {v : V} (h : ROk ρ1 σ1 H1 ρ2 σ2 F2 H2 r v) : ROk ρ σ H ρ2 σ2 F2 H2 r v := by
  cases r with
  | fz d => exact h
  | ol xs =>
    obtain ⟨p, vs, h1, h2, h3⟩ := h
    refine ⟨p, vs, h1, ?_, h3⟩
    rcases h2 with h2 | h2
    · exact S.oo p h2
    · exact .inr (S.dm p h2)

section
variable {X : Cx} {E : XK} {pos : Pos} {a b : Expr}
/-! ### names, constants -/
def dName (i : Nat) : Dn PyData := fun ρ => match ρ[i]? with
  | some (.fz d) => .ok (d, ρ)
  | some (.ol xs) => .ok (.list xs, ρ.set i (.fz (.list xs)))
  | _ => .st
theorem g_name (i : Nat) {x : Str} (hN : X.N[i]? = some x := by rfl) (hv : Vis X.env.scope x := by first | exact Or.inl rfl | exact Or.inr (Or.inl rfl) | exact Or.inr (Or.inr rfl)) (hd : (x == ("__debug__" : Str)) = false := by decide)
    (hcd : (x == ("__classdict__" : Str)) = false := by decide) : PE X (.Name x pos) (tD X.K X.mg E (dName i)) :=
  pe_wk (pe_var hN hv hd hcd) fun σ H Q ⟨ρ, F, R, q⟩ => by
    unfold dName at q
    cases e : ρ[i]? with
    | none => rw [e] at q; exact q.elim
    | some en =>
      rw [e] at q
      cases en with
      | fz d =>
        obtain ⟨v, h1, h2⟩ := R.fz i d e
        exact ⟨v, h1, q v F H (Stp.refl R) h2⟩
      | ol xs =>
        obtain ⟨p, vs, h1, h2, h3, h4⟩ := R.ls i xs (.inl e)
        obtain ⟨S, n⟩ := give (vs := vs) (Stp.refl R) e h1
        have S2 := freeze S (.inl ⟨i, xs, e, h1⟩) h2 h3 n
        have hi : i < ρ.length := (List.getElem?_eq_some_iff.mp e).1
        have dq : Dq (upd F p (.lst vs)) (.ref p) (.list xs) := .lst upd_same (dps_mono (same_new h3) xs vs h4)
        have S3 := store_fz (v := .ref p) S2 (i := i) (fun ys z => by rw [List.getElem?_set_self hi] at z; cases z) (by rw [List.length_set]; exact hi) dq
        have e2 : σ.set i (some (.ref p)) = σ := by
          apply List.ext_getElem?
          intro j
          by_cases hj : j = i
          · subst hj
            rw [List.getElem?_set_self (by rw [← R.ln]; exact hi), h1]
          · rw [List.getElem?_set_ne (Ne.symm hj)]
        rw [e2, List.set_set] at S3
        exact ⟨.ref p, h1, q _ _ _ S3 dq⟩
      | no => exact q.elim
      | bl _ => exact q.elim
      | sc _ => exact q.elim
/-- the name's list is handed on with all rights -/
def dMove (i : Nat) : Dn Rv := fun ρ => match ρ[i]? with
  | some (.fz d) => .ok (.fz d, ρ)
  | some (.ol xs) => .ok (.ol xs, ρ.set i .no)
  | _ => .st
theorem g_move (i : Nat) {x : Str} (hN : X.N[i]? = some x := by rfl) (hv : Vis X.env.scope x := by first | exact Or.inl rfl | exact Or.inr (Or.inl rfl) | exact Or.inr (Or.inr rfl)) (hd : (x == ("__debug__" : Str)) = false := by decide)
    (hcd : (x == ("__classdict__" : Str)) = false := by decide) : PE X (.Name x pos) (tE X.K X.mg E (dMove i)) :=
  pe_wk (pe_var hN hv hd hcd) fun σ H Q ⟨ρ, F, R, q⟩ => by
    unfold dMove at q
    cases e : ρ[i]? with
    | none => rw [e] at q; exact q.elim
    | some en =>
      rw [e] at q
      cases en with
      | fz d =>
        obtain ⟨v, h1, h2⟩ := R.fz i d e
        exact ⟨v, h1, q v F H (Stp.refl R) h2⟩
      | ol xs =>
        obtain ⟨p, vs, h1, h2, h3, h4⟩ := R.ls i xs (.inl e)
        obtain ⟨S, n⟩ := give (vs := vs) (Stp.refl R) e h1
        exact ⟨.ref p, h1, q _ _ _ S ⟨p, vs, rfl, .inl ⟨i, xs, e, h1⟩, h2, h3, h4, n⟩⟩
      | no => exact q.elim
      | bl _ => exact q.elim
      | sc _ => exact q.elim
def dC (d : PyData) : Dn PyData := ret d
theorem g_const {e : Expr} {v : V} {d : PyData} (h : PE X e (tC v)) (hd : ∀ F, Dq F v d) : PE X e (tD X.K X.mg E (dC d)) :=
  pe_wk h fun σ H Q ⟨ρ, F, R, q⟩ => (out_ret q) v F H (Stp.refl R) (hd F)
theorem g_int {i j} : PE X (.Constant (.int i) j pos) (tD X.K X.mg E (dC (.int i))) := g_const pe_int fun _ => .int i
theorem g_bl {b j} : PE X (.Constant (.bool b) j pos) (tD X.K X.mg E (dC (.bool b))) := g_const pe_bl fun _ => .bl b
theorem g_non {j} : PE X (.Constant .none j pos) (tD X.K X.mg E (dC .none)) := g_const pe_non fun _ => .non
theorem g_str {x j} : PE X (.Constant (.str x) j pos) (tD X.K X.mg E (dC (.str x))) := g_const pe_str fun _ => .str x

/-! ### operators -/
def OpD (X : Cx) (f : Value → Value → Sem Value) (g : PyData → PyData → Option Rv) : Prop :=
  OpR X f fun x y H Q => ∃ F d e r, Same F H ∧ Dq F x d ∧ Dq F y e ∧ g d e = some r ∧ ∀ v F' H', Grow F H F' H' → NOk H F' H' r v → Q v H'
def dBin (g : PyData → PyData → Option Rv) (fa fb : Dn PyData) : Dn Rv := bnd fa fun x => bnd fb fun y => lft (g x y)
theorem bin_wk {K : PySem.W.Frag} {mg : Str → Option Value} {g : PyData → PyData → Option Rv} {fa fb : Dn PyData} {r : R2} (hr : ∀ x y H Q, (∃ F d e r, Same F H ∧ Dq F x d ∧ Dq F y e ∧ g d e = some r ∧ ∀ v F' H', Grow F H F' H' → NOk H F' H' r v → Q v H') → r x y H Q)
    (σ : St) (H : Hp) (Q : VK) (h : tE K mg E (dBin g fa fb) σ H Q) : tOp r (tD K mg E fa) (tD K mg E fb) σ H Q := by
  obtain ⟨ρ, F, R, q⟩ := h
  refine ⟨ρ, F, R, (out_bnd (K := K) (F := F) q).mono fun x ρ1 k v F1 H1 S1 d1 => ⟨ρ1, F1, S1.rel, (out_bnd (K := K) (F := F1) (k _ _ _ S1)).mono fun y ρ2 k2 u F2 H2 S2 d2 => hr _ _ _ _ ?_⟩⟩
  obtain ⟨r, hr, q2⟩ := out_lft (k2 _ _ _ S2)
  refine ⟨F2, x, y, r, S2.rel.sub, dp_mono S2.ff x v d1, d2, hr, fun w F3 H3 gr nk => ?_⟩
  have S3 := gr.stp S2.rel
  exact q2 w F3 H3 ((S1.trans S2).trans S3) ((nk.rok S2.rel).before (S1.trans S2))
theorem g_bin {op : Operator} {g : PyData → PyData → Option Rv} {fa fb : Dn PyData} (ho : OpD X (binaryOp op) g) (ha : PE X a (tD X.K X.mg E fa)) (hb : PE X b (tD X.K X.mg E fb)) : PE X (.BinOp a op b pos) (tE X.K X.mg E (dBin g fa fb)) :=
  pe_wk (pe_op ho ha hb) (bin_wk fun _ _ _ _ h => h)
theorem g_cmp {op : CmpOp} {g : PyData → PyData → Option Rv} {fa fb : Dn PyData} (ho : OpD X (compareOp op) g) (ha : PE X a (tD X.K X.mg E fa)) (hb : PE X b (tD X.K X.mg E fb)) (hm : behindInMarks op b = false) : PE X (.Compare a [op] [b] pos) (tE X.K X.mg E (dBin g fa fb)) :=
  pe_wk (pe_cmpR ho ha hb hm) (bin_wk fun _ _ _ _ h => h)
def boolOf : PyData → Option Bool
  | .bool b => some b
  | _ => none
/-- a comparison as a test -/
def dCmpT (g : PyData → PyData → Option Rv) (fa fb : Dn PyData) : Dn Bool := bnd (dBin g fa fb) fun r => lft (boolOf r.d)
theorem boolOf_some {d : PyData} {b : Bool} (h : boolOf d = some b) : d = .bool b := by
  cases d <;> simp [boolOf] at h
  rw [h]
theorem rv_bool {r : Rv} {b : Bool} (h : boolOf r.d = some b) : r = .fz (.bool b) := by
  cases r with
  | fz d => rw [boolOf_some (d := d) h]
  | ol xs => cases h
theorem test_wk {K : PySem.W.Frag} {mg : Str → Option Value} {f : Dn Rv} {t : TE} (hw : ∀ σ H Q, tE K mg E f σ H Q → t σ H Q) (σ : St) (H : Hp) (Q : Bool → Hp → Prop) (h : tT K mg E (bnd f fun r => lft (boolOf r.d)) σ H Q) : tTest t σ H Q := by
  obtain ⟨ρ, F, R, q⟩ := h
  refine hw σ H _ ⟨ρ, F, R, (out_bnd (K := K) (F := F) q).mono fun r ρ1 k v F1 H1 S1 ro => ?_⟩
  obtain ⟨c, hc, q2⟩ := out_lft (k _ _ _ S1)
  rw [rv_bool hc] at ro
  cases ro
  exact ⟨c, rfl, q2 _ _ S1⟩
theorem g_cmpT {op : CmpOp} {g : PyData → PyData → Option Rv} {fa fb : Dn PyData} (ho : OpD X (compareOp op) g) (ha : PE X a (tD X.K X.mg E fa)) (hb : PE X b (tD X.K X.mg E fb)) (hm : behindInMarks op b = false) : PT X (.Compare a [op] [b] pos) (tT X.K X.mg E (dCmpT g fa fb)) :=
  pt_wk (pt_cmpR ho ha hb hm) (test_wk (bin_wk fun _ _ _ _ h => h))
/-- a op b op c -/
def dChain (g g' : PyData → PyData → Option Rv) (fa fb fc : Dn PyData) : Dn Rv := bnd fa fun x => bnd fb fun y => bnd (lft (g x y)) fun r => bnd (lft (boolOf r.d)) fun k => if k then bnd fc fun z => lft (g' y z) else ret (.fz (.bool false))
theorem chain_wk {K : PySem.W.Frag} {mg : Str → Option Value} {g g' : PyData → PyData → Option Rv} {fa fb fc : Dn PyData} (hp : ∀ d e r, g d e = some r → ∃ k, r = .fz (.bool k)) (σ : St) (H : Hp) (Q : VK) (h : tE K mg E (dChain g g' fa fb fc) σ H Q) :
    tChain (fun x y H Q => ∃ F d e r, Same F H ∧ Dq F x d ∧ Dq F y e ∧ g d e = some r ∧ ∀ v F' H', Grow F H F' H' → NOk H F' H' r v → Q v H') (fun x y H Q => ∃ F d e r, Same F H ∧ Dq F x d ∧ Dq F y e ∧ g' d e = some r ∧ ∀ v F' H', Grow F H F' H' → NOk H F' H' r v → Q v H')
      (tD K mg E fa) (tD K mg E fb) (tD K mg E fc) σ H Q := by
  obtain ⟨ρ, F, R, q⟩ := h
  refine ⟨ρ, F, R, (out_bnd (K := K) (F := F) q).mono fun x ρ1 k v F1 H1 S1 d1 => ⟨ρ1, F1, S1.rel, (out_bnd (K := K) (F := F1) (k _ _ _ S1)).mono fun y ρ2 k2 u F2 H2 S2 d2 => ?_⟩⟩
  obtain ⟨r, hr, q2⟩ := out_lft (out_bnd (K := K) (F := F2) (k2 _ _ _ S2))
  refine ⟨F2, x, y, r, S2.rel.sub, dp_mono S2.ff x v d1, d2, hr, fun w F3 H3 gr nk => ?_⟩
  have S3 := gr.stp S2.rel
  obtain ⟨c, hc, q3⟩ := out_lft (out_bnd (K := K) (F := F3) (q2 _ _ _ S3))
  rw [rv_bool hc] at nk
  cases nk
  have q4 := q3 _ _ _ (Stp.refl S3.rel)
  have S13 := (S1.trans S2).trans S3
  refine ⟨c, rfl, ?_⟩
  cases c with
  | false =>
    rw [if_neg Bool.false_ne_true]
    rw [if_neg Bool.false_ne_true] at q4
    exact out_ret q4 _ F3 H3 S13 (.bl false)
  | true =>
    rw [if_pos rfl]
    rw [if_pos rfl] at q4
    refine ⟨ρ2, F3, S3.rel, (out_bnd (K := K) (F := F3) q4).mono fun z ρ4 k4 t F4 H4 S4 d4 => ?_⟩
    obtain ⟨r2, hr2, q5⟩ := out_lft (k4 _ _ _ S4)
    refine ⟨F4, y, z, r2, S4.rel.sub, dp_mono S4.ff y u (dp_mono S3.ff y u d2), d4, hr2, fun w' F5 H5 gr5 nk5 => ?_⟩
    have S5 := gr5.stp S4.rel
    exact q5 w' F5 H5 ((S13.trans S4).trans S5) ((nk5.rok S4.rel).before (S13.trans S4))
theorem g_chain {op op' : CmpOp} {c : Expr} {g g' : PyData → PyData → Option Rv} {fa fb fc : Dn PyData} (ho : OpD X (compareOp op) g) (ho' : OpD X (compareOp op') g') (hp : ∀ d e r, g d e = some r → ∃ k, r = .fz (.bool k))
    (ha : PE X a (tD X.K X.mg E fa)) (hb : PE X b (tD X.K X.mg E fb)) (hc : PE X c (tD X.K X.mg E fc)) (hm : lastMarks [op, op'] [b, c] = false := by with_unfolding_all rfl) : PE X (.Compare a [op, op'] [b, c] pos) (tE X.K X.mg E (dChain g g' fa fb fc)) :=
  pe_wk (pe_chain ho ho' ha hb hc hm) (chain_wk hp)
theorem g_chainT {op op' : CmpOp} {c : Expr} {g g' : PyData → PyData → Option Rv} {fa fb fc : Dn PyData} (ho : OpD X (compareOp op) g) (ho' : OpD X (compareOp op') g') (hp : ∀ d e r, g d e = some r → ∃ k, r = .fz (.bool k))
    (ha : PE X a (tD X.K X.mg E fa)) (hb : PE X b (tD X.K X.mg E fb)) (hc : PE X c (tD X.K X.mg E fc)) (hm : lastMarks [op, op'] [b, c] = false := by with_unfolding_all rfl) : PT X (.Compare a [op, op'] [b, c] pos) (tT X.K X.mg E (bnd (dChain g g' fa fb fc) fun r => lft (boolOf r.d))) :=
  pt_wk (pt_chain ho ho' ha hb hc hm) (test_wk (chain_wk hp))
def UnD (X : Cx) (f : Value → Sem Value) (g : PyData → Option PyData) : Prop := UnR X f fun x H Q => ∃ F d r, Same F H ∧ Dq F x d ∧ g d = some r ∧ ∀ v, Dq F v r → Q v H
def dUn (g : PyData → Option PyData) (fa : Dn PyData) : Dn PyData := bnd fa fun x => lft (g x)
theorem g_un {op : UnaryOp} {g : PyData → Option PyData} {fa : Dn PyData} (ho : UnD X (unaryOp op) g) (ha : PE X a (tD X.K X.mg E fa)) : PE X (.UnaryOp op a pos) (tD X.K X.mg E (dUn g fa)) :=
  pe_wk (pe_un ho ha) fun σ H Q ⟨ρ, F, R, q⟩ => ⟨ρ, F, R, (out_bnd (K := X.K) (F := F) q).mono fun x ρ1 k v F1 H1 S1 d1 => by
    obtain ⟨r, hr, q2⟩ := out_lft (k _ _ _ S1)
    exact ⟨F1, x, r, S1.rel.sub, d1, hr, fun w h => q2 w F1 H1 S1 h⟩⟩

/-! ### truth -/
def truth : PyData → Option Bool
  | .none => some false
  | .bool b => some b
  | .int i => some (i != 0)
  | .str x => if x.length ≤ sizeLine then some ((x.length : Int) != 0) else none
  | .list xs => some (!xs.isEmpty)
  | .tuple xs => some (!xs.isEmpty)
  | .dict _ => none
theorem dqs_empty {F : Hp} {vs : List V} {xs : List PyData} (h : DqAll F vs xs) : vs.isEmpty = xs.isEmpty := by cases h <;> rfl
theorem tru_of {K : PySem.W.Frag} {F H : Hp} (s : Same F H) {v : V} {d : PyData} {k : Bool} (h : Dq F v d) (e : truth d = some k) : TruV K v H k := by
  cases h with
  | non => exact (Option.some.inj (show some false = some k from e)).symm
  | bl b => exact (Option.some.inj (show some b = some k from e)).symm
  | int i => exact (Option.some.inj (show some (i != 0) = some k from e)).symm
  | str x =>
    have e : (if x.length ≤ sizeLine then some ((x.length : Int) != 0) else none) = some k := e
    by_cases q : x.length ≤ sizeLine
    · rw [if_pos q] at e
      exact ⟨q, (Option.some.inj e).symm⟩
    · rw [if_neg q] at e
      cases e
  | lst ha hx => exact .inl ⟨_, .of (s _ _ ha), by rw [dqs_empty hx]; exact (Option.some.inj e).symm⟩
  | tup ha hx => exact .inr (.inl ⟨_, .of (s _ _ ha), by rw [dqs_empty hx]; exact (Option.some.inj e).symm⟩)
  | ex0 _ => cases e
  | ex1 _ _ => cases e
def dTru (fa : Dn PyData) : Dn Bool := bnd fa fun x => lft (truth x)
theorem g_tru {fa : Dn PyData} (ha : PE X a (tD X.K X.mg E fa)) (he : ∀ whole, isTrue a X.env whole = (do let v ← whole; standAt a.pos; holding [v] (truthy v)) := by intro _; rfl) : PT X a (tT X.K X.mg E (dTru fa)) :=
  pt_wk (pt_truth ha he) fun σ H Q ⟨ρ, F, R, q⟩ => ⟨ρ, F, R, (out_bnd (K := X.K) (F := F) q).mono fun x ρ1 k v F1 H1 S1 d1 => by
    obtain ⟨c, hc, q2⟩ := out_lft (k _ _ _ S1)
    exact ⟨c, tru_of S1.rel.sub d1 hc, q2 F1 H1 S1⟩⟩
def dNotT (f : Dn Bool) : Dn Bool := bnd f fun b => ret (!b)
theorem g_notT {f : Dn Bool} (ha : PT X a (tT X.K X.mg E f)) : PT X (.UnaryOp .Not a pos) (tT X.K X.mg E (dNotT f)) :=
  pt_wk (pt_not ha) fun σ H Q ⟨ρ, F, R, q⟩ => ⟨ρ, F, R, (out_bnd (K := X.K) (F := F) q).mono fun x ρ1 k F1 H1 S1 => out_ret (k _ _ _ S1) F1 H1 S1⟩
def dNot (fa : Dn PyData) : Dn PyData := bnd fa fun x => bnd (lft (truth x)) fun b => ret (.bool (!b))
theorem g_not {fa : Dn PyData} (ha : PE X a (tD X.K X.mg E fa)) : PE X (.UnaryOp .Not a pos) (tD X.K X.mg E (dNot fa)) :=
  pe_wk (pe_notT ha) fun σ H Q ⟨ρ, F, R, q⟩ => ⟨ρ, F, R, (out_bnd (K := X.K) (F := F) q).mono fun x ρ1 k v F1 H1 S1 d1 => by
    obtain ⟨c, hc, q2⟩ := out_lft (out_bnd (K := X.K) (F := F1) (k _ _ _ S1))
    exact ⟨c, tru_of S1.rel.sub d1 hc, out_ret (q2 _ _ _ (Stp.refl S1.rel)) _ _ _ S1 (.bl _)⟩⟩
def dAndT (f g : Dn Bool) : Dn Bool := bnd f fun b => if b then g else ret false
def dOrT (f g : Dn Bool) : Dn Bool := bnd f fun b => if b then ret true else g
variable {rest : List Expr}
theorem g_and1 {f : Dn Bool} (ha : PT X a (tT X.K X.mg E f)) : PW X (.BoolOp .And [a] pos) (tT X.K X.mg E f) := pw_and1 ha
theorem g_or1 {f : Dn Bool} (ha : PT X a (tT X.K X.mg E f)) : PW X (.BoolOp .Or [a] pos) (tT X.K X.mg E f) := pw_or1 ha
theorem g_andT {f g : Dn Bool} (ha : PT X a (tT X.K X.mg E f)) (hb : PW X (.BoolOp .And (b :: rest) pos) (tT X.K X.mg E g)) : PW X (.BoolOp .And (a :: b :: rest) pos) (tT X.K X.mg E (dAndT f g)) :=
  pw_wk (pw_and ha hb) fun σ H Q ⟨ρ, F, R, q⟩ => ⟨ρ, F, R, (out_bnd (K := X.K) (F := F) q).mono fun x ρ1 k F1 H1 S1 => by
    have q2 := k _ _ _ S1
    cases x with
    | true =>
      rw [if_pos rfl] at q2
      refine iteT ?_
      exact ⟨ρ1, F1, S1.rel, q2.mono fun c ρ2 k2 F2 H2 S2 => k2 F2 H2 (S1.trans S2)⟩
    | false =>
      rw [if_neg Bool.false_ne_true] at q2
      refine iteF ?_
      exact out_ret q2 F1 H1 S1⟩
theorem g_orT {f g : Dn Bool} (ha : PT X a (tT X.K X.mg E f)) (hb : PW X (.BoolOp .Or (b :: rest) pos) (tT X.K X.mg E g)) : PW X (.BoolOp .Or (a :: b :: rest) pos) (tT X.K X.mg E (dOrT f g)) :=
  pw_wk (pw_or ha hb) fun σ H Q ⟨ρ, F, R, q⟩ => ⟨ρ, F, R, (out_bnd (K := X.K) (F := F) q).mono fun x ρ1 k F1 H1 S1 => by
    have q2 := k _ _ _ S1
    cases x with
    | true =>
      rw [if_pos rfl] at q2
      refine iteT ?_
      exact out_ret q2 F1 H1 S1
    | false =>
      rw [if_neg Bool.false_ne_true] at q2
      refine iteF ?_
      exact ⟨ρ1, F1, S1.rel, q2.mono fun c ρ2 k2 F2 H2 S2 => k2 F2 H2 (S1.trans S2)⟩⟩
theorem g_wT {e : Expr} {f : Dn Bool} (h : PW X e (tT X.K X.mg E f)) : PT X e (tT X.K X.mg E f) := h.pt
/-- x and y, x or y as values -/
def dAnd (f g : Dn PyData) : Dn PyData := bnd f fun x => bnd (lft (truth x)) fun b => if b then g else ret x
def dOr (f : Dn Rv) (g : Dn Rv) : Dn Rv := bnd f fun x => bnd (lft (truth x.d)) fun b => if b then ret x else g
theorem g_one {op} {f : Dn PyData} (h : PE X a (tD X.K X.mg E f)) : PE X (.BoolOp op [a] pos) (tD X.K X.mg E f) := pe_one h
theorem g_oneE {op} {f : Dn Rv} (h : PE X a (tE X.K X.mg E f)) : PE X (.BoolOp op [a] pos) (tE X.K X.mg E f) := pe_one h
theorem g_and {f g : Dn PyData} (ha : PE X a (tD X.K X.mg E f)) (hb : PE X (.BoolOp .And (b :: rest) pos) (tD X.K X.mg E g)) : PE X (.BoolOp .And (a :: b :: rest) pos) (tD X.K X.mg E (dAnd f g)) :=
  pe_wk (pe_andT ha hb) fun σ H Q ⟨ρ, F, R, q⟩ => ⟨ρ, F, R, (out_bnd (K := X.K) (F := F) q).mono fun x ρ1 k v F1 H1 S1 d1 => by
    obtain ⟨c, hc, q2⟩ := out_lft (out_bnd (K := X.K) (F := F1) (k _ _ _ S1))
    have q3 := q2 _ _ _ (Stp.refl S1.rel)
    refine ⟨c, tru_of S1.rel.sub d1 hc, ?_⟩
    cases c with
    | true =>
      rw [if_pos rfl] at q3 ⊢
      exact ⟨ρ1, F1, S1.rel, q3.mono fun c ρ2 k2 w F2 H2 S2 d2 => k2 w F2 H2 (S1.trans S2) d2⟩
    | false =>
      rw [if_neg Bool.false_ne_true] at q3 ⊢
      exact out_ret q3 v F1 H1 S1 d1⟩
/-- x or y where x's list stays one's own -/
theorem g_or {f g : Dn Rv} (ha : PE X a (tE X.K X.mg E f)) (hb : PE X (.BoolOp .Or (b :: rest) pos) (tE X.K X.mg E g)) : PE X (.BoolOp .Or (a :: b :: rest) pos) (tE X.K X.mg E (dOr f g)) :=
  pe_wk (pe_orT ha hb) fun σ H Q ⟨ρ, F, R, q⟩ => ⟨ρ, F, R, (out_bnd (K := X.K) (F := F) q).mono fun x ρ1 k v F1 H1 S1 d1 => by
    obtain ⟨c, hc, q2⟩ := out_lft (out_bnd (K := X.K) (F := F1) (k _ _ _ S1))
    have q3 := q2 _ _ _ (Stp.refl S1.rel)
    have ht : TruV X.K v H1 c := by
      cases x with
      | fz d => exact tru_of S1.rel.sub d1 hc
      | ol xs =>
        obtain ⟨p, vs, rfl, _, h2, _, h4, _⟩ := d1
        exact .inl ⟨_, .of h2, by rw [dqs_empty h4]; exact (Option.some.inj hc).symm⟩
    refine ⟨c, ht, ?_⟩
    cases c with
    | true =>
      rw [if_pos rfl] at q3 ⊢
      exact out_ret q3 v F1 H1 S1 d1
    | false =>
      rw [if_neg Bool.false_ne_true] at q3 ⊢
      exact ⟨ρ1, F1, S1.rel, q3.mono fun c ρ2 k2 w F2 H2 S2 d2 => k2 w F2 H2 (S1.trans S2) (d2.before S1)⟩⟩
/-! ### a if c else b -/
def dIf {α : Type} (c : Dn Bool) (f g : Dn α) : Dn α := bnd c fun b => if b then f else g
theorem g_if {c : Expr} {fc : Dn Bool} {f g : Dn PyData} (hc : PT X c (tT X.K X.mg E fc)) (ha : PE X a (tD X.K X.mg E f)) (hb : PE X b (tD X.K X.mg E g)) : PE X (.IfExp c a b pos) (tD X.K X.mg E (dIf fc f g)) :=
  pe_wk (pe_ifExp hc ha hb) fun σ H Q ⟨ρ, F, R, q⟩ => ⟨ρ, F, R, (out_bnd (K := X.K) (F := F) q).mono fun x ρ1 k F1 H1 S1 => by
    have q2 := k _ _ _ S1
    cases x with
    | true =>
      rw [if_pos rfl] at q2
      refine iteT ?_
      exact ⟨ρ1, F1, S1.rel, q2.mono fun c ρ2 k2 w F2 H2 S2 d2 => k2 w F2 H2 (S1.trans S2) d2⟩
    | false =>
      rw [if_neg Bool.false_ne_true] at q2
      refine iteF ?_
      exact ⟨ρ1, F1, S1.rel, q2.mono fun c ρ2 k2 w F2 H2 S2 d2 => k2 w F2 H2 (S1.trans S2) d2⟩⟩
theorem g_ifE {c : Expr} {fc : Dn Bool} {f g : Dn Rv} (hc : PT X c (tT X.K X.mg E fc)) (ha : PE X a (tE X.K X.mg E f)) (hb : PE X b (tE X.K X.mg E g)) : PE X (.IfExp c a b pos) (tE X.K X.mg E (dIf fc f g)) :=
  pe_wk (pe_ifExp hc ha hb) fun σ H Q ⟨ρ, F, R, q⟩ => ⟨ρ, F, R, (out_bnd (K := X.K) (F := F) q).mono fun x ρ1 k F1 H1 S1 => by
    have q2 := k _ _ _ S1
    cases x with
    | true =>
      rw [if_pos rfl] at q2
      refine iteT ?_
      exact ⟨ρ1, F1, S1.rel, q2.mono fun c ρ2 k2 w F2 H2 S2 d2 => k2 w F2 H2 (S1.trans S2) (d2.before S1)⟩
    | false =>
      rw [if_neg Bool.false_ne_true] at q2
      refine iteF ?_
      exact ⟨ρ1, F1, S1.rel, q2.mono fun c ρ2 k2 w F2 H2 S2 d2 => k2 w F2 H2 (S1.trans S2) (d2.before S1)⟩⟩

/-! ### displays -/
def dNil : Dn (List PyData) := ret []
def dCons (f : Dn PyData) (g : Dn (List PyData)) : Dn (List PyData) := bnd f fun d => bnd g fun ds => ret (d :: ds)
theorem gs_nil : PA X [] (tDs X.K X.mg E dNil) := pa_wk pa_nil fun σ H Q ⟨ρ, F, R, q⟩ => out_ret q [] F H (Stp.refl R) .nil
theorem gs_cons {e : Expr} {es : List Expr} {f : Dn PyData} {g : Dn (List PyData)} (h1 : PE X e (tD X.K X.mg E f)) (h2 : PA X es (tDs X.K X.mg E g)) (hs : starEach (e :: es) X.env = (false, eval e X.env) :: starEach es X.env := by rfl) :
    PA X (e :: es) (tDs X.K X.mg E (dCons f g)) :=
  pa_wk (pa_cons h1 h2 hs) fun σ H Q ⟨ρ, F, R, q⟩ => ⟨ρ, F, R, (out_bnd (K := X.K) (F := F) q).mono fun x ρ1 k v F1 H1 S1 d1 =>
    ⟨ρ1, F1, S1.rel, (out_bnd (K := X.K) (F := F1) (k _ _ _ S1)).mono fun ds ρ2 k2 vs F2 H2 S2 d2 => out_ret (k2 _ _ _ S2) _ F2 H2 (S1.trans S2) (.cons (dp_mono S2.ff x v d1) d2)⟩⟩
def okLen (n : Nat) : Bool := decide (n ≤ 16777216)
theorem okLen_le {n : Nat} (h : okLen n = true) : n ≤ sizeLine := by rw [sizeLine_eq]; exact of_decide_eq_true h
def dTup (f : Dn (List PyData)) : Dn PyData := bnd f fun ds => if okLen ds.length then ret (.tuple ds) else lft none
def dLst (f : Dn (List PyData)) : Dn Rv := bnd f fun ds => if okLen ds.length then ret (.ol ds) else lft none
theorem g_tup {es : List Expr} {x1} {f : Dn (List PyData)} (h : PA X es (tDs X.K X.mg E f)) : PE X (.Tuple es x1 pos) (tD X.K X.mg E (dTup f)) :=
  pe_wk (pe_tup h) fun σ H Q ⟨ρ, F, R, q⟩ => ⟨ρ, F, R, (out_bnd (K := X.K) (F := F) q).mono fun ds ρ1 k vs F1 H1 S1 d1 => by
    have q2 := k _ _ _ S1
    by_cases hl : okLen ds.length = true
    · rw [if_pos hl] at q2
      have e := dps_len d1
      refine ⟨by rw [e]; exact okLen_le hl, fun p np => ?_⟩
      have g := Grow.new (o := .tup vs) S1.rel.sub np
      exact out_ret q2 _ _ _ (S1.trans (g.stp S1.rel)) (.tup upd_same (dps_mono g.ff ds vs d1))
    · rw [if_neg hl] at q2
      exact (show False from q2).elim⟩
theorem g_lst {es : List Expr} {f : Dn (List PyData)} (h : PA X es (tDs X.K X.mg E f)) : PE X (.List es pos) (tE X.K X.mg E (dLst f)) :=
  pe_wk (pe_lst h) fun σ H Q ⟨ρ, F, R, q⟩ => ⟨ρ, F, R, (out_bnd (K := X.K) (F := F) q).mono fun ds ρ1 k vs F1 H1 S1 d1 => by
    have q2 := k _ _ _ S1
    by_cases hl : okLen ds.length = true
    · rw [if_pos hl] at q2
      have e := dps_len d1
      refine ⟨by rw [e]; exact okLen_le hl, fun p np => ?_⟩
      have g := Grow.own (o := .lst vs) S1.rel.sub np
      have S2 := g.stp S1.rel
      have nk : NOk H1 F1 (upd H1 p (.lst vs)) (.ol ds) (.ref p) := ⟨p, vs, rfl, np, upd_same, S1.rel.sub.free np, d1⟩
      exact out_ret q2 _ _ _ (S1.trans S2) ((nk.rok S1.rel).before S1)
    · rw [if_neg hl] at q2
      exact (show False from q2).elim⟩

/-! ### built-in functions -/
def CallD (X : Cx) (f : Value) (g : List PyData → Option Rv) : Prop :=
  CallR X f fun xs H Q => ∃ F ds r, Same F H ∧ DqAll F xs ds ∧ g ds = some r ∧ ∀ v F' H', Grow F H F' H' → NOk H F' H' r v → Q v H'
def dCall (g : List PyData → Option Rv) (f : Dn (List PyData)) : Dn Rv := bnd f fun ds => lft (g ds)
theorem call_wk {K : PySem.W.Frag} {mg : Str → Option Value} {g : List PyData → Option Rv} {f : Dn (List PyData)} (σ : St) (H : Hp) (Q : VK) (h : tE K mg E (dCall g f) σ H Q) :
    tCB (fun xs H Q => ∃ F ds r, Same F H ∧ DqAll F xs ds ∧ g ds = some r ∧ ∀ v F' H', Grow F H F' H' → NOk H F' H' r v → Q v H') (tDs K mg E f) σ H Q := by
  obtain ⟨ρ, F, R, q⟩ := h
  refine ⟨ρ, F, R, (out_bnd (K := K) (F := F) q).mono fun ds ρ1 k vs F1 H1 S1 d1 => ?_⟩
  obtain ⟨r, hr, q2⟩ := out_lft (k _ _ _ S1)
  exact ⟨F1, ds, r, S1.rel.sub, d1, hr, fun v F2 H2 gr nk => q2 v F2 H2 (S1.trans (gr.stp S1.rel)) ((nk.rok S1.rel).before S1)⟩
theorem g_callB {x : Str} {p : Pos} {e : Expr} {es : List Expr} {id : String} {g : List PyData → Option Rv} {f : Dn (List PyData)} (hc : CallD X (.builtin id) g) (hg : Gl X x) (hm : X.mg x = none) (hv : bootBuiltins x = some (.builtin id)) (ha : PA X (e :: es) (tDs X.K X.mg E f))
    (hn : x ≠ "__name__" := by decide) (hdb : (x == ("__debug__" : Str)) = false := by decide) (he : starEach (e :: es) X.env = (false, eval e X.env) :: starEach es X.env := by rfl) (hpl : (backTo pos (starEach es X.env)).any (·.1) = false := by rfl) :
    PE X (.Call (.Name x p) (e :: es) [] pos) (tE X.K X.mg E (dCall g f)) := pe_wk (pe_callB hc hg hm hv ha hn hdb he hpl) call_wk
theorem g_callTy {x : Str} {p : Pos} {e : Expr} {es : List Expr} {T : String} {g : List PyData → Option Rv} {f : Dn (List PyData)} (hc : CallD X (.type T) g) (hg : Gl X x) (hm : X.mg x = none) (hv : bootBuiltins x = some (.type T)) (ha : PA X (e :: es) (tDs X.K X.mg E f))
    (hn : x ≠ "__name__" := by decide) (hdb : (x == ("__debug__" : Str)) = false := by decide) (he : starEach (e :: es) X.env = (false, eval e X.env) :: starEach es X.env := by rfl) (hpl : (backTo pos (starEach es X.env)).any (·.1) = false := by rfl) :
    PE X (.Call (.Name x p) (e :: es) [] pos) (tE X.K X.mg E (dCall g f)) := pe_wk (pe_callTy hc hg hm hv ha hn hdb he hpl) call_wk

/-! ### items, slices -/
def IxD (X : Cx) (g : PyData → PyData → Option Rv) : Prop := IxR X fun x y H Q => ∃ F d e r, Same F H ∧ Dq F x d ∧ Dq F y e ∧ g d e = some r ∧ ∀ v F' H', Grow F H F' H' → NOk H F' H' r v → Q v H'
theorem g_ix {g : PyData → PyData → Option Rv} {fa fb : Dn PyData} (ho : IxD X g) (ha : PE X a (tD X.K X.mg E fa)) (hb : PE X b (tD X.K X.mg E fb)) (hs : PlainIx b := by intro _ _; rfl) : PE X (.Subscript a b pos) (tE X.K X.mg E (dBin g fa fb)) :=
  pe_wk (pe_ix ho ha hb hs) (bin_wk fun _ _ _ _ h => h)
def tO (K : PySem.W.Frag) (mg : Str → Option Value) (E : XK) (f : Dn (Option Int)) : TO := fun σ H Q => ∃ ρ F, Rel K ρ σ F H ∧ Out mg E ρ σ H (f ρ) fun o ρ' => ∀ F' H', Stp K ρ σ F H ρ' σ F' H' → Q o H'
def intOf : PyData → Option Int
  | .int i => some i
  | _ => none
def dOn (f : Dn PyData) : Dn (Option Int) := bnd f fun d => bnd (lft (intOf d)) fun i => ret (some i)
def dOff : Dn (Option Int) := ret none
theorem po_wk {e : Option Expr} {t t' : TO} (h : PO X e t) (w : ∀ σ H Q, t' σ H Q → t σ H Q) : PO X e t' := ⟨fun pins s σ H Q I q => h.run pins s σ H Q I (w σ H Q q)⟩
theorem go_none : PO X none (tO X.K X.mg E dOff) := po_wk po_none fun σ H Q ⟨ρ, F, R, q⟩ => out_ret q F H (Stp.refl R)
theorem go_some {e : Expr} {f : Dn PyData} (h : PE X e (tD X.K X.mg E f)) : PO X (some e) (tO X.K X.mg E (dOn f)) :=
  po_wk (po_some h) fun σ H Q ⟨ρ, F, R, q⟩ => ⟨ρ, F, R, (out_bnd (K := X.K) (F := F) q).mono fun x ρ1 k v F1 H1 S1 d1 => by
    obtain ⟨i, hi, q2⟩ := out_lft (out_bnd (K := X.K) (F := F1) (k _ _ _ S1))
    have e : x = .int i := by
      cases x <;> simp [intOf] at hi
      rw [hi]
    subst e
    cases d1
    exact ⟨i, rfl, out_ret (q2 _ _ _ (Stp.refl S1.rel)) F1 H1 S1⟩⟩
def cutD (xs : List PyData) (lo hi : Option Int) : List PyData := (xs.drop (HT.sIx xs.length 0 lo)).take (HT.sIx xs.length xs.length hi - HT.sIx xs.length 0 lo)
theorem dqs_cut {F : Hp} {vs : List V} {xs : List PyData} (h : DqAll F vs xs) (lo hi : Option Int) : DqAll F (cutV vs lo hi) (cutD xs lo hi) := by
  unfold cutV cutD
  rw [dps_len h]
  exact dps_take _ (dps_drop _ h)
def sliceD (x : PyData) (lo hi : Option Int) : Option Rv := match x with
  | .list xs => some (.ol (cutD xs lo hi))
  | .tuple xs => some (.fz (.tuple (cutD xs lo hi)))
  | _ => none
def rSlD (x : V) (lo hi : Option Int) (H : Hp) (Q : VK) : Prop := ∃ F d r, Same F H ∧ Dq F x d ∧ sliceD d lo hi = some r ∧ ∀ v F' H', Grow F H F' H' → NOk H F' H' r v → Q v H'
theorem slR_wk {r r' : V → Option Int → Option Int → Hp → VK → Prop} (h : SlR X r) (w : ∀ x lo hi H Q, r' x lo hi H Q → r x lo hi H Q) : SlR X r' := by
  intro pins s σ H x v vl vu lo hi sl Q I rx hs pl pu q
  exact h pins s σ H x v vl vu lo hi sl Q I rx hs pl pu (w _ _ _ _ _ q)
theorem sl_D : SlR X rSlD := slR_wk (sl_list.or sl_tupA) fun x lo hi H Q h => by
  obtain ⟨F, d, r, s, dq, hr, q⟩ := h
  cases dq with
  | @lst a vs xs ha hx =>
    cases hr
    refine .inl ⟨a, vs, rfl, .of (s _ _ ha), fun p np => q _ _ _ (Grow.own s np) ⟨p, _, rfl, np, upd_same, s.free np, dqs_cut hx lo hi⟩⟩
  | @tup a vs xs ha hx =>
    cases hr
    refine .inr ⟨a, vs, rfl, .of (s _ _ ha), fun hw => q _ _ _ (Grow.refl s) ?_, fun _ p np => q _ _ _ (Grow.new s np) (.tup upd_same (dps_mono (same_new (s.free np)) _ _ (dqs_cut hx lo hi)))⟩
    refine (.tup ha ?_ : Dq F (.ref a) (.tuple (cutD xs lo hi)))
    have e : cutD xs lo hi = xs := by
      unfold cutD
      rw [← dps_len hx, hw.1, hw.2, List.drop_zero, dps_len hx, Nat.sub_zero, List.take_length]
    rw [e]
    exact hx
  | _ => cases hr
def dSl (f : Dn PyData) (lo hi : Dn (Option Int)) : Dn Rv := bnd f fun x => bnd lo fun l => bnd hi fun h => lft (sliceD x l h)
theorem g_slice {e : Expr} {lo hi : Option Expr} {p2 : Pos} {f : Dn PyData} {fl fh : Dn (Option Int)} (he : PE X e (tD X.K X.mg E f)) (hl : PO X lo (tO X.K X.mg E fl)) (hu : PO X hi (tO X.K X.mg E fh)) :
    PE X (.Subscript e (.Slice lo hi none p2) pos) (tE X.K X.mg E (dSl f fl fh)) :=
  pe_wk (pe_slice sl_D he hl hu) fun σ H Q ⟨ρ, F, R, q⟩ => ⟨ρ, F, R, (out_bnd (K := X.K) (F := F) q).mono fun x ρ1 k v F1 H1 S1 d1 =>
    ⟨ρ1, F1, S1.rel, (out_bnd (K := X.K) (F := F1) (k _ _ _ S1)).mono fun l ρ2 k2 F2 H2 S2 =>
      ⟨ρ2, F2, S2.rel, (out_bnd (K := X.K) (F := F2) (k2 _ _ _ S2)).mono fun h ρ3 k3 F3 H3 S3 => by
        obtain ⟨r, hr, q4⟩ := out_lft (k3 _ _ _ S3)
        have S13 := (S1.trans S2).trans S3
        exact ⟨F3, x, r, S3.rel.sub, dp_mono S3.ff x v (dp_mono S2.ff x v d1), hr, fun w F4 H4 gr nk => q4 w F4 H4 (S13.trans (gr.stp S3.rel)) ((nk.rok S3.rel).before S13)⟩⟩⟩⟩
end
end Gx

/-! G4: statements, defs, calls. -/
namespace Gx
open PySem PySem.Spec L2
open PyProof.Rows hiding St

section
variable {X : Cx} {E : XK} {pos : Pos} {a b : Expr} {st : Stmt} {rest : List Stmt}
/-! ### blocks -/
def sNx : Dn Fl := ret .nx
def sSeq (f g : Dn Fl) : Dn Fl := bnd f fun fl => match fl with
  | .nx => g
  | fl => ret fl
theorem gss_nil : PSs X [] (tS X.K X.mg E sNx) := pss_wk pss_nil fun D σ H ⟨ρ, F, R, q⟩ => out_ret q σ F H (Stp.refl R)
theorem seq_wk {K : PySem.W.Frag} {mg : Str → Option Value} {f g : Dn Fl} (D : Ends) (σ : St) (H : Hp) (h : tS K mg E (sSeq f g) D σ H) : tSeq (tS K mg E f) (tS K mg E g) D σ H := by
  obtain ⟨ρ, F, R, q⟩ := h
  refine ⟨ρ, F, R, (out_bnd (K := K) (F := F) q).mono fun fl ρ1 k => ?_⟩
  cases fl with
  | nx =>
    intro σ1 F1 H1 S1
    refine ⟨ρ1, F1, S1.rel, (k σ1 F1 H1 S1).mono fun fl2 ρ2 k2 => ?_⟩
    cases fl2 with
    | nx => exact fun σ' F' H' S' => k2 σ' F' H' (S1.trans S')
    | bk => exact fun σ' F' H' S' => k2 σ' F' H' (S1.trans S')
    | ct => exact fun σ' F' H' S' => k2 σ' F' H' (S1.trans S')
    | rt r => exact fun σ' v F' H' S' ro => k2 σ' v F' H' (S1.trans S') (ro.before S1)
  | bk => exact fun σ' F' H' S' => out_ret (k σ' F' H' S') σ' F' H' S'
  | ct => exact fun σ' F' H' S' => out_ret (k σ' F' H' S') σ' F' H' S'
  | rt r => exact fun σ' v F' H' S' ro => out_ret (k σ' F' H' S') σ' v F' H' S' ro
theorem gss_cons {f g : Dn Fl} (h1 : PS X st (tS X.K X.mg E f)) (h2 : PSs X rest (tS X.K X.mg E g)) : PSs X (st :: rest) (tS X.K X.mg E (sSeq f g)) := pss_wk (pss_cons h1 h2) seq_wk
theorem gss_one {f : Dn Fl} (h1 : PS X st (tS X.K X.mg E f)) : PSs X [st] (tS X.K X.mg E f) := pss_one h1
theorem gs_pass : PS X (.Pass pos) (tS X.K X.mg E sNx) := ps_wk ps_pass fun D σ H ⟨ρ, F, R, q⟩ => out_ret q σ F H (Stp.refl R)
theorem gs_break : PS X (.Break pos) (tS X.K X.mg E (ret .bk)) := ps_wk ps_break fun D σ H ⟨ρ, F, R, q⟩ => out_ret q σ F H (Stp.refl R)
theorem gs_continue : PS X (.Continue pos) (tS X.K X.mg E (ret .ct)) := ps_wk ps_continue fun D σ H ⟨ρ, F, R, q⟩ => out_ret q σ F H (Stp.refl R)
def sRet (f : Dn Rv) : Dn Fl := bnd f fun r => ret (.rt r)
theorem gs_ret {e : Expr} {f : Dn Rv} (h : PE X e (tE X.K X.mg E f)) : PS X (.Return (some e) pos) (tS X.K X.mg E (sRet f)) :=
  ps_wk (ps_ret h) fun D σ H ⟨ρ, F, R, q⟩ => ⟨ρ, F, R, (out_bnd (K := X.K) (F := F) q).mono fun r ρ1 k v F1 H1 S1 ro => out_ret (k _ _ _ S1) σ v F1 H1 S1 ro⟩
theorem gs_retN : PS X (.Return none pos) (tS X.K X.mg E (ret (.rt (.fz .none)))) :=
  ps_wk ps_retN fun D σ H ⟨ρ, F, R, q⟩ => out_ret q σ .non F H (Stp.refl R) .non
def sIf (c : Dn Bool) (f g : Dn Fl) : Dn Fl := bnd c fun b => if b then f else g
theorem gs_if {c : Expr} {p q : List Stmt} {fc : Dn Bool} {f g : Dn Fl} (hc : PT X c (tT X.K X.mg E fc)) (ha : PSs X p (tS X.K X.mg E f)) (hb : PSs X q (tS X.K X.mg E g)) : PS X (.If c p q pos) (tS X.K X.mg E (sIf fc f g)) :=
  ps_wk (ps_if hc ha hb) fun D σ H ⟨ρ, F, R, q⟩ => ⟨ρ, F, R, (out_bnd (K := X.K) (F := F) q).mono fun x ρ1 k F1 H1 S1 => by
    have q2 := k _ _ _ S1
    cases x with
    | true =>
      rw [if_pos rfl] at q2
      refine iteT ⟨ρ1, F1, S1.rel, q2.mono fun fl ρ2 k2 => ?_⟩
      cases fl with
      | nx => exact fun σ' F' H' S' => k2 σ' F' H' (S1.trans S')
      | bk => exact fun σ' F' H' S' => k2 σ' F' H' (S1.trans S')
      | ct => exact fun σ' F' H' S' => k2 σ' F' H' (S1.trans S')
      | rt r => exact fun σ' v F' H' S' ro => k2 σ' v F' H' (S1.trans S') (ro.before S1)
    | false =>
      rw [if_neg Bool.false_ne_true] at q2
      refine iteF ⟨ρ1, F1, S1.rel, q2.mono fun fl ρ2 k2 => ?_⟩
      cases fl with
      | nx => exact fun σ' F' H' S' => k2 σ' F' H' (S1.trans S')
      | bk => exact fun σ' F' H' S' => k2 σ' F' H' (S1.trans S')
      | ct => exact fun σ' F' H' S' => k2 σ' F' H' (S1.trans S')
      | rt r => exact fun σ' v F' H' S' ro => k2 σ' v F' H' (S1.trans S') (ro.before S1)⟩
def sDrop (f : Dn PyData) : Dn Fl := bnd f fun _ => ret .nx
theorem gs_expr {e : Expr} {f : Dn PyData} (he : PE X e (tD X.K X.mg E f)) (hs : swapsWith e none pos.line X.env = pure false := by rfl) : PS X (.Expr e pos) (tS X.K X.mg E (sDrop f)) :=
  ps_wk (ps_expr he hs) fun D σ H ⟨ρ, F, R, q⟩ => ⟨ρ, F, R, (out_bnd (K := X.K) (F := F) q).mono fun r ρ1 k v F1 H1 S1 ro => out_ret (k _ _ _ S1) σ F1 H1 S1⟩

/-! ### stores -/
def isBl : Option En → Bool
  | some (.bl _) => true
  | none => true
  | _ => false
theorem isBl_f {ρ : Ev} {i : Nat} (h : isBl ρ[i]? = false) : (∀ xs, ρ[i]? ≠ some (.bl xs)) ∧ i < ρ.length := by
  cases e : ρ[i]? with
  | none => rw [e] at h; cases h
  | some en =>
    refine ⟨fun xs z => ?_, (List.getElem?_eq_some_iff.mp e).1⟩
    rw [e] at h
    cases z
    cases h
def put (i : Nat) (r : Rv) : Dn Fl := fun ρ => if isBl ρ[i]? then .st else .ok (.nx, ρ.set i r.en)
theorem put_stp {K : PySem.W.Frag} {mg : Str → Option Value} {ρ ρ1 : Ev} {σ σ1 : St} {F H F1 H1 : Hp} {i : Nat} {r : Rv} {v : V} {P : Fl → Ev → Prop} (S : Stp K ρ σ F H ρ1 σ1 F1 H1) (ro : ROk ρ σ H ρ1 σ1 F1 H1 r v) (h : Out mg E ρ1 σ1 H1 (put i r ρ1) P) :
    P .nx (ρ1.set i r.en) ∧ Stp K ρ σ F H (ρ1.set i r.en) (σ1.set i (some v)) F1 H1 := by
  unfold put at h
  cases q : isBl ρ1[i]? with
  | true => rw [q] at h; exact (show False from h).elim
  | false =>
    rw [q] at h
    refine ⟨h, ?_⟩
    obtain ⟨nb, hi⟩ := isBl_f q
    cases r with
    | fz d => exact store_fz S nb hi ro
    | ol xs =>
      obtain ⟨p, vs, rfl, h1, h2, h3, h4, h5⟩ := ro
      exact store_ol S nb hi h1 h2 h3 h4 h5
def sSet (i : Nat) (f : Dn Rv) : Dn Fl := bnd f fun r => put i r
theorem set_wk {K : PySem.W.Frag} {mg : Str → Option Value} {i : Nat} {f : Dn Rv} (D : Ends) (σ : St) (H : Hp) (h : tS K mg E (sSet i f) D σ H) : tAsg (tE K mg E f) (gName i) D σ H := by
  obtain ⟨ρ, F, R, q⟩ := h
  refine ⟨ρ, F, R, (out_bnd (K := K) (F := F) q).mono fun r ρ1 k v F1 H1 S1 ro => ?_⟩
  obtain ⟨q2, S2⟩ := put_stp S1 ro (k _ _ _ S1)
  exact q2 _ F1 H1 S2
theorem gs_set (i : Nat) {x : Str} {e : Expr} {pos' : Pos} {f : Dn Rv} (hN : X.N.Nodup) (he : PE X e (tE X.K X.mg E f)) (hi : X.N[i]? = some x := by rfl) (hx : Loc X.env.scope x := by first | exact Or.inl rfl | exact Or.inr rfl) (hs : swapsWith e (some (.Name x pos')) pos.line X.env = pure false := by rfl)
    (hf : X.fn x = true ∨ X.env.scope.names.lookup x = some .local := by first | exact .inl rfl | exact .inr rfl | assumption) : PS X (.Assign [.Name x pos'] e pos) (tS X.K X.mg E (sSet i f)) :=
  ps_wk (ps_set hN hi hx he hs hf) set_wk

/-! ### targets -/
/-- what a target does to the slots ts -/
def tGd (K : PySem.W.Frag) (ts : List Nat) (h : PyData → Ev → Option Ev) : TG := fun v σ H Q => ∃ d ρ F ρ' , Rel K ρ σ F H ∧ Dq F v d ∧ h d ρ = some ρ' ∧ ∀ σ', Stp K ρ σ F H ρ' σ' F H → (∀ j, j ∉ ts → σ'[j]? = σ[j]?) → Q σ' H
def hName (i : Nat) (d : PyData) (ρ : Ev) : Option Ev := if isBl ρ[i]? then none else some (ρ.set i (.fz d))
theorem pg_wk {X : Cx} {tg : Expr} {t t' : TG} (h : PG X tg t) (w : ∀ v σ H Q, t' v σ H Q → t v σ H Q) : PG X tg t' := ⟨fun pins s σ H v u Q I r q => h.run pins s σ H v u Q I r (w v σ H Q q)⟩
theorem hName_stp {K : PySem.W.Frag} {ρ ρ' : Ev} {σ : St} {F H : Hp} {i : Nat} {v : V} {d : PyData} (R : Rel K ρ σ F H) (dq : Dq F v d) (e : hName i d ρ = some ρ') : Stp K ρ σ F H ρ' (σ.set i (some v)) F H := by
  unfold hName at e
  cases q : isBl ρ[i]? with
  | true => rw [q] at e; cases e
  | false =>
    rw [q] at e
    cases e
    obtain ⟨nb, hi⟩ := isBl_f q
    exact store_fz (Stp.refl R) nb hi dq
theorem gg_name (i : Nat) {x : Str} (hN : X.N.Nodup) (hi : X.N[i]? = some x := by rfl) (hx : Loc X.env.scope x := by first | exact Or.inl rfl | exact Or.inr rfl) (hf : X.fn x = true ∨ X.env.scope.names.lookup x = some .local := by first | exact .inl rfl | exact .inr rfl | assumption) :
    PG X (.Name x pos) (tGd X.K [i] (hName i)) :=
  pg_wk (pg_name hN hi hx hf) fun v σ H Q ⟨d, ρ, F, ρ', R, dq, e, q⟩ => q _ (hName_stp R dq e) fun j hj => by
    rw [List.getElem?_set_ne]
    intro z
    exact hj (by rw [z]; simp)
/-- targets in a row -/
def tGds (K : PySem.W.Frag) (ts : List Nat) (h : List PyData → Ev → Option Ev) : TGs := fun vs σ H Q => ∃ ds ρ F ρ', Rel K ρ σ F H ∧ DqAll F vs ds ∧ h ds ρ = some ρ' ∧ ∀ σ', Stp K ρ σ F H ρ' σ' F H → (∀ j, j ∉ ts → σ'[j]? = σ[j]?) → Q σ' H
theorem pgs_wk {X : Cx} {tg : List Expr} {t t' : TGs} (h : PGs X tg t) (w : ∀ v σ H Q, t' v σ H Q → t v σ H Q) : PGs X tg t' := ⟨fun pins s σ H v u Q I r q => h.run pins s σ H v u Q I r (w v σ H Q q)⟩
def hNil (ds : List PyData) (ρ : Ev) : Option Ev := match ds with
  | [] => some ρ
  | _ => none
def hCons (h : PyData → Ev → Option Ev) (g : List PyData → Ev → Option Ev) (ds : List PyData) (ρ : Ev) : Option Ev := match ds with
  | [] => none
  | d :: ds => (h d ρ).bind (g ds)
theorem ggs_nil : PGs X [] (tGds X.K [] hNil) := pgs_wk pgs_nil fun vs σ H Q ⟨ds, ρ, F, ρ', R, dq, e, q⟩ => by
  cases dq with
  | nil =>
    cases e
    exact ⟨rfl, q σ (Stp.refl R) fun _ _ => rfl⟩
  | cons _ _ => cases e
theorem ggs_cons {e : Expr} {es : List Expr} {ts us : List Nat} {h : PyData → Ev → Option Ev} {g : List PyData → Ev → Option Ev} (h1 : PG X e (tGd X.K ts h)) (h2 : PGs X es (tGds X.K us g)) (hs : (assignEach (e :: es) X.env).map (·.2) = assign e X.env :: (assignEach es X.env).map (·.2) := by rfl) :
    PGs X (e :: es) (tGds X.K (ts ++ us) (hCons h g)) := pgs_wk (pgs_cons h1 h2 hs) fun vs σ H Q ⟨ds, ρ, F, ρ', R, dq, e, q⟩ => by
  cases dq with
  | nil => cases e
  | @cons v vs d ds d1 d2 =>
    have e' : (h d ρ).bind (g ds) = some ρ' := e
    obtain ⟨ρ1, e1, e2⟩ := Option.bind_eq_some_iff.mp e'
    exact ⟨v, vs, rfl, d, ρ, F, ρ1, R, d1, e1, fun σ1 S1 k1 => ⟨ds, ρ1, F, ρ', S1.rel, d2, e2, fun σ2 S2 k2 => q σ2 (S1.trans S2) fun j hj => by
      rw [List.mem_append, not_or] at hj
      exact (k2 j hj.2).trans (k1 j hj.1)⟩⟩
def hTup (n : Nat) (g : List PyData → Ev → Option Ev) (d : PyData) (ρ : Ev) : Option Ev := match d with
  | .tuple ds => if ds.length = n then g ds ρ else none
  | _ => none
theorem gg_tup {es : List Expr} {k n : Nat} {ts : List Nat} {g : List PyData → Ev → Option Ev} (hc : X.calm = true) (h : PGs X es (tGds X.K ts g)) (hn : (assignEach es X.env).length = n := by rfl) (hst : (assignEach es X.env).findIdx? (·.1) = none := by rfl) :
    PG X (.Tuple es k pos) (tGd X.K ts (hTup n g)) := pg_wk (pg_tup hc h hn hst) fun v σ H Q ⟨d, ρ, F, ρ', R, dq, e, q⟩ => by
  cases dq with
  | @tup a vs ds ha hx =>
    have e' : (if ds.length = n then g ds ρ else none) = some ρ' := e
    by_cases hl : ds.length = n
    · rw [if_pos hl] at e'
      exact ⟨a, vs, rfl, .of (R.sub _ _ ha), by rw [dps_len hx]; exact hl, ds, ρ, F, ρ', R, hx, e', q⟩
    · rw [if_neg hl] at e'
      cases e'
  | _ => cases e
def sAsg (f : Dn PyData) (h : PyData → Ev → Option Ev) : Dn Fl := bnd f fun d => fun ρ => match h d ρ with
  | none => .st
  | some ρ' => .ok (.nx, ρ')
theorem gs_asg {tg e : Expr} {f : Dn PyData} {ts : List Nat} {h : PyData → Ev → Option Ev} (he : PE X e (tD X.K X.mg E f)) (hg : PG X tg (tGd X.K ts h)) (hs : swapsWithSole [tg] e pos.line X.env = pure false := by rfl) (hw : swappedStores [tg] e X.env = pure none := by rfl)
    (h1 : (assignEach [tg] X.env).map (·.2) = [assign tg X.env] := by rfl) : PS X (.Assign [tg] e pos) (tS X.K X.mg E (sAsg f h)) :=
  ps_wk (ps_asg he hg hs hw h1) fun D σ H ⟨ρ, F, R, q⟩ => ⟨ρ, F, R, (out_bnd (K := X.K) (F := F) q).mono fun d ρ1 k v F1 H1 S1 dq => by
    have q2 := k _ _ _ S1
    cases e : h d ρ1 with
    | none => rw [e] at q2; exact (show False from q2).elim
    | some ρ2 =>
      rw [e] at q2
      exact ⟨d, ρ1, F1, ρ2, S1.rel, dq, e, fun σ' S2 _ => q2 σ' F1 H1 (S1.trans S2)⟩⟩

/-! ### arguments -/
inductive Ar where
  | fz (d : PyData)
  | tp (xs : List PyData)
  | sl (i : Nat)
  | sc (ns : List Int)
structure AOk (K : PySem.W.Frag) (ρ : Ev) (σ : St) (H : Hp) (ρ1 : Ev) (F1 H1 : Hp) (as : List Ar) (vs : List V) : Prop where
  ln : vs.length = as.length
  fz : ∀ (k : Nat) (d : PyData), as[k]? = some (.fz d) → ∃ v, vs[k]? = some v ∧ Dq F1 v d
  sl : ∀ (k i : Nat), as[k]? = some (.sl i) → ∃ v, vs[k]? = some v ∧ σ[i]? = some (some v)
  tp : ∀ (k : Nat) (xs : List PyData), as[k]? = some (.tp xs) → ∃ p ws, vs[k]? = some (.ref p) ∧ (OwnL ρ σ p ∨ H p = none) ∧ H1 p = some (.lst ws) ∧ F1 p = none ∧ DqAll F1 ws xs ∧ ¬ Own ρ1 σ p
  sc : ∀ (k : Nat) (ns : List Int), as[k]? = some (.sc ns) → ∃ a, vs[k]? = some (.ref a) ∧ SqL K F1 a (ns.map V.int)
  ap : ∀ (k l : Nat) (xs ys : List PyData) (p : Addr), as[k]? = some (.tp xs) → as[l]? = some (.tp ys) → vs[k]? = some (.ref p) → vs[l]? = some (.ref p) → k = l
def tAr (K : PySem.W.Frag) (mg : Str → Option Value) (E : XK) (f : Dn (List Ar)) : TA := fun σ H Q => ∃ ρ F, Rel K ρ σ F H ∧ Out mg E ρ σ H (f ρ) fun as ρ' => ∀ vs F' H', Stp K ρ σ F H ρ' σ F' H' → AOk K ρ σ H ρ' F' H' as vs → Q vs H'
def aNil : Dn (List Ar) := ret []
theorem ga_nil : PA X [] (tAr X.K X.mg E aNil) := pa_wk pa_nil fun σ H Q ⟨ρ, F, R, q⟩ => out_ret q [] F H (Stp.refl R)
  ⟨rfl, fun k d h => by simp at h, fun k d h => by simp at h, fun k d h => by simp at h, fun k d h => by simp at h, fun k l xs ys p h => by simp at h⟩
/-- an own list, met later -/
theorem keep_own {K : PySem.W.Frag} {ρ1 ρ2 : Ev} {σ : St} {F1 H1 F2 H2 : Hp} {p : Addr} {ws : List V} (S : Stp K ρ1 σ F1 H1 ρ2 σ F2 H2) (h2 : H1 p = some (.lst ws)) (h3 : F1 p = none) (h5 : ¬ Own ρ1 σ p) :
    H2 p = some (.lst ws) ∧ F2 p = none ∧ ¬ Own ρ2 σ p := by
  refine ⟨S.fr p _ h2 h5, ?_, S.nob h2 h5⟩
  cases e : F2 p with
  | none => rfl
  | some o =>
    rcases S.nw p (by rw [e]; intro z; cases z) with z | z | z
    · exact absurd h3 z
    · exact absurd (.inl z) h5
    · rw [h2] at z
      cases z
def aCons (f : Dn Rv) (g : Dn (List Ar)) : Dn (List Ar) := bnd f fun r => bnd g fun as => ret ((match r with
  | .fz d => Ar.fz d
  | .ol xs => Ar.tp xs) :: as)
theorem ga_cons {e : Expr} {es : List Expr} {f : Dn Rv} {g : Dn (List Ar)} (h1 : PE X e (tE X.K X.mg E f)) (h2 : PA X es (tAr X.K X.mg E g)) (hs : starEach (e :: es) X.env = (false, eval e X.env) :: starEach es X.env := by rfl) :
    PA X (e :: es) (tAr X.K X.mg E (aCons f g)) :=
  pa_wk (pa_cons h1 h2 hs) fun σ H Q ⟨ρ, F, R, q⟩ => ⟨ρ, F, R, (out_bnd (K := X.K) (F := F) q).mono fun r ρ1 k v F1 H1 S1 ro =>
    ⟨ρ1, F1, S1.rel, (out_bnd (K := X.K) (F := F1) (k _ _ _ S1)).mono fun as ρ2 k2 vs F2 H2 S2 A => out_ret (k2 _ _ _ S2) _ F2 H2 (S1.trans S2) (by
      have old : ∀ {p : Addr}, (OwnL ρ1 σ p ∨ H1 p = none) → (OwnL ρ σ p ∨ H p = none) := fun {p} h => by
        rcases h with h | h
        · exact S1.oo p h
        · exact .inr (S1.dm p h)
      cases r with
      | fz d =>
        refine ⟨by simp [A.ln], fun k e h => ?_, fun k i h => ?_, fun k xs h => ?_, fun k ns h => ?_, fun k l xs ys p e1 e2 e3 e4 => ?_⟩
        · cases k with
          | zero => simp at h; subst h; exact ⟨v, rfl, dp_mono S2.ff d v ro⟩
          | succ k => exact A.fz k e (by simpa using h)
        · cases k with
          | zero => simp at h
          | succ k => exact A.sl k i (by simpa using h)
        · cases k with
          | zero => simp at h
          | succ k =>
            obtain ⟨p, ws, e1, e2, e3⟩ := A.tp k xs (by simpa using h)
            exact ⟨p, ws, by simpa using e1, old e2, e3⟩
        · cases k with
          | zero => simp at h
          | succ k => exact A.sc k ns (by simpa using h)
        · cases k with
          | zero => simp at e1
          | succ k =>
            cases l with
            | zero => simp at e2
            | succ l => rw [A.ap k l xs ys p (by simpa using e1) (by simpa using e2) (by simpa using e3) (by simpa using e4)]
      | ol zs =>
        obtain ⟨p0, ws0, rfl, r1, r2, r3, r4, r5⟩ := ro
        obtain ⟨n1, n2, n3⟩ := keep_own S2 r2 r3 r5
        have apart : ∀ (k : Nat) (xs : List PyData), as[k]? = some (.tp xs) → vs[k]? ≠ some (.ref p0) := fun k xs h z => by
          obtain ⟨p, ws, e1, e2, _⟩ := A.tp k xs h
          rw [z] at e1
          cases e1
          rcases e2 with e2 | e2
          · exact r5 (.inl e2)
          · rw [r2] at e2
            cases e2
        refine ⟨by simp [A.ln], fun k e h => ?_, fun k i h => ?_, fun k xs h => ?_, fun k ns h => ?_, fun k l xs ys p e1 e2 e3 e4 => ?_⟩
        · cases k with
          | zero => simp at h
          | succ k => exact A.fz k e (by simpa using h)
        · cases k with
          | zero => simp at h
          | succ k => exact A.sl k i (by simpa using h)
        · cases k with
          | zero =>
            simp at h
            subst h
            exact ⟨p0, ws0, rfl, r1, n1, n2, dps_mono S2.ff _ _ r4, n3⟩
          | succ k =>
            obtain ⟨p, ws, e1, e2, e3⟩ := A.tp k xs (by simpa using h)
            exact ⟨p, ws, by simpa using e1, old e2, e3⟩
        · cases k with
          | zero => simp at h
          | succ k => exact A.sc k ns (by simpa using h)
        · cases k with
          | zero =>
            cases l with
            | zero => rfl
            | succ l =>
              have e3' : V.ref p0 = V.ref p := by simpa using e3
              cases e3'
              exact absurd (by simpa using e4) (apart l ys (by simpa using e2))
          | succ k =>
            cases l with
            | zero =>
              have e4' : V.ref p0 = V.ref p := by simpa using e4
              cases e4'
              exact absurd (by simpa using e3) (apart k xs (by simpa using e1))
            | succ l => rw [A.ap k l xs ys p (by simpa using e1) (by simpa using e2) (by simpa using e3) (by simpa using e4)])⟩⟩
/-- slot i is lent -/
def aLend (i : Nat) (g : Dn (List Ar)) : Dn (List Ar) := fun ρ => match ρ[i]? with
  | some (.ol _) => bnd g (fun as => ret (.sl i :: as)) ρ
  | some (.bl _) => bnd g (fun as => ret (.sl i :: as)) ρ
  | some (.sc ns) => bnd g (fun as => ret (.sc ns :: as)) ρ
  | _ => .st
theorem ga_lend (i : Nat) {x : Str} {p : Pos} {es : List Expr} {g : Dn (List Ar)} (h2 : PA X es (tAr X.K X.mg E g)) (hN : X.N[i]? = some x := by rfl) (hv : Vis X.env.scope x := by first | exact Or.inl rfl | exact Or.inr (Or.inl rfl) | exact Or.inr (Or.inr rfl))
    (hs : starEach (.Name x p :: es) X.env = (false, eval (.Name x p) X.env) :: starEach es X.env := by rfl) (hd : (x == ("__debug__" : Str)) = false := by decide) (hcd : (x == ("__classdict__" : Str)) = false := by decide) :
    PA X (.Name x p :: es) (tAr X.K X.mg E (aLend i g)) :=
  pa_wk (pa_cons (pe_var hN hv hd hcd) h2 hs) fun σ H Q ⟨ρ, F, R, q⟩ => by
    have go : ∀ xs : List PyData, (ρ[i]? = some (.ol xs) ∨ ρ[i]? = some (.bl xs)) → Out X.mg E ρ σ H (bnd g (fun as => ret (.sl i :: as)) ρ) (fun as ρ' => ∀ vs F' H', Stp X.K ρ σ F H ρ' σ F' H' → AOk X.K ρ σ H ρ' F' H' as vs → Q vs H') →
        tCons (tVar i) (tAr X.K X.mg E g) σ H Q := fun xs hx q => by
      obtain ⟨p, ws, h1, _⟩ := R.ls i xs hx
      refine ⟨_, h1, ρ, F, R, (out_bnd (K := X.K) (F := F) q).mono fun as ρ2 k2 vs F2 H2 S2 A => out_ret (k2 _ _ _ S2) _ F2 H2 S2 ?_⟩
      refine ⟨by simp [A.ln], fun k e h => ?_, fun k j h => ?_, fun k xs h => ?_, fun k ns h => ?_, fun k l xs ys p e1 e2 e3 e4 => ?_⟩
      · cases k with
        | zero => simp at h
        | succ k => exact A.fz k e (by simpa using h)
      · cases k with
        | zero => simp at h; subst h; exact ⟨_, rfl, h1⟩
        | succ k => exact A.sl k j (by simpa using h)
      · cases k with
        | zero => simp at h
        | succ k => exact A.tp k xs (by simpa using h)
      · cases k with
        | zero => simp at h
        | succ k => exact A.sc k ns (by simpa using h)
      · cases k with
        | zero => simp at e1
        | succ k =>
          cases l with
          | zero => simp at e2
          | succ l => rw [A.ap k l xs ys p (by simpa using e1) (by simpa using e2) (by simpa using e3) (by simpa using e4)]
    unfold aLend at q
    cases e : ρ[i]? with
    | none => rw [e] at q; exact q.elim
    | some en =>
      rw [e] at q
      cases en with
      | fz d => exact q.elim
      | no => exact q.elim
      | ol xs => exact go xs (.inl e) q
      | bl xs => exact go xs (.inr e) q
      | sc ns =>
        obtain ⟨a, h1, hs1⟩ := R.sc i ns e
        refine ⟨_, h1, ρ, F, R, (out_bnd (K := X.K) (F := F) q).mono fun as ρ2 k2 vs F2 H2 S2 A => out_ret (k2 _ _ _ S2) _ F2 H2 S2 ?_⟩
        refine ⟨by simp [A.ln], fun k e h => ?_, fun k j h => ?_, fun k xs h => ?_, fun k ns h => ?_, fun k l xs ys p e1 e2 e3 e4 => ?_⟩
        · cases k with
          | zero => simp at h
          | succ k => exact A.fz k e (by simpa using h)
        · cases k with
          | zero => simp at h
          | succ k => exact A.sl k j (by simpa using h)
        · cases k with
          | zero => simp at h
          | succ k => exact A.tp k xs (by simpa using h)
        · cases k with
          | zero => simp at h; subst h; exact ⟨a, rfl, S2.ff.seq hs1⟩
          | succ k => exact A.sc k ns (by simpa using h)
        · cases k with
          | zero => simp at e1
          | succ k =>
            cases l with
            | zero => simp at e2
            | succ l => rw [A.ap k l xs ys p (by simpa using e1) (by simpa using e2) (by simpa using e3) (by simpa using e4)]
end
end Gx

/-! G5: what a def does to data; its call. -/
namespace Gx
open PySem PySem.Spec L2
open PyProof.Rows hiding St

/-- a def, over data: what its parameters stand for, then its answer and what the lent ones stand for -/
abbrev Den := List En → Rs (Rv × List En)
def NoOl (as : List En) : Prop := ∀ (i : Nat) (xs : List PyData), as[i]? ≠ some (.ol xs)
def spD (K : PySem.W.Frag) (mg : Str → Option Value) (n : Nat) (den : Den) : Sp := fun vs H Q E => vs.length = n ∧ ∃ as F, Rel K as (vs.map some) F H ∧ NoOl as ∧
  Out mg E as (vs.map some) H (den as) fun r as' => ∀ v F' H', Stp K as (vs.map some) F H as' (vs.map some) F' H' → ROk as (vs.map some) H as' (vs.map some) F' H' r v → Q v H'
/-- what is left of the lent ones -/
def back : List En → Ev → List En
  | .bl _ :: as, .bl ys :: ρ => .bl ys :: back as ρ
  | a :: as, _ :: ρ => a :: back as ρ
  | as, _ => as
theorem back_len : ∀ (as : List En) (ρ : Ev), (back as ρ).length = as.length
  | [], _ => by simp [back]
  | a :: as, [] => by cases a <;> simp [back]
  | a :: as, r :: ρ => by
    have ih := back_len as ρ
    cases a <;> cases r <;> simp [back, ih]
theorem back_get : ∀ (as : List En) (ρ : Ev) (i : Nat), (back as ρ)[i]? = match as[i]?, ρ[i]? with
    | some (.bl _), some (.bl ys) => some (.bl ys)
    | x, _ => x
  | [], _, i => by simp [back]
  | a :: as, [], i => by
    have e : back (a :: as) [] = a :: as := by cases a <;> rfl
    rw [e]
    simp only [List.getElem?_nil]
    cases (a :: as)[i]? with
    | none => rfl
    | some x => cases x <;> rfl
  | a :: as, r :: ρ, 0 => by cases a <;> cases r <;> rfl
  | a :: as, r :: ρ, i + 1 => by
    have ih := back_get as ρ i
    cases a <;> cases r <;> simpa [back] using ih
def runF (n N : Nat) (f : Dn Fl) : Den := fun as => match f (as ++ List.replicate (N - n) .no) with
  | .st => .st
  | .ex e => .ex e
  | .ok (.nx, ρ') => .ok (.fz .none, back as ρ')
  | .ok (.rt r, ρ') => .ok (r, back as ρ')
  | .ok (_, _) => .st
section
variable {K : PySem.W.Frag} {as : List En} {vs : List V} {F H F' H' : Hp} {m : Nat} {ρ' : Ev} {σ' : St}
theorem rep_no {i : Nat} {e : En} (ne : e ≠ .no) (h : (as ++ List.replicate m .no)[i]? = some e) : as[i]? = some e := by
  by_cases hi : i < as.length
  · rw [List.getElem?_append_left hi] at h
    exact h
  · rw [List.getElem?_append_right (by omega), List.getElem?_replicate] at h
    split at h
    · cases h
      exact absurd rfl ne
    · cases h
theorem app_get {i : Nat} {e : En} (h : as[i]? = some e) : (as ++ List.replicate m .no)[i]? = some e := by
  have hi : i < as.length := (List.getElem?_eq_some_iff.mp h).1
  rw [List.getElem?_append_left hi]
  exact h
theorem app_own {i : Nat} (h : IsOwn (as ++ List.replicate m .no) i) : IsOwn as i := by
  rcases h with ⟨xs, h⟩ | ⟨xs, h⟩
  · exact .inl ⟨xs, rep_no (by intro z; cases z) h⟩
  · exact .inr ⟨xs, rep_no (by intro z; cases z) h⟩
theorem σ_get {l : List (Option V)} {i : Nat} {x : Option V} (h : (vs.map some)[i]? = some x) : (vs.map some ++ l)[i]? = some x := by
  have hi : i < (vs.map some).length := (List.getElem?_eq_some_iff.mp h).1
  rw [List.getElem?_append_left hi]
  exact h
theorem σ_back {l : List (Option V)} {i : Nat} (hi : i < vs.length) : (vs.map some ++ l)[i]? = (vs.map some)[i]? := by
  rw [List.getElem?_append_left (by simpa using hi)]
theorem start_rel (R : Rel K as (vs.map some) F H) : Rel K (as ++ List.replicate m .no) (vs.map some ++ List.replicate m none) F H where
  sub := R.sub
  fz := fun i d h => by
    obtain ⟨v, e, q⟩ := R.fz i d (rep_no (by intro z; cases z) h)
    exact ⟨v, σ_get e, q⟩
  ls := fun i xs h => by
    have h' : as[i]? = some (.ol xs) ∨ as[i]? = some (.bl xs) := by
      rcases h with h | h
      · exact .inl (rep_no (by intro z; cases z) h)
      · exact .inr (rep_no (by intro z; cases z) h)
    obtain ⟨p, ws, e, q⟩ := R.ls i xs h'
    exact ⟨p, ws, σ_get e, q⟩
  sc := fun i ns h => by
    obtain ⟨a, e, q⟩ := R.sc i ns (rep_no (by intro z; cases z) h)
    exact ⟨a, σ_get e, q⟩
  sep := fun i j p hi hj e1 e2 => by
    have l1 : i < as.length := by
      rcases app_own hi with ⟨xs, h⟩ | ⟨xs, h⟩ <;> exact (List.getElem?_eq_some_iff.mp h).1
    have l2 : j < as.length := by
      rcases app_own hj with ⟨xs, h⟩ | ⟨xs, h⟩ <;> exact (List.getElem?_eq_some_iff.mp h).1
    have e : as.length = vs.length := by simpa using R.ln
    rw [σ_back (by omega)] at e1
    rw [σ_back (by omega)] at e2
    exact R.sep i j p (app_own hi) (app_own hj) e1 e2
  ln := by
    have e : as.length = vs.length := by simpa using R.ln
    simp [e]
theorem start_own (R : Rel K as (vs.map some) F H) {p : Addr} (h : Own (as ++ List.replicate m .no) (vs.map some ++ List.replicate m none) p) : Own as (vs.map some) p := by
  obtain ⟨i, h1, h2⟩ := own_ex h
  have h3 := app_own h1
  have l1 : i < as.length := by
    rcases h3 with ⟨xs, h⟩ | ⟨xs, h⟩ <;> exact (List.getElem?_eq_some_iff.mp h).1
  have e : as.length = vs.length := by simpa using R.ln
  rw [σ_back (by omega)] at h2
  exact own_at h3 h2
theorem start_nol (no : NoOl as) {p : Addr} : ¬ OwnL (as ++ List.replicate m .no) (vs.map some ++ List.replicate m none) p := fun ⟨i, xs, h, _⟩ => no i xs (rep_no (by intro z; cases z) h)
/-- the body's step, seen from without -/
theorem leave (R : Rel K as (vs.map some) F H) (no : NoOl as) (S : Stp K (as ++ List.replicate m .no) (vs.map some ++ List.replicate m none) F H ρ' σ' F' H') : Stp K as (vs.map some) F H (back as ρ') (vs.map some) F' H' := by
  have eq_len : as.length = vs.length := by simpa using R.ln
  have bl : ∀ (i : Nat) (ys : List PyData), (back as ρ')[i]? = some (.bl ys) → (∃ xs, as[i]? = some (.bl xs)) ∧ ρ'[i]? = some (.bl ys) := fun i ys h => by
    rw [back_get] at h
    cases e : as[i]? with
    | none => rw [e] at h; cases h
    | some a =>
      rw [e] at h
      cases a with
      | bl xs =>
        refine ⟨⟨xs, rfl⟩, ?_⟩
        obtain ⟨⟨zs, q⟩, _⟩ := S.bk i xs (app_get e)
        rw [q] at h ⊢
        exact h
      | _ => cases h
  have ot : ∀ (i : Nat) (e : En), (∀ xs, e ≠ .bl xs) → (back as ρ')[i]? = some e → as[i]? = some e := fun i e ne h => by
    rw [back_get] at h
    cases q : as[i]? with
    | none => rw [q] at h; cases h
    | some a =>
      rw [q] at h
      cases a with
      | bl xs =>
        cases z : ρ'[i]? with
        | none => rw [z] at h; cases h; exact absurd rfl (ne xs)
        | some b =>
          rw [z] at h
          cases b <;> first
            | (cases h; exact absurd rfl (ne _))
      | _ => exact h
  have σe : ∀ (i : Nat) (xs : List PyData), as[i]? = some (.bl xs) → σ'[i]? = (vs.map some)[i]? := fun i xs h => by
    have l1 : i < as.length := (List.getElem?_eq_some_iff.mp h).1
    rw [(S.bk i xs (app_get h)).2, σ_back (by omega)]
  have nol : ∀ (i : Nat) (xs : List PyData), (back as ρ')[i]? ≠ some (.ol xs) := fun i xs h => no i xs (ot i _ (fun ys z => by cases z) h)
  have isb : ∀ (i : Nat), IsOwn (back as ρ') i → (∃ xs, as[i]? = some (.bl xs)) ∧ ∃ ys, ρ'[i]? = some (.bl ys) := fun i h => by
    rcases h with ⟨xs, h⟩ | ⟨xs, h⟩
    · exact absurd h (nol i xs)
    · obtain ⟨h1, h2⟩ := bl i xs h
      exact ⟨h1, xs, h2⟩
  refine ⟨⟨S.rel.sub, fun i d h => ?_, fun i xs h => ?_, fun i ns h => ?_, fun i j p hi hj e1 e2 => ?_, by rw [back_len]; exact R.ln⟩, S.ff, fun a o h n => ?_, fun p h => ?_, fun i xs h => ?_, fun i ys h => ?_, fun a h => ?_, back_len as ρ', S.dm⟩
  · obtain ⟨v, e, q⟩ := R.fz i d (ot i _ (fun ys z => by cases z) h)
    exact ⟨v, e, dp_mono S.ff d v q⟩
  · rcases h with h | h
    · exact absurd h (nol i xs)
    · obtain ⟨⟨zs, h1⟩, h2⟩ := bl i xs h
      obtain ⟨p, ws, e, q⟩ := S.rel.ls i xs (.inr h2)
      exact ⟨p, ws, by rw [← σe i zs h1]; exact e, q⟩
  · obtain ⟨a, e, q⟩ := R.sc i ns (ot i _ (fun ys z => by cases z) h)
    exact ⟨a, e, S.ff.seq q⟩
  · obtain ⟨⟨xs, a1⟩, ys, b1⟩ := isb i hi
    obtain ⟨⟨xs2, a2⟩, ys2, b2⟩ := isb j hj
    exact S.rel.sep i j p (.inr ⟨ys, b1⟩) (.inr ⟨ys2, b2⟩) (by rw [σe i xs a1]; exact e1) (by rw [σe j xs2 a2]; exact e2)
  · exact S.fr a o h fun z => n (start_own R z)
  · obtain ⟨i, xs, h1, _⟩ := h
    exact absurd h1 (nol i xs)
  · refine ⟨?_, rfl⟩
    obtain ⟨⟨ys, q⟩, _⟩ := S.bk i xs (app_get h)
    exact ⟨ys, by rw [back_get, h, q]⟩
  · exact (bl i ys h).1
  · rcases S.nw a h with z | z | z
    · exact .inl z
    · exact absurd z (start_nol no)
    · exact .inr (.inr z)
theorem leave_rv (R : Rel K as (vs.map some) F H) (no : NoOl as) (S : Stp K (as ++ List.replicate m .no) (vs.map some ++ List.replicate m none) F H ρ' σ' F' H') {r : Rv} {v : V}
    (h : ROk (as ++ List.replicate m .no) (vs.map some ++ List.replicate m none) H ρ' σ' F' H' r v) : ROk as (vs.map some) H (back as ρ') (vs.map some) F' H' r v := by
  cases r with
  | fz d => exact h
  | ol xs =>
    obtain ⟨p, ws, h1, h2, h3, h4, h5, h6⟩ := h
    have hp : H p = none := by
      rcases h2 with z | z
      · exact absurd z (start_nol no)
      · exact z
    refine ⟨p, ws, h1, .inr hp, h3, h4, h5, fun z => ?_⟩
    have L := leave R no S
    rcases z with z | z
    · rcases L.oo p z with ⟨i, xs, q, _⟩ | _
      · exact no i xs q
      · obtain ⟨i, xs, q, _⟩ := z
        rw [back_get] at q
        cases e : as[i]? with
        | none => rw [e] at q; cases q
        | some a =>
          rw [e] at q
          cases a with
          | bl ys =>
            cases e2 : ρ'[i]? with
            | none => rw [e2] at q; cases q
            | some b => rw [e2] at q; cases b <;> cases q
          | ol ys => exact no i ys e
          | _ => cases q
    · obtain ⟨⟨us, q⟩, _⟩ := R.own (.inr (L.ob z))
      rw [hp] at q
      cases q
end

/-! ### the rule for a def -/
section
variable {P : Program} {w : World} {K : PySem.W.Frag} {mg : Str → Option Value} {base : Heap}
theorem ok_def {x qual : Str} {st : Stmt} {f : Addr} {fd : FuncData} {N ps : List Str} {k : Nat} {body : Dn Fl} (Fn : Fun K x qual st f fd) (S : FnScope N ps (defScope st))
    (hb : ∀ (cdv : Value) (A : Around) (outer : List Env) (s : Shared) (H : Hp) (E : XK), Room k (A.deeper (envOfC qual (defScope st) s.heap.objs.size f cdv)) →
      PSs (cxOf (L2.CX P w) P w K mg base N qual (defScope st) f cdv A outer s H E) (defBody st) (tS K mg E body)) :
    FnOk P w K mg base (L2.CX P w) (k + 1) f fd ps (spD K mg ps.length (runF ps.length N.length body)) := by
  refine Fn.okX S (fun vs H Q E h => h.1) fun cdv A outer s H vs Q E hr h => ?_
  obtain ⟨hl, as, F, R, no, o⟩ := h
  have hm : as.length = vs.length := by simpa using R.ln
  refine ⟨_, hb cdv A outer s H E hr, ?_⟩
  show tS K mg E body _ (L2.start N vs) H
  have es : L2.start N vs = vs.map some ++ List.replicate (N.length - ps.length) none := by
    unfold L2.start
    rw [hl]
  rw [es]
  refine ⟨as ++ List.replicate (N.length - ps.length) .no, F, start_rel R, ?_⟩
  unfold runF at o
  cases e : body (as ++ List.replicate (N.length - ps.length) .no) with
  | st => rw [e] at o; exact o
  | ex x =>
    rw [e] at o
    exact fun cls d H' xp => o cls d H' ⟨xp.cl, fun a u h n => xp.fr a u h fun z => n (start_own R z), xp.dm, xp.ar⟩
  | ok r =>
    obtain ⟨fl, ρ'⟩ := r
    rw [e] at o
    cases fl with
    | nx => exact fun σ' F' H' S' => o .non F' H' (leave R no S') .non
    | rt r => exact fun σ' v F' H' S' ro => o v F' H' (leave R no S') (leave_rv R no S' ro)
    | bk => exact (show False from o).elim
    | ct => exact (show False from o).elim
/-- nothing is promised -/
theorem ok_none {f : Addr} {fd : FuncData} {ps : List Str} {k n : Nat} : FnOk P w K mg base (L2.CX P w) k f fd ps (spD K mg n fun _ => .st) :=
  ⟨fun vs H Q E ⟨_, as, F, R, no, o⟩ => o.elim, fun A outer s H args us vs Q E _ _ _ _ ⟨_, as, F, R, no, o⟩ => o.elim⟩
end
/-- a def as its callers know it -/
structure Cal (P : Program) (w : World) (K : PySem.W.Frag) (mg : Str → Option Value) (base : Heap) (k : Nat) (x : Str) (n : Nat) (den : Den) : Prop where
  ex : ∃ f fd ps, FnOk P w K mg base (L2.CX P w) k f fd ps (spD K mg n den) ∧ mg x = some (.ref f) ∧ PySem.W.keepIn K (.ref f) = true ∧ Binds K fd ps []
theorem Cal.mono {P : Program} {w : World} {K : PySem.W.Frag} {mg : Str → Option Value} {base : Heap} {j k : Nat} {x : Str} {n : Nat} {den : Den} (c : Cal P w K mg base j x n den) (h : j ≤ k) : Cal P w K mg base k x n den := by
  obtain ⟨f, fd, ps, F, r⟩ := c.ex
  exact ⟨f, fd, ps, F.mono h, r⟩

/-! ### a call -/
def enSl : Option En → En
  | some (.ol xs) => .bl xs
  | some (.bl xs) => .bl xs
  | _ => .no
theorem enSl_bl {o : Option En} {xs : List PyData} (h : enSl o = .bl xs) : o = some (.ol xs) ∨ o = some (.bl xs) := by
  cases o with
  | none => cases h
  | some e =>
    cases e with
    | ol ys => cases h; exact .inl rfl
    | bl ys => cases h; exact .inr rfl
    | _ => cases h
theorem enSl_bln (o : Option En) : (∃ xs, enSl o = .bl xs) ∨ enSl o = .no := by
  cases o with
  | none => exact .inr rfl
  | some e =>
    cases e with
    | ol ys => exact .inl ⟨_, rfl⟩
    | bl ys => exact .inl ⟨_, rfl⟩
    | _ => exact .inr rfl
def Ar.en (ρ : Ev) : Ar → En
  | .fz d => .fz d
  | .tp xs => .bl xs
  | .sc ns => .sc ns
  | .sl i => enSl ρ[i]?
def Ar.isTp : Ar → Bool
  | .tp _ => true
  | _ => false
/-- the one place that is lent: none, one, or too many -/
def lent : List Ar → Option (Option (Nat × Nat))
  | [] => some none
  | .sl i :: as => match lent as with
    | some none => some (some (0, i))
    | _ => none
  | _ :: as => match lent as with
    | some none => some none
    | some (some (k, i)) => some (some (k + 1, i))
    | none => none
theorem lent_none : ∀ {as : List Ar}, lent as = some none → ∀ (k i : Nat), as[k]? ≠ some (.sl i)
  | [], _, k, i => by simp
  | a :: as, h, k, i => by
    have hl : lent as = some none ∧ (∀ j, a ≠ .sl j) := by
      cases a <;> simp only [lent] at h <;> (split at h <;> simp_all)
    cases k with
    | zero =>
      intro z
      simp at z
      exact hl.2 i z
    | succ k =>
      intro z
      exact lent_none hl.1 k i (by simpa using z)
theorem lent_some : ∀ {as : List Ar} {k i : Nat}, lent as = some (some (k, i)) → as[k]? = some (.sl i) ∧ ∀ (l j : Nat), as[l]? = some (.sl j) → l = k ∧ j = i
  | [], _, _, h => by simp [lent] at h
  | a :: as, k, i, h => by
    by_cases hs : ∃ j, a = .sl j
    · obtain ⟨j, rfl⟩ := hs
      simp only [lent] at h
      split at h
      · rename_i q
        cases h
        refine ⟨rfl, fun l j z => ?_⟩
        cases l with
        | zero =>
          simp at z
          exact ⟨rfl, z.symm⟩
        | succ l => exact absurd (by simpa using z) (lent_none q l j)
      · cases h
    · have h2 : ∃ k', k = k' + 1 ∧ lent as = some (some (k', i)) := by
        cases a with
        | sl j => exact absurd ⟨j, rfl⟩ hs
        | _ =>
          simp only [lent] at h
          split at h
          · cases h
          · rename_i q
            cases h
            exact ⟨_, rfl, q⟩
          · cases h
      obtain ⟨k', rfl, q⟩ := h2
      obtain ⟨q1, q2⟩ := lent_some q
      refine ⟨by simpa using q1, fun l j z => ?_⟩
      cases l with
      | zero =>
        simp at z
        exact absurd ⟨j, z⟩ hs
      | succ l =>
        obtain ⟨e1, e2⟩ := q2 l j (by simpa using z)
        exact ⟨by rw [e1], e2⟩
def reKind : Option En → List PyData → En
  | some (.bl _), ys => .bl ys
  | _, ys => .ol ys
def putAt (ρ : Ev) (i : Nat) : Option En → Ev
  | some (.bl ys) => ρ.set i (reKind ρ[i]? ys)
  | _ => ρ
def putBack (ρ : Ev) (es : List En) : Option (Nat × Nat) → Ev
  | none => ρ
  | some (k, i) => putAt ρ i es[k]?
theorem putAt_not {ρ : Ev} {i : Nat} {o : Option En} (h : ¬ ∃ ys, o = some (.bl ys)) : putAt ρ i o = ρ := by
  cases o with
  | none => rfl
  | some e =>
    cases e with
    | bl ys => exact absurd ⟨ys, rfl⟩ h
    | _ => rfl
theorem putAt_len (ρ : Ev) (i : Nat) (o : Option En) : (putAt ρ i o).length = ρ.length := by
  cases o with
  | none => rfl
  | some e => cases e <;> first | rfl | exact List.length_set ..
def apply (den : Den) (as : List Ar) : Dn Rv := fun ρ => match lent as with
  | none => .st
  | some o => match den (as.map (Ar.en ρ)) with
    | .st => .st
    | .ex e => if as.any Ar.isTp then .st else .ex e
    | .ok (r, es) => .ok (r, putBack ρ es o)
section
variable {K : PySem.W.Frag} {ρ ρ1 : Ev} {σ : St} {F H F1 H1 F2 H2 : Hp} {as : List Ar} {vs : List V}
theorem en_bl {k : Nat} {xs : List PyData} (h : (as.map (Ar.en ρ1))[k]? = some (.bl xs)) : as[k]? = some (.tp xs) ∨ ∃ i, as[k]? = some (.sl i) ∧ (ρ1[i]? = some (.ol xs) ∨ ρ1[i]? = some (.bl xs)) := by
  rw [List.getElem?_map] at h
  cases e : as[k]? with
  | none => rw [e] at h; cases h
  | some a =>
    rw [e] at h
    have h' : Ar.en ρ1 a = .bl xs := Option.some.inj h
    cases a with
    | fz d => cases h'
    | tp ys => cases h'; exact .inl rfl
    | sc ns => cases h'
    | sl i =>
      exact .inr ⟨i, rfl, enSl_bl h'⟩
theorem en_nol : NoOl (as.map (Ar.en ρ1)) := fun k xs h => by
  rw [List.getElem?_map] at h
  cases e : as[k]? with
  | none => rw [e] at h; cases h
  | some a =>
    rw [e] at h
    have h' : Ar.en ρ1 a = .ol xs := Option.some.inj h
    cases a with
    | sl i =>
      have h2 : enSl ρ1[i]? = _ := h'
      rcases enSl_bln ρ1[i]? with ⟨zs, z⟩ | z <;> (rw [z] at h2; cases h2)
    | _ => cases h'
theorem en_fz {k : Nat} {d : PyData} (h : (as.map (Ar.en ρ1))[k]? = some (.fz d)) : as[k]? = some (.fz d) := by
  rw [List.getElem?_map] at h
  cases e : as[k]? with
  | none => rw [e] at h; cases h
  | some a =>
    rw [e] at h
    have h' : Ar.en ρ1 a = .fz d := Option.some.inj h
    cases a with
    | sl i =>
      have h2 : enSl ρ1[i]? = _ := h'
      rcases enSl_bln ρ1[i]? with ⟨zs, z⟩ | z <;> (rw [z] at h2; cases h2)
    | fz e => cases h'; rfl
    | _ => cases h'
theorem en_sc {k : Nat} {d : List Int} (h : (as.map (Ar.en ρ1))[k]? = some (.sc d)) : as[k]? = some (.sc d) := by
  rw [List.getElem?_map] at h
  cases e : as[k]? with
  | none => rw [e] at h; cases h
  | some a =>
    rw [e] at h
    have h' : Ar.en ρ1 a = .sc d := Option.some.inj h
    cases a with
    | sl i =>
      have h2 : enSl ρ1[i]? = _ := h'
      rcases enSl_bln ρ1[i]? with ⟨zs, z⟩ | z <;> (rw [z] at h2; cases h2)
    | sc e => cases h'; rfl
    | _ => cases h'
theorem vs_some {k : Nat} {v : V} : (vs.map some)[k]? = some (some v) ↔ vs[k]? = some v := by
  rw [List.getElem?_map]
  cases vs[k]? <;> simp
/-- who is a parameter's own list -/
theorem arg_own (R1 : Rel K ρ1 σ F1 H1) (A : AOk K ρ σ H ρ1 F1 H1 as vs) {p : Addr} {k : Nat} (hk : IsOwn (as.map (Ar.en ρ1)) k) (e : vs[k]? = some (.ref p)) :
    (∃ i, as[k]? = some (.sl i) ∧ IsOwn ρ1 i ∧ σ[i]? = some (some (.ref p))) ∨ ((∃ xs, as[k]? = some (.tp xs)) ∧ (OwnL ρ σ p ∨ H p = none) ∧ ¬ Own ρ1 σ p) := by
  rcases hk with ⟨xs, h⟩ | ⟨xs, h⟩
  · exact absurd h (en_nol k xs)
  · rcases en_bl h with h | ⟨i, h1, h2⟩
    · obtain ⟨q, ws, a1, a2, a3, a4, a5, a6⟩ := A.tp k xs h
      rw [e] at a1
      cases a1
      exact .inr ⟨⟨xs, h⟩, a2, a6⟩
    · obtain ⟨v, b1, b2⟩ := A.sl k i h1
      rw [e] at b1
      cases b1
      refine .inl ⟨i, h1, ?_, b2⟩
      rcases h2 with h2 | h2
      · exact .inl ⟨xs, h2⟩
      · exact .inr ⟨xs, h2⟩
theorem arg_rel (R1 : Rel K ρ1 σ F1 H1) (A : AOk K ρ σ H ρ1 F1 H1 as vs) {o : Option (Nat × Nat)} (hl : lent as = some o) : Rel K (as.map (Ar.en ρ1)) (vs.map some) F1 H1 where
  sub := R1.sub
  fz := fun k d h => by
    obtain ⟨v, e, q⟩ := A.fz k d (en_fz h)
    exact ⟨v, vs_some.mpr e, q⟩
  ls := fun k xs h => by
    rcases h with h | h
    · exact absurd h (en_nol k xs)
    · rcases en_bl h with h | ⟨i, h1, h2⟩
      · obtain ⟨q, ws, a1, a2, a3, a4, a5, a6⟩ := A.tp k xs h
        exact ⟨q, ws, vs_some.mpr a1, a3, a4, a5⟩
      · obtain ⟨v, b1, b2⟩ := A.sl k i h1
        obtain ⟨p, ws, c1, c2⟩ := R1.ls i xs h2
        rw [b2] at c1
        cases c1
        exact ⟨p, ws, vs_some.mpr b1, c2⟩
  sc := fun k ns h => by
    obtain ⟨a, e, q⟩ := A.sc k ns (en_sc h)
    exact ⟨a, vs_some.mpr e, q⟩
  sep := fun k l p hk hl2 e1 e2 => by
    rw [vs_some] at e1 e2
    rcases arg_own R1 A hk e1 with ⟨i, a1, a2, a3⟩ | ⟨⟨xs, a1⟩, _, a3⟩
    · rcases arg_own R1 A hl2 e2 with ⟨j, b1, b2, b3⟩ | ⟨_, _, b3⟩
      · cases o with
        | none => exact absurd a1 (lent_none hl k i)
        | some q =>
          obtain ⟨_, u⟩ := lent_some (k := q.1) (i := q.2) hl
          rw [(u k i a1).1, (u l j b1).1]
      · exact absurd (own_at a2 a3) b3
    · rcases arg_own R1 A hl2 e2 with ⟨j, b1, b2, b3⟩ | ⟨⟨ys, b1⟩, _, b3⟩
      · exact absurd (own_at b2 b3) a3
      · exact A.ap k l xs ys p a1 b1 e1 e2
  ln := by simp [A.ln]
theorem call_stp (S1 : Stp K ρ σ F H ρ1 σ F1 H1) (A : AOk K ρ σ H ρ1 F1 H1 as vs) {o : Option (Nat × Nat)} (hl : lent as = some o) {es : List En}
    (S2 : Stp K (as.map (Ar.en ρ1)) (vs.map some) F1 H1 es (vs.map some) F2 H2) : Stp K ρ σ F H (putBack ρ1 es o) σ F2 H2 ∧ ∀ p, Own (putBack ρ1 es o) σ p → Own ρ1 σ p := by
  have R1 := S1.rel
  have frame : ∀ a u, H a = some u → ¬ Own ρ σ a → ¬ Own (as.map (Ar.en ρ1)) (vs.map some) a := fun a u h n z => by
    obtain ⟨k, z1, z2⟩ := own_ex z
    rw [vs_some] at z2
    rcases arg_own R1 A z1 z2 with ⟨i, a1, a2, a3⟩ | ⟨_, a2, _⟩
    · exact S1.nob h n (own_at a2 a3)
    · rcases a2 with a2 | a2
      · exact n (.inl a2)
      · rw [h] at a2
        cases a2
  -- the lists that were not lent
  have other : ∀ (j : Nat) (q : Addr) (ws : List V), IsOwn ρ1 j → σ[j]? = some (some (.ref q)) → (∀ k i, o = some (k, i) → j ≠ i) → H1 q = some (.lst ws) → F1 q = none → H2 q = some (.lst ws) ∧ F2 q = none := fun j q ws hj ej hn h2 h3 => by
    have nq : ¬ Own (as.map (Ar.en ρ1)) (vs.map some) q := fun z => by
      obtain ⟨k, z1, z2⟩ := own_ex z
      rw [vs_some] at z2
      rcases arg_own R1 A z1 z2 with ⟨i, a1, a2, a3⟩ | ⟨_, _, a3⟩
      · have e := R1.sep j i q hj a2 ej a3
        cases o with
        | none => exact lent_none hl k i a1
        | some u =>
          obtain ⟨u1, u2⟩ := u
          obtain ⟨_, w⟩ := lent_some hl
          exact hn u1 u2 rfl (by rw [e, (w k i a1).2])
      · exact a3 (own_at hj ej)
    refine ⟨S2.fr q _ h2 nq, ?_⟩
    cases e : F2 q with
    | none => rfl
    | some y =>
      rcases S2.nw q (by rw [e]; intro z; cases z) with z | ⟨i, xs, z, _⟩ | z
      · exact absurd h3 z
      · exact absurd z (en_nol i xs)
      · rw [h2] at z
        cases z
  -- kinds stay
  have kinds : ∀ (j : Nat), (∀ d, (putBack ρ1 es o)[j]? = some (.fz d) → ρ1[j]? = some (.fz d)) ∧ (∀ ns, (putBack ρ1 es o)[j]? = some (.sc ns) → ρ1[j]? = some (.sc ns)) ∧ (∀ xs, (putBack ρ1 es o)[j]? = some (.ol xs) → ∃ ys, ρ1[j]? = some (.ol ys)) ∧
      (∀ xs, (putBack ρ1 es o)[j]? = some (.bl xs) → ∃ ys, ρ1[j]? = some (.bl ys)) ∧ (∀ xs, ρ1[j]? = some (.bl xs) → ∃ ys, (putBack ρ1 es o)[j]? = some (.bl ys)) ∧
      (∀ xs, ((putBack ρ1 es o)[j]? = some (.ol xs) ∨ (putBack ρ1 es o)[j]? = some (.bl xs)) → (∃ k i, o = some (k, i) ∧ j = i ∧ es[k]? = some (.bl xs)) ∨ (∀ k i, o = some (k, i) → j ≠ i) ∧ (ρ1[j]? = some (.ol xs) ∨ ρ1[j]? = some (.bl xs))) := fun j => by
    cases o with
    | none => exact ⟨fun d h => h, fun d h => h, fun xs h => ⟨xs, h⟩, fun xs h => ⟨xs, h⟩, fun xs h => ⟨xs, h⟩, fun xs h => .inr ⟨fun k i z => (by cases z), h⟩⟩
    | some u =>
      obtain ⟨k, i⟩ := u
      obtain ⟨l1, l2⟩ := lent_some hl
      -- what stands at i
      obtain ⟨v, av, bv⟩ := A.sl k i l1
      by_cases hb : ∃ ys, es[k]? = some (.bl ys)
      · obtain ⟨ys, hy⟩ := hb
        have e : putBack ρ1 es (some (k, i)) = ρ1.set i (reKind ρ1[i]? ys) := by
          show putAt ρ1 i es[k]? = _
          rw [hy]
          rfl
        obtain ⟨xs0, hx0⟩ := S2.kb k ys hy
        have hi : ρ1[i]? = some (.ol xs0) ∨ ρ1[i]? = some (.bl xs0) := by
          rcases en_bl hx0 with z | ⟨i', z1, z2⟩
          · rw [l1] at z
            cases z
          · rw [l1] at z1
            cases z1
            exact z2
        have hlt : i < ρ1.length := by
          rcases hi with hi | hi <;> exact (List.getElem?_eq_some_iff.mp hi).1
        rw [e]
        by_cases hj : j = i
        · subst hj
          rw [List.getElem?_set_self hlt]
          rcases hi with hi | hi
          · rw [hi]
            exact ⟨fun d h => (by cases h), fun d h => (by cases h), fun xs h => ⟨xs0, rfl⟩, fun xs h => (by cases h), fun xs h => (by cases h), fun xs h => .inl ⟨k, j, rfl, rfl, by
              rcases h with h | h
              · cases h; exact hy
              · cases h⟩⟩
          · rw [hi]
            exact ⟨fun d h => (by cases h), fun d h => (by cases h), fun xs h => (by cases h), fun xs h => ⟨xs0, rfl⟩, fun xs h => ⟨ys, rfl⟩, fun xs h => .inl ⟨k, j, rfl, rfl, by
              rcases h with h | h
              · cases h
              · cases h; exact hy⟩⟩
        · rw [List.getElem?_set_ne (Ne.symm hj)]
          exact ⟨fun d h => h, fun d h => h, fun xs h => ⟨xs, h⟩, fun xs h => ⟨xs, h⟩, fun xs h => ⟨xs, h⟩, fun xs h => .inr ⟨fun k' i' z => (by cases z; exact hj), h⟩⟩
      · have e : putBack ρ1 es (some (k, i)) = ρ1 := putAt_not hb
        rw [e]
        refine ⟨fun d h => h, fun d h => h, fun xs h => ⟨xs, h⟩, fun xs h => ⟨xs, h⟩, fun xs h => ⟨xs, h⟩, fun xs h => ?_⟩
        refine .inr ⟨fun k' i' z hj => ?_, h⟩
        cases z
        subst hj
        -- it was lent, so it stands behind
        have hx0 : (as.map (Ar.en ρ1))[k]? = some (.bl xs) := by
          rw [List.getElem?_map, l1]
          show some (enSl ρ1[j]?) = _
          rcases h with h | h <;> (rw [h]; rfl)
        obtain ⟨⟨ys, hy⟩, _⟩ := S2.bk k xs hx0
        exact hb ⟨ys, hy⟩
  have own2 : ∀ (j : Nat), IsOwn (putBack ρ1 es o) j → IsOwn ρ1 j := fun j h => by
    rcases h with ⟨xs, h⟩ | ⟨xs, h⟩
    · exact .inl ((kinds j).2.2.1 xs h)
    · exact .inr ((kinds j).2.2.2.1 xs h)
  refine ⟨⟨⟨S2.rel.sub, fun j d h => ?_, fun j xs h => ?_, fun j ns h => ?_, fun i j p hi hj => R1.sep i j p (own2 i hi) (own2 j hj), ?_⟩, S1.ff.trans S2.ff, fun a u h n => S2.fr a u (S1.fr a u h n) (frame a u h n), fun p h => ?_, fun j xs h => ?_, fun j ys h => ?_, fun a h => ?_, ?_, fun a h => S1.dm a (S2.dm a h)⟩, fun p h => ?_⟩
  · obtain ⟨v, e, q⟩ := R1.fz j d ((kinds j).1 d h)
    exact ⟨v, e, dp_mono S2.ff d v q⟩
  · rcases (kinds j).2.2.2.2.2 xs h with ⟨k, i, ho, rfl, hy⟩ | ⟨hn, h⟩
    · subst ho
      obtain ⟨l1, l2⟩ := lent_some hl
      obtain ⟨v, av, bv⟩ := A.sl k j l1
      obtain ⟨p, ws, c1, c2⟩ := S2.rel.ls k xs (.inr hy)
      rw [vs_some, av] at c1
      cases c1
      exact ⟨p, ws, bv, c2⟩
    · obtain ⟨p, ws, c1, c2, c3, c4⟩ := R1.ls j xs h
      have hj : IsOwn ρ1 j := by
        rcases h with h | h
        · exact .inl ⟨xs, h⟩
        · exact .inr ⟨xs, h⟩
      obtain ⟨d1, d2⟩ := other j p ws hj c1 hn c2 c3
      exact ⟨p, ws, c1, d1, d2, dps_mono S2.ff xs ws c4⟩
  · obtain ⟨a, e, q⟩ := R1.sc j ns ((kinds j).2.1 ns h)
    exact ⟨a, e, S2.ff.seq q⟩
  · rw [← R1.ln]
    cases o with
    | none => rfl
    | some u =>
      obtain ⟨k, i⟩ := u
      exact putAt_len ρ1 i _
  · obtain ⟨j, xs, h1, h2⟩ := h
    obtain ⟨ys, h3⟩ := (kinds j).2.2.1 xs h1
    exact S1.oo p ⟨j, ys, h3, h2⟩
  · obtain ⟨⟨ys, h1⟩, h2⟩ := S1.bk j xs h
    exact ⟨(kinds j).2.2.2.2.1 ys h1, h2⟩
  · obtain ⟨zs, h1⟩ := (kinds j).2.2.2.1 ys h
    exact S1.kb j zs h1
  · rcases S2.nw a h with z | ⟨i, xs, z, _⟩ | z
    · exact S1.nw a z
    · exact absurd z (en_nol i xs)
    · exact .inr (.inr (S1.dm a z))
  · rw [← S1.ln]
    cases o with
    | none => rfl
    | some u =>
      obtain ⟨k, i⟩ := u
      exact putAt_len ρ1 i _
  · obtain ⟨j, h1, h2⟩ := own_ex h
    exact own_at (own2 j h1) h2
end
def dFn (den : Den) (f : Dn (List Ar)) : Dn Rv := bnd f fun as => apply den as
theorem spD_call {K : PySem.W.Frag} {mg : Str → Option Value} {E : XK} {n : Nat} {den : Den} {f : Dn (List Ar)} {sp : Sp} (hsp : ∀ vs H Q E, spD K mg n den vs H Q E → sp vs H Q E) (hn : ∀ ρ as ρ', f ρ = .ok (as, ρ') → as.length = n) (σ : St) (H : Hp) (Q : VK)
    (h : tE K mg E (dFn den f) σ H Q) : tAr K mg E f σ H fun vs H1 => sp vs H1 Q E := by
  obtain ⟨ρ, F, R, q⟩ := h
  have hlen : ∀ as ρ', f ρ = .ok (as, ρ') → as.length = n := fun as ρ' => hn ρ as ρ'
  have q' := out_bnd (K := K) (F := F) q
  refine ⟨ρ, F, R, ?_⟩
  cases ef : f ρ with
  | st => rw [ef] at q'; exact q'
  | ex e => rw [ef] at q'; exact q'
  | ok r =>
    obtain ⟨as, ρ1⟩ := r
    rw [ef] at q'
    have k : ∀ σ1 F1 H1, Stp K ρ σ F H ρ1 σ1 F1 H1 → Out mg E ρ1 σ1 H1 (apply den as ρ1) _ := q'
    intro vs F1 H1 S1 A
    have k2 := k σ F1 H1 S1
    unfold apply at k2
    cases hl : lent as with
    | none => rw [hl] at k2; exact (show False from k2).elim
    | some o =>
      rw [hl] at k2
      have Ra := arg_rel S1.rel A hl
      refine hsp _ _ _ _ ⟨by rw [A.ln]; exact hlen as ρ1 ef, as.map (Ar.en ρ1), F1, Ra, en_nol, ?_⟩
      cases hd : den (as.map (Ar.en ρ1)) with
      | st => rw [hd] at k2; exact k2
      | ex e =>
        rw [hd] at k2
        intro cls d H' xp
        cases ht : as.any Ar.isTp with
        | true =>
          simp only [ht] at k2
          exact (show False from k2).elim
        | false =>
        simp only [ht] at k2
        refine k2 cls d H' ⟨xp.cl, fun a u h nn => xp.fr a u h fun z => ?_, xp.dm, xp.ar⟩
        obtain ⟨kk, z1, z2⟩ := own_ex z
        rw [vs_some] at z2
        rcases arg_own S1.rel A z1 z2 with ⟨i, a1, a2, a3⟩ | ⟨a1, a2, a3⟩
        · exact nn (own_at a2 a3)
        · obtain ⟨xs, b⟩ := a1
          rw [List.any_eq_false] at ht
          exact ht _ (List.mem_of_getElem? b) rfl
      | ok r =>
        obtain ⟨rv, es⟩ := r
        rw [hd] at k2
        intro v F2 H2 S2 ro
        obtain ⟨S3, own3⟩ := call_stp S1 A hl S2
        refine k2 v F2 H2 S3 ?_
        cases rv with
        | fz d => exact ro
        | ol xs =>
          obtain ⟨p, ws, h1, h2, h3, h4, h5, h6⟩ := ro
          have hp1 : H1 p = none := by
            rcases h2 with ⟨i, ys, z, _⟩ | z
            · exact absurd z (en_nol i ys)
            · exact z
          refine ⟨p, ws, h1, .inr (S1.dm p hp1), h3, h4, h5, fun z => ?_⟩
          obtain ⟨⟨us, e⟩, _⟩ := S1.rel.own (own3 p z)
          rw [hp1] at e
          cases e
end Gx

/-! G6: loops and comprehensions. -/
namespace Gx
open PySem PySem.Spec L2
open PyProof.Rows hiding St

theorem Out.later {α : Type} {K : PySem.W.Frag} {mg : Str → Option Value} {E : XK} {ρ ρ1 : Ev} {σ σ1 : St} {F F1 H H1 : Hp} {m : Rs (α × Ev)} {P : α → Ev → Prop} (S : Stp K ρ σ F H ρ1 σ1 F1 H1) (h : Out mg E ρ σ H m P) : Out mg E ρ1 σ1 H1 m P := by
  cases m with
  | st => exact h
  | ex e => exact fun cls d H' xp => h cls d H' (xp.after S)
  | ok a => exact h
/-- what is walked: the items ds, safe over Fs -/
structure IOk (Fs : Hp) (J : It) (ds : List PyData) : Prop where
  go : ∀ (i : Nat) (H : Hp), i < ds.length → Same Fs H → J.go i H
  stop : ∀ (H : Hp), Same Fs H → J.stop ds.length H
  yld : ∀ (i : Nat) (H : Hp) (x : V) (H' F : Hp), i < ds.length → Same Fs F → Same F H → J.yld i H x H' → ∃ d F', ds[i]? = some d ∧ Grow F H F' H' ∧ Dq F' x d
def tI (K : PySem.W.Frag) (mg : Str → Option Value) (E : XK) (f : Dn (List PyData)) : TI := fun σ H R => ∃ ρ F, Rel K ρ σ F H ∧ Out mg E ρ σ H (f ρ) fun ds ρ' => ∀ J F' H', Stp K ρ σ F H ρ' σ F' H' → IOk F' J ds → R J H'
theorem drop_cons {α : Type} {l : List α} {i : Nat} {d : α} (h : l[i]? = some d) : l.drop i = d :: l.drop (i + 1) := by
  obtain ⟨hi, e⟩ := List.getElem?_eq_some_iff.mp h
  rw [List.drop_eq_getElem_cons hi, e]

/-! ### for -/
def loopF (h : PyData → Ev → Option Ev) (fb : Dn Fl) : List PyData → Dn Fl
  | [], ρ => .ok (.nx, ρ)
  | d :: ds, ρ => match h d ρ with
    | none => .st
    | some ρ1 => match fb ρ1 with
      | .st => .st
      | .ex e => .ex e
      | .ok (.nx, ρ2) => loopF h fb ds ρ2
      | .ok (.ct, ρ2) => loopF h fb ds ρ2
      | .ok (.bk, ρ2) => .ok (.nx, ρ2)
      | .ok (.rt r, ρ2) => .ok (.rt r, ρ2)
def sFor (fi : Dn (List PyData)) (h : PyData → Ev → Option Ev) (fb : Dn Fl) : Dn Fl := bnd fi fun ds => loopF h fb ds
section
variable {X : Cx} {E : XK} {pos : Pos}
theorem gs_for {tg iter : Expr} {body : List Stmt} {fi : Dn (List PyData)} {ts : List Nat} {h : PyData → Ev → Option Ev} {fb : Dn Fl} (hp : PassesOwn (model X.prog X.w) X.A X.env X.xe) (hc : X.calm = true) (hi : PI X tg iter (tI X.K X.mg E fi)) (hg : PG X tg (tGd X.K ts h)) (hb : PSs X body (tS X.K X.mg E fb))
    (hs : ∀ x, foldedSetIterable iter X.env x = pure x := by intro _; rfl) : PS X (.For tg iter body [] pos) (tS X.K X.mg E (sFor fi h fb)) :=
  ps_wk (ps_for hp hc hi hg hb hs) fun D σ H ⟨ρ, F, R, q⟩ => ⟨ρ, F, R, (out_bnd (K := X.K) (F := F) q).mono fun ds ρ1 k J F1 H1 S1 I => by
    refine ⟨fun i m σi Hi => m = ds.length - i ∧ i ≤ ds.length ∧ ∃ ρi Fi, Stp X.K ρ σ F H ρi σi Fi Hi ∧ Same F1 Fi ∧ Out X.mg E ρi σi Hi (loopF h fb (ds.drop i) ρi) (fun fl ρ' => match fl with
        | .nx => ∀ σ' F' H', Stp X.K ρ σ F H ρ' σ' F' H' → D.nx σ' H'
        | .bk => ∀ σ' F' H', Stp X.K ρ σ F H ρ' σ' F' H' → D.bk σ' H'
        | .ct => ∀ σ' F' H', Stp X.K ρ σ F H ρ' σ' F' H' → D.ct σ' H'
        | .rt r => ∀ σ' v F' H', Stp X.K ρ σ F H ρ' σ' F' H' → ROk ρ σ H ρ' σ' F' H' r v → D.rt v H'),
      ⟨ds.length, by simp, Nat.zero_le _, ρ1, F1, S1, Same.refl F1, k σ F1 H1 S1⟩, ?_⟩
    rintro i m σi Hi ⟨rfl, hi, ρi, Fi, Si, sm, o⟩
    by_cases hlt : i < ds.length
    · refine .inr ⟨I.go i Hi hlt (sm.trans Si.rel.sub), fun σ' H' => i + 1 ≤ ds.length ∧ ∃ ρ' F', Stp X.K ρ σ F H ρ' σ' F' H' ∧ Same F1 F' ∧ Out X.mg E ρ' σ' H' (loopF h fb (ds.drop (i + 1)) ρ') _, fun σ' H' ⟨hn, ρ', F', n1, n2, n3⟩ => ⟨ds.length - (i + 1), by omega, rfl, hn, ρ', F', n1, n2, n3⟩, fun x H' y => ?_⟩
      obtain ⟨d, F2, hd, gr, dq⟩ := I.yld i Hi x H' Fi hlt sm Si.rel.sub y
      have Sg := gr.stp Si.rel
      rw [drop_cons hd] at o
      unfold loopF at o
      cases e : h d ρi with
      | none => rw [e] at o; exact (show False from o).elim
      | some ρ2 =>
        rw [e] at o
        refine ⟨d, ρi, F2, ρ2, Sg.rel, dq, e, fun σ2 S2 _ => ⟨ρ2, F2, S2.rel, ?_⟩⟩
        have Sc := Sg.trans S2
        cases e2 : fb ρ2 with
        | st => simp only [e2] at o; exact (show False from o).elim
        | ex ex => simp only [e2] at o; exact fun cls dd H'' xp => o cls dd H'' (xp.after Sc)
        | ok r =>
          obtain ⟨fl, ρ3⟩ := r
          simp only [e2] at o
          cases fl with
          | nx => exact fun σ' F' H'' S' => ⟨hlt, ρ3, F', (Si.trans Sc).trans S', ((sm.trans gr.ff).trans S2.ff).trans S'.ff, o.later (Sc.trans S')⟩
          | ct => exact fun σ' F' H'' S' => ⟨hlt, ρ3, F', (Si.trans Sc).trans S', ((sm.trans gr.ff).trans S2.ff).trans S'.ff, o.later (Sc.trans S')⟩
          | bk =>
            have o' : ∀ σ' F' H', Stp X.K ρ σ F H ρ3 σ' F' H' → D.nx σ' H' := o
            exact fun σ' F' H'' S' => o' σ' F' H'' ((Si.trans Sc).trans S')
          | rt r =>
            have o' : ∀ σ' v F' H', Stp X.K ρ σ F H ρ3 σ' F' H' → ROk ρ σ H ρ3 σ' F' H' r v → D.rt v H' := o
            exact fun σ' v F' H'' S' ro => o' σ' v F' H'' ((Si.trans Sc).trans S') (ro.before (Si.trans Sc))
    · have e : i = ds.length := by omega
      subst e
      rw [List.drop_length] at o
      have o' : ∀ σ' F' H', Stp X.K ρ σ F H ρi σ' F' H' → D.nx σ' H' := o
      exact .inl ⟨I.stop Hi (sm.trans Si.rel.sub), o' σi Fi Hi Si⟩⟩
end

/-! ### a block's own names -/
def wipeE (ρ : Ev) : List Nat → Ev
  | [] => ρ
  | v :: vs => (wipeE ρ vs).set v .no
def restE (ρ0 ρ : Ev) (vs : List Nat) : Ev := ρ.mapIdx fun i e => if i ∈ vs then ρ0.getD i .no else e
theorem wipeE_len (ρ : Ev) : ∀ vs : List Nat, (wipeE ρ vs).length = ρ.length
  | [] => rfl
  | v :: vs => by unfold wipeE; rw [List.length_set, wipeE_len ρ vs]
theorem wipeE_get {ρ : Ev} {i : Nat} {e : En} (ne : e ≠ .no) : ∀ {vs : List Nat}, (wipeE ρ vs)[i]? = some e ↔ i ∉ vs ∧ ρ[i]? = some e
  | [] => by simp [wipeE]
  | v :: vs => by
    unfold wipeE
    constructor
    · intro h
      rcases set_get h with ⟨_, z⟩ | ⟨n, h⟩
      · exact absurd z ne
      · obtain ⟨h1, h2⟩ := (wipeE_get ne).mp h
        exact ⟨by simp only [List.mem_cons, not_or]; exact ⟨n, h1⟩, h2⟩
    · rintro ⟨h1, h2⟩
      simp only [List.mem_cons, not_or] at h1
      rw [List.getElem?_set_ne (Ne.symm h1.1)]
      exact (wipeE_get ne).mpr ⟨h1.2, h2⟩
theorem wipeE_twice {vs : List Nat} (ρ3 : Ev) : wipeE (wipeE ρ3 vs) vs = wipeE ρ3 vs := by
  apply List.ext_getElem?
  intro j
  have key : ∀ (τ : Ev) (e : En), e ≠ .no → ((wipeE (wipeE τ vs) vs)[j]? = some e ↔ (wipeE τ vs)[j]? = some e) := fun τ e ne => by
    rw [wipeE_get ne, wipeE_get ne]
    exact ⟨fun z => z.2, fun z => ⟨z.1, z⟩⟩
  cases e5 : (wipeE ρ3 vs)[j]? with
  | none =>
    have : (wipeE ρ3 vs).length ≤ j := List.getElem?_eq_none_iff.mp e5
    exact List.getElem?_eq_none (by rw [wipeE_len]; exact this)
  | some z =>
    by_cases hz : z = .no
    · cases e6 : (wipeE (wipeE ρ3 vs) vs)[j]? with
      | none =>
        have : (wipeE ρ3 vs).length ≤ j := by rw [← wipeE_len (wipeE ρ3 vs) vs]; exact List.getElem?_eq_none_iff.mp e6
        rw [List.getElem?_eq_none this] at e5
        cases e5
      | some y =>
        by_cases hy : y = .no
        · rw [hy, hz]
        · rw [(key ρ3 y hy).mp e6] at e5
          exact e5
    · exact (key ρ3 z hz).mpr e5
theorem wipeE_own {ρ : Ev} {vs : List Nat} {i : Nat} : IsOwn (wipeE ρ vs) i ↔ i ∉ vs ∧ IsOwn ρ i := by
  constructor
  · rintro (⟨xs, h⟩ | ⟨xs, h⟩)
    · obtain ⟨h1, h2⟩ := (wipeE_get (by intro z; cases z)).mp h
      exact ⟨h1, .inl ⟨xs, h2⟩⟩
    · obtain ⟨h1, h2⟩ := (wipeE_get (by intro z; cases z)).mp h
      exact ⟨h1, .inr ⟨xs, h2⟩⟩
  · rintro ⟨h1, ⟨xs, h⟩ | ⟨xs, h⟩⟩
    · exact .inl ⟨xs, (wipeE_get (by intro z; cases z)).mpr ⟨h1, h⟩⟩
    · exact .inr ⟨xs, (wipeE_get (by intro z; cases z)).mpr ⟨h1, h⟩⟩
theorem restE_get {ρ0 ρ : Ev} (hl : ρ.length = ρ0.length) {vs : List Nat} (i : Nat) : (restE ρ0 ρ vs)[i]? = if i ∈ vs then ρ0[i]? else ρ[i]? := by
  unfold restE
  rw [List.getElem?_mapIdx]
  by_cases h : i ∈ vs
  · rw [if_pos h]
    by_cases hi : i < ρ.length
    · rw [List.getElem?_eq_getElem hi]
      simp only [Option.map_some, if_pos h]
      rw [List.getD_eq_getElem?_getD, List.getElem?_eq_getElem (by omega)]
      rfl
    · rw [List.getElem?_eq_none (by omega), List.getElem?_eq_none (by omega)]
      rfl
  · rw [if_neg h]
    cases ρ[i]? with
    | none => rfl
    | some e => simp only [Option.map_some, if_neg h]
theorem σ_out {σ : St} {i : Nat} : ∀ {vs : List Nat}, i ∉ vs → (wipe σ vs)[i]? = σ[i]? := fun h => wipe_out h
theorem wipe_in {σ : St} {i : Nat} : ∀ {vs : List Nat}, i ∈ vs → (wipe σ vs)[i]? = (σ[i]?).map fun _ => none
  | [], h => by simp at h
  | v :: vs, h => by
    unfold wipe
    by_cases e : i = v
    · subst e
      by_cases hi : i < (wipe σ vs).length
      · rw [List.getElem?_set_self hi]
        rw [wipe_length] at hi
        rw [List.getElem?_eq_getElem hi]
        rfl
      · rw [List.getElem?_eq_none (by simpa using hi)]
        rw [wipe_length] at hi
        rw [List.getElem?_eq_none (by omega)]
        rfl
    · rw [List.getElem?_set_ne (Ne.symm e)]
      exact wipe_in (by simpa [e] using h)
/-- slots that differ in vs alone are wiped alike -/
theorem wipe_eq {σ τ : St} {vs : List Nat} (hl : σ.length = τ.length) (h : ∀ i, i ∉ vs → σ[i]? = τ[i]?) : wipe σ vs = wipe τ vs := by
  apply List.ext_getElem?
  intro i
  by_cases hi : i ∈ vs
  · rw [wipe_in hi, wipe_in hi]
    by_cases l : i < σ.length
    · rw [List.getElem?_eq_getElem l, List.getElem?_eq_getElem (by omega)]
      rfl
    · rw [List.getElem?_eq_none (by omega), List.getElem?_eq_none (by omega)]
  · rw [σ_out hi, σ_out hi]
    exact h i hi
section
variable {K : PySem.W.Frag} {ρ ρ1 ρ2 : Ev} {σ σ1 : St} {F F1 F2 H H1 H2 : Hp} {vs : List Nat}
theorem wipe_rel (R : Rel K ρ σ F H) : Rel K (wipeE ρ vs) (wipe σ vs) F H where
  sub := R.sub
  fz := fun i d h => by
    obtain ⟨n, h⟩ := (wipeE_get (by intro z; cases z)).mp h
    rw [σ_out n]
    exact R.fz i d h
  ls := fun i xs h => by
    have h' : i ∉ vs ∧ (ρ[i]? = some (.ol xs) ∨ ρ[i]? = some (.bl xs)) := by
      rcases h with h | h
      · obtain ⟨n, h⟩ := (wipeE_get (by intro z; cases z)).mp h
        exact ⟨n, .inl h⟩
      · obtain ⟨n, h⟩ := (wipeE_get (by intro z; cases z)).mp h
        exact ⟨n, .inr h⟩
    rw [σ_out h'.1]
    exact R.ls i xs h'.2
  sc := fun i ns h => by
    obtain ⟨n, h⟩ := (wipeE_get (by intro z; cases z)).mp h
    rw [σ_out n]
    exact R.sc i ns h
  sep := fun i j p hi hj e1 e2 => by
    obtain ⟨n1, o1⟩ := wipeE_own.mp hi
    obtain ⟨n2, o2⟩ := wipeE_own.mp hj
    rw [σ_out n1] at e1
    rw [σ_out n2] at e2
    exact R.sep i j p o1 o2 e1 e2
  ln := by rw [wipeE_len, wipe_length]; exact R.ln
theorem wipe_ownL {p : Addr} (h : OwnL (wipeE ρ vs) (wipe σ vs) p) : OwnL ρ σ p := by
  obtain ⟨i, xs, h1, h2⟩ := h
  obtain ⟨n, h1⟩ := (wipeE_get (by intro z; cases z)).mp h1
  rw [σ_out n] at h2
  exact ⟨i, xs, h1, h2⟩
theorem wipe_own {p : Addr} (h : Own (wipeE ρ vs) (wipe σ vs) p) : Own ρ σ p := by
  obtain ⟨i, h1, h2⟩ := own_ex h
  obtain ⟨n, h1⟩ := wipeE_own.mp h1
  rw [σ_out n] at h2
  exact own_at h1 h2
/-- behind a turn the block's own names are forgotten -/
theorem wipe_turn (S : Stp K (wipeE ρ vs) (wipe σ vs) F H ρ1 σ1 F1 H1) (e : wipe σ1 vs = wipe σ vs) : Stp K (wipeE ρ vs) (wipe σ vs) F H (wipeE ρ1 vs) (wipe σ vs) F1 H1 := by
  have nv : ∀ (i : Nat) (xs : List PyData), (wipeE ρ vs)[i]? = some (.bl xs) → i ∉ vs := fun i xs h => ((wipeE_get (by intro z; cases z)).mp h).1
  refine ⟨by rw [← e]; exact wipe_rel S.rel, S.ff, S.fr, fun p h => ?_, fun i xs h => ?_, fun i ys h => ?_, S.nw, by rw [wipeE_len]; exact S.ln, S.dm⟩
  · rw [← e] at h
    exact S.oo p (wipe_ownL h)
  · obtain ⟨⟨ys, h1⟩, _⟩ := S.bk i xs h
    exact ⟨⟨ys, (wipeE_get (by intro z; cases z)).mpr ⟨nv i xs h, h1⟩⟩, rfl⟩
  · exact S.kb i ys ((wipeE_get (by intro z; cases z)).mp h).2
/-- behind the block the names outside stand again -/
theorem unwipe (R : Rel K ρ σ F H) (nb : ∀ v ∈ vs, ∀ xs, ρ[v]? ≠ some (.bl xs)) (S : Stp K (wipeE ρ vs) (wipe σ vs) F H ρ1 (wipe σ vs) F1 H1) : Stp K ρ σ F H (restE ρ ρ1 vs) σ F1 H1 := by
  have hl : ρ1.length = ρ.length := by rw [S.ln, wipeE_len]
  have gi : ∀ {i : Nat}, i ∈ vs → (restE ρ ρ1 vs)[i]? = ρ[i]? := fun {i} h => by rw [restE_get hl, if_pos h]
  have go : ∀ {i : Nat}, i ∉ vs → (restE ρ ρ1 vs)[i]? = ρ1[i]? := fun {i} h => by rw [restE_get hl, if_neg h]
  have oi : ∀ {i : Nat}, i ∈ vs → IsOwn (restE ρ ρ1 vs) i → IsOwn ρ i := fun {i} h o => by
    unfold IsOwn at o ⊢
    rw [gi h] at o
    exact o
  have oo : ∀ {i : Nat}, i ∉ vs → IsOwn (restE ρ ρ1 vs) i → IsOwn ρ1 i := fun {i} h o => by
    unfold IsOwn at o ⊢
    rw [go h] at o
    exact o
  -- a list that was hidden
  have hid : ∀ {i : Nat} {p : Addr}, i ∈ vs → IsOwn ρ i → σ[i]? = some (some (.ref p)) → ¬ Own (wipeE ρ vs) (wipe σ vs) p := fun {i p} h o e z => by
    obtain ⟨j, z1, z2⟩ := own_ex z
    obtain ⟨n, z1⟩ := wipeE_own.mp z1
    rw [σ_out n] at z2
    exact n (by rw [← R.sep i j p o z1 e z2]; exact h)
  have apart : ∀ {i j : Nat} {p : Addr}, i ∈ vs → IsOwn ρ i → σ[i]? = some (some (.ref p)) → j ∉ vs → IsOwn ρ1 j → σ[j]? = some (some (.ref p)) → False := fun {i j p} h o e nj oj ej => by
    have z : Own ρ1 (wipe σ vs) p := own_at oj (by rw [σ_out nj]; exact ej)
    obtain ⟨⟨ws, hp⟩, _⟩ := R.own (own_at o e)
    exact S.nob hp (hid h o e) z
  refine ⟨⟨S.rel.sub, fun i d h => ?_, fun i xs h => ?_, fun i ns h => ?_, fun i j p hi hj e1 e2 => ?_, by unfold restE; rw [List.length_mapIdx, hl]; exact R.ln⟩, S.ff, fun a o h n => S.fr a o h fun z => n (wipe_own z), fun p h => ?_, fun i xs h => ?_, fun i ys h => ?_, fun a h => ?_, by unfold restE; rw [List.length_mapIdx, hl], S.dm⟩
  · by_cases hv : i ∈ vs
    · rw [gi hv] at h
      obtain ⟨v, e, q⟩ := R.fz i d h
      exact ⟨v, e, dp_mono S.ff d v q⟩
    · rw [go hv] at h
      obtain ⟨v, e, q⟩ := S.rel.fz i d h
      rw [σ_out hv] at e
      exact ⟨v, e, q⟩
  · by_cases hv : i ∈ vs
    · rw [gi hv] at h
      obtain ⟨p, ws, e, h2, h3, h4⟩ := R.ls i xs h
      have o : IsOwn ρ i := by
        rcases h with h | h
        · exact .inl ⟨xs, h⟩
        · exact .inr ⟨xs, h⟩
      have nh := hid hv o e
      refine ⟨p, ws, e, S.fr p _ h2 nh, ?_, dps_mono S.ff xs ws h4⟩
      cases q : F1 p with
      | none => rfl
      | some y =>
        rcases S.nw p (by rw [q]; intro z; cases z) with z | z | z
        · exact absurd h3 z
        · exact absurd (.inl z) nh
        · rw [h2] at z
          cases z
    · rw [go hv] at h
      obtain ⟨p, ws, e, r⟩ := S.rel.ls i xs h
      rw [σ_out hv] at e
      exact ⟨p, ws, e, r⟩
  · by_cases hv : i ∈ vs
    · rw [gi hv] at h
      obtain ⟨a, e, q⟩ := R.sc i ns h
      exact ⟨a, e, S.ff.seq q⟩
    · rw [go hv] at h
      obtain ⟨a, e, q⟩ := S.rel.sc i ns h
      rw [σ_out hv] at e
      exact ⟨a, e, q⟩
  · by_cases hv : i ∈ vs
    · by_cases hw : j ∈ vs
      · exact R.sep i j p (oi hv hi) (oi hw hj) e1 e2
      · exact (apart hv (oi hv hi) e1 hw (oo hw hj) e2).elim
    · by_cases hw : j ∈ vs
      · exact (apart hw (oi hw hj) e2 hv (oo hv hi) e1).elim
      · exact S.rel.sep i j p (oo hv hi) (oo hw hj) (by rw [σ_out hv]; exact e1) (by rw [σ_out hw]; exact e2)
  · obtain ⟨i, xs, h1, h2⟩ := h
    by_cases hv : i ∈ vs
    · rw [gi hv] at h1
      exact .inl ⟨i, xs, h1, h2⟩
    · rw [go hv] at h1
      rcases S.oo p ⟨i, xs, h1, by rw [σ_out hv]; exact h2⟩ with z | z
      · exact .inl (wipe_ownL z)
      · exact .inr z
  · have hv : i ∉ vs := fun z => nb i z xs h
    obtain ⟨⟨ys, h1⟩, _⟩ := S.bk i xs ((wipeE_get (by intro z; cases z)).mpr ⟨hv, h⟩)
    exact ⟨⟨ys, by rw [go hv]; exact h1⟩, rfl⟩
  · by_cases hv : i ∈ vs
    · rw [gi hv] at h
      exact ⟨ys, h⟩
    · rw [go hv] at h
      obtain ⟨xs, h1⟩ := S.kb i ys h
      exact ⟨xs, ((wipeE_get (by intro z; cases z)).mp h1).2⟩
  · rcases S.nw a h with z | z | z
    · exact .inl z
    · exact .inr (.inl (wipe_ownL z))
    · exact .inr (.inr z)
/-- a list of nobody is changed -/
theorem upd_stp {D : Addr} {o : HO} (S : Stp K ρ σ F H ρ1 σ1 F1 H1) (h1 : H D = none) (h2 : F1 D = none) (h3 : ¬ Own ρ1 σ1 D) : Stp K ρ σ F H ρ1 σ1 F1 (upd H1 D o) where
  rel := ⟨fun b x e => by
      rw [upd_ne (fun z => by rw [z, h2] at e; cases e)]
      exact S.rel.sub b x e, S.rel.fz, fun i xs h => by
      obtain ⟨p, ws, e, q, r⟩ := S.rel.ls i xs h
      have oi : IsOwn ρ1 i := by
        rcases h with h | h
        · exact .inl ⟨xs, h⟩
        · exact .inr ⟨xs, h⟩
      have ne : p ≠ D := fun z => h3 (by rw [← z]; exact own_at oi e)
      exact ⟨p, ws, e, by rw [upd_ne ne]; exact q, r⟩, S.rel.sc, S.rel.sep, S.rel.ln⟩
  ff := S.ff
  fr := fun a o' h n => by
    rw [upd_ne (ne_of_none h h1)]
    exact S.fr a o' h n
  oo := S.oo
  bk := S.bk
  kb := S.kb
  nw := S.nw
  ln := S.ln
  dm := fun a h => by
    by_cases z : a = D
    · rw [z]; exact h1
    · rw [upd_ne z] at h
      exact S.dm a h
/-- nobody's list, a step later -/
theorem keep_nob {p : Addr} {ws : List V} (S : Stp K ρ σ F H ρ1 σ1 F1 H1) (h2 : H p = some (.lst ws)) (h3 : F p = none) (h5 : ¬ Own ρ σ p) : H1 p = some (.lst ws) ∧ F1 p = none ∧ ¬ Own ρ1 σ1 p := by
  refine ⟨S.fr p _ h2 h5, ?_, S.nob h2 h5⟩
  cases e : F1 p with
  | none => rfl
  | some o =>
    rcases S.nw p (by rw [e]; intro z; cases z) with z | z | z
    · exact absurd h3 z
    · exact absurd (.inl z) h5
    · rw [h2] at z
      cases z
end

/-! ### [elt for target in iter if test] -/
def compL (h : PyData → Ev → Option Ev) (ft : Dn Bool) (fe : Dn PyData) (vs : List Nat) : List PyData → List PyData → Dn (List PyData)
  | [], acc, ρ => .ok (acc, ρ)
  | d :: ds, acc, ρ => match h d ρ with
    | none => .st
    | some ρ1 => match ft ρ1 with
      | .ok (true, ρ2) => match fe ρ2 with
        | .ok (y, ρ3) => if okLen (acc.length + 1) then compL h ft fe vs ds (acc ++ [y]) (wipeE ρ3 vs) else .st
        | _ => .st
      | .ok (false, ρ2) => compL h ft fe vs ds acc (wipeE ρ2 vs)
      | _ => .st
def dComp (fi : Dn (List PyData)) (h : PyData → Ev → Option Ev) (ft : Dn Bool) (fe : Dn PyData) (vs : List Nat) : Dn Rv := bnd fi fun ds => fun ρ => if vs.all (fun v => !isBl ρ[v]?) then match compL h ft fe vs ds [] (wipeE ρ vs) with
  | .ok (ys, ρ2) => .ok (.ol ys, restE ρ ρ2 vs)
  | _ => .st
  else .st
theorem E0_out {α : Type} {K : PySem.W.Frag} {mg : Str → Option Value} {ρ : Ev} {σ : St} {H : Hp} {a : α} {ρ' : Ev} {m : Rs (α × Ev)} {P : α → Ev → Prop} (e : m = .ok (a, ρ')) (h : P a ρ') : Out mg E0 ρ σ H m P := by rw [e]; exact h
theorem lc_wk {K : PySem.W.Frag} {mg : Str → Option Value} {E : XK} {fi : Dn (List PyData)} {ts : List Nat} {h : PyData → Ev → Option Ev} {ft : Dn Bool} {fe : Dn PyData} {vs : List Nat} (hts : ∀ i ∈ ts, i ∈ vs) (σ : St) (H : Hp) (Q : VK) (q : tE K mg E (dComp fi h ft fe vs) σ H Q) :
    tLc (tI K mg E fi) (tGd K ts h) (tT K mg E0 ft) (tD K mg E0 fe) vs σ H Q := by
  obtain ⟨ρ, F, R, q⟩ := q
  refine ⟨ρ, F, R, (out_bnd (K := K) (F := F) q).mono fun ds ρ1 k J F1 H1 S1 I D hD => ?_⟩
  have k2 := k σ F1 H1 S1
  by_cases hall : vs.all (fun v => !isBl ρ1[v]?) = true
  · rw [if_pos hall] at k2
    have nb : ∀ v ∈ vs, ∀ xs, ρ1[v]? ≠ some (.bl xs) := fun v hv xs z => by
      have := List.all_eq_true.mp hall v hv
      rw [z] at this
      cases this
    -- what the loop comes to
    cases ec : compL h ft fe vs ds [] (wipeE ρ1 vs) with
    | st => rw [ec] at k2; exact (show False from k2).elim
    | ex x => rw [ec] at k2; exact (show False from k2).elim
    | ok r =>
      obtain ⟨ys, ρf⟩ := r
      rw [ec] at k2
      have k3 : ∀ v F' H', Stp K ρ σ F H (restE ρ1 ρf vs) σ F' H' → ROk ρ σ H (restE ρ1 ρf vs) σ F' H' (.ol ys) v → Q v H' := k2
      refine ⟨fun i m Hi => m = ds.length - i ∧ i ≤ ds.length ∧ ∃ ρi Fi vacc acc, Stp K (wipeE ρ1 vs) (wipe σ vs) F1 H1 ρi (wipe σ vs) Fi Hi ∧ Hi D = some (.lst vacc) ∧ Fi D = none ∧ ¬ Own ρi (wipe σ vs) D ∧ DqAll Fi vacc acc ∧ wipeE ρi vs = ρi ∧ compL h ft fe vs (ds.drop i) acc ρi = .ok (ys, ρf),
        ⟨ds.length, by simp, Nat.zero_le _, wipeE ρ1 vs, F1, [], [], ?_, upd_same, S1.rel.sub.free hD, ?_, .nil, ?_, by simpa using ec⟩, ?_⟩
      · exact (Grow.own S1.rel.sub hD).stp (wipe_rel S1.rel)
      · intro z
        obtain ⟨⟨ws, e⟩, _⟩ := S1.rel.own (wipe_own z)
        rw [hD] at e
        cases e
      · exact wipeE_twice ρ1
      · rintro i m Hi ⟨rfl, hi, ρi, Fi, vacc, acc, Si, d1, d2, d3, d4, hwi, o⟩
        by_cases hlt : i < ds.length
        · refine .inr ⟨I.go i Hi hlt (Si.ff.trans Si.rel.sub), fun H' => i + 1 ≤ ds.length ∧ ∃ ρ' F' vacc acc, Stp K (wipeE ρ1 vs) (wipe σ vs) F1 H1 ρ' (wipe σ vs) F' H' ∧ H' D = some (.lst vacc) ∧ F' D = none ∧ ¬ Own ρ' (wipe σ vs) D ∧ DqAll F' vacc acc ∧ wipeE ρ' vs = ρ' ∧ compL h ft fe vs (ds.drop (i + 1)) acc ρ' = .ok (ys, ρf),
            fun H' ⟨hn, z⟩ => ⟨ds.length - (i + 1), by omega, rfl, hn, z⟩, fun x H' y => ?_⟩
          obtain ⟨d, F2, hd, gr, dq⟩ := I.yld i Hi x H' Fi hlt Si.ff Si.rel.sub y
          have Sg := gr.stp Si.rel
          rw [drop_cons hd] at o
          unfold compL at o
          cases e1 : h d ρi with
          | none => rw [e1] at o; cases o
          | some ρ2 =>
            simp only [e1] at o
            refine ⟨d, ρi, F2, ρ2, Sg.rel, dq, e1, fun σ2 S2 k2' => ?_⟩
            have hl2 : σ2.length = (wipe σ vs).length := by
              rw [← S2.rel.ln, S2.ln, Sg.rel.ln]
            have hw : wipe σ2 vs = wipe σ vs := by
              rw [wipe_eq (τ := wipe σ vs) hl2 fun j hj => k2' j fun z => hj (hts j z)]
              exact wipe_eq (wipe_length σ vs) fun j hj => σ_out hj
            refine ⟨hw, ρ2, F2, S2.rel, ?_⟩
            have Sc := (Si.trans Sg).trans S2
            obtain ⟨a1, a2, a3⟩ := keep_nob (Sg.trans S2) d1 d2 d3
            have wide : ∀ {ρ3 : Ev} {F3 H3 : Hp}, Stp K (wipeE ρ1 vs) (wipe σ vs) F1 H1 ρ3 σ2 F3 H3 → Stp K (wipeE ρ1 vs) (wipe σ vs) F1 H1 (wipeE ρ3 vs) (wipe σ vs) F3 H3 := fun S => wipe_turn S hw
            have nown : ∀ {ρ3 : Ev}, ¬ Own ρ3 σ2 D → ¬ Own (wipeE ρ3 vs) (wipe σ vs) D := fun n z => n (by rw [← hw] at z; exact wipe_own z)
            cases e2 : ft ρ2 with
            | st => simp only [e2] at o; cases o
            | ex x => simp only [e2] at o; cases o
            | ok r =>
              obtain ⟨b, ρ3⟩ := r
              show ∀ F' H'', Stp K ρ2 σ2 F2 H' ρ3 σ2 F' H'' → _
              intro F3 H3 S3
              obtain ⟨b1, b2, b3⟩ := keep_nob S3 a1 a2 a3
              cases b with
              | false =>
                simp only [e2] at o
                refine iteF ⟨hlt, wipeE ρ3 vs, F3, vacc, acc, wide (Sc.trans S3), b1, b2, nown b3, dps_mono ((gr.ff.trans S2.ff).trans S3.ff) _ _ d4, wipeE_twice ρ3, o⟩
              | true =>
                simp only [e2] at o
                refine iteT ⟨ρ3, F3, S3.rel, ?_⟩
                cases e3 : fe ρ3 with
                | st => simp only [e3] at o; cases o
                | ex x => simp only [e3] at o; cases o
                | ok r =>
                  obtain ⟨yd, ρ4⟩ := r
                  simp only [e3] at o
                  show ∀ v F' H'', Stp K ρ3 σ2 F3 H3 ρ4 σ2 F' H'' → _
                  intro v F4 H4 S4 dv
                  obtain ⟨c1, c2, c3⟩ := keep_nob S4 b1 b2 b3
                  by_cases hlen : okLen (acc.length + 1) = true
                  · rw [if_pos hlen] at o
                    have dacc := dps_mono (((gr.ff.trans S2.ff).trans S3.ff).trans S4.ff) _ _ d4
                    have el := dps_len dacc
                    refine ⟨vacc, c1, ?_, hlt, wipeE ρ4 vs, F4, vacc ++ [v], acc ++ [yd], upd_stp (wide ((Sc.trans S3).trans S4)) hD c2 (nown c3), upd_same, c2, nown c3, dps_app dacc (dps_one dv), wipeE_twice ρ4, o⟩
                    rw [el]
                    exact okLen_le hlen
                  · rw [if_neg hlen] at o
                    cases o
        · have e : i = ds.length := by omega
          subst e
          rw [List.drop_length] at o
          unfold compL at o
          cases o
          refine .inl ⟨I.stop Hi (Si.ff.trans Si.rel.sub), ?_⟩
          have Su := unwipe S1.rel nb Si
          refine k3 _ Fi Hi (S1.trans Su) ⟨D, vacc, rfl, .inr (S1.dm D hD), d1, d2, d4, fun z => ?_⟩
          rcases z with z | z
          · obtain ⟨j, xs, z1, z2⟩ := z
            rw [restE_get (by rw [Si.ln, wipeE_len])] at z1
            by_cases hv : j ∈ vs
            · rw [if_pos hv] at z1
              obtain ⟨⟨ws, e⟩, _⟩ := S1.rel.own (.inl ⟨j, xs, z1, z2⟩)
              rw [hD] at e
              cases e
            · rw [if_neg hv] at z1
              exact d3 (.inl ⟨j, xs, z1, by rw [σ_out hv]; exact z2⟩)
          · obtain ⟨⟨ws, e⟩, _⟩ := S1.rel.own (.inr (Su.ob z))
            rw [hD] at e
            cases e
  · rw [if_neg hall] at k2
    exact (show False from k2).elim
end Gx

/-! G7: what is walked; comprehensions; calls; lists changed in place. -/
namespace Gx
open PySem PySem.Spec L2
open PyProof.Rows hiding St

section
variable {X : Cx} {E : XK} {pos : Pos}
theorem pi_wk {X : Cx} {tg iter : Expr} {t t' : TI} (h : PI X tg iter t) (w : ∀ σ H R, t' σ H R → t σ H R) : PI X tg iter t' := ⟨fun pins s σ H R I q => h.run pins s σ H R I (w σ H R q)⟩
def seqOf : PyData → Option (List PyData)
  | .list xs => some xs
  | .tuple xs => some xs
  | _ => none
theorem iok_list {K : PySem.W.Frag} {F : Hp} {a : Addr} {vs : List V} {ds : List PyData} (ha : F a = some (.lst vs)) (h : DqAll F vs ds) : IOk F (Itl K a) ds where
  go := fun i H hi s => ⟨vs, vs[i]'(by rw [dps_len h]; exact hi), .of (s _ _ ha), List.getElem?_eq_getElem _⟩
  stop := fun H s => ⟨vs, .of (s _ _ ha), Nat.le_of_eq (dps_len h)⟩
  yld := fun i H x H' G hi s1 s2 y => by
    obtain ⟨e, y⟩ := y
    subst e
    obtain ⟨v, e1, e2⟩ := dps_get h (List.getElem?_eq_getElem hi)
    have e3 := y vs (.of (s2 _ _ (s1 _ _ ha)))
    rw [e1] at e3
    cases e3
    exact ⟨_, G, List.getElem?_eq_getElem hi, Grow.refl s2, dp_mono s1 _ _ e2⟩
theorem iok_tup {K : PySem.W.Frag} {F : Hp} {a : Addr} {vs : List V} {ds : List PyData} (ha : F a = some (.tup vs)) (h : DqAll F vs ds) : IOk F (Itt K a) ds where
  go := fun i H hi s => ⟨vs, vs[i]'(by rw [dps_len h]; exact hi), .of (s _ _ ha), List.getElem?_eq_getElem _⟩
  stop := fun H s => ⟨vs, .of (s _ _ ha), Nat.le_of_eq (dps_len h)⟩
  yld := fun i H x H' G hi s1 s2 y => by
    obtain ⟨e, y⟩ := y
    subst e
    obtain ⟨v, e1, e2⟩ := dps_get h (List.getElem?_eq_getElem hi)
    have e3 := y vs (.of (s2 _ _ (s1 _ _ ha)))
    rw [e1] at e3
    cases e3
    exact ⟨_, G, List.getElem?_eq_getElem hi, Grow.refl s2, dp_mono s1 _ _ e2⟩
def iSeq (f : Dn PyData) : Dn (List PyData) := bnd f fun d => lft (seqOf d)
/-- a list or a tuple is walked -/
theorem gi_seq {tg e : Expr} {f : Dn PyData} (he : PE X e (tD X.K X.mg E f)) : PI X tg e (tI X.K X.mg E (iSeq f)) := by
  refine ⟨fun pins s σ H R I ⟨ρ, F, Rl, q⟩ => ?_⟩
  have reading : tD X.K X.mg E f σ H (fun v H1 => ∃ a, v = .ref a ∧ (((∃ xs, SqL X.K H1 a xs) ∧ R (Itl X.K a) H1) ∨ ((∃ xs, SqT X.K H1 a xs) ∧ R (Itt X.K a) H1))) := by
    refine ⟨ρ, F, Rl, (out_bnd (K := X.K) (F := F) q).mono fun d ρ1 k v F1 H1 S1 dq => ?_⟩
    obtain ⟨ds, hd, q2⟩ := out_lft (k _ _ _ S1)
    cases dq with
    | @lst a vs xs ha hx =>
      cases hd
      exact ⟨a, rfl, .inl ⟨⟨vs, .of (S1.rel.sub _ _ ha)⟩, q2 _ F1 H1 S1 (iok_list ha hx)⟩⟩
    | @tup a vs xs ha hx =>
      cases hd
      exact ⟨a, rfl, .inr ⟨⟨vs, .of (S1.rel.sub _ _ ha)⟩, q2 _ F1 H1 S1 (iok_tup ha hx)⟩⟩
    | _ => cases hd
  refine thn (he.run pins s σ H _ I reading) ?_
  rintro v s1 ⟨x, H1, I1, r1, a, rfl, both⟩
  cases r1
  have fresh := I1.hok.fresh (Nat.le_refl _)
  rcases both with ⟨⟨xs, hq⟩, qq⟩ | ⟨⟨xs, hq⟩, qq⟩
  · obtain ⟨its, _, pl, _⟩ := I1.list hq
    refine wpAny_pyIter_list pl.isList ⟨_, [_], _, Itl X.K a, H1, rfl, I1.kept (t' := s1.toks) fun b o e => Heap.get?_push_of_some _ e, turn_list a s1.heap.objs.size, ⟨_, Heap.get?_push_size _ rfl, rfl, rfl⟩, fun b hb => ?_, qq⟩
    rw [List.mem_singleton.mp hb]
    exact I1.fpOk (Nat.le_refl _) fresh
  · obtain ⟨its, _, pl, _⟩ := I1.tuple hq
    refine wpAny_pyIter_tuple (show s1.heap.IsTuple a its.toArray from pl) ⟨_, [_], _, Itt X.K a, H1, rfl, I1.kept (t' := s1.toks) fun b o e => Heap.get?_push_of_some _ e, turn_tuple a s1.heap.objs.size, ⟨_, Heap.get?_push_size _ rfl, rfl, rfl⟩, fun b hb => ?_, qq⟩
    rw [List.mem_singleton.mp hb]
    exact I1.fpOk (Nat.le_refl _) fresh
def rgD (lo : Int) (n : Nat) : List PyData := (List.range n).map fun i => .int (lo + (i : Nat))
theorem iok_range {F : Hp} {lo : Int} {n : Nat} : IOk F (Itr lo n) (rgD lo n) where
  go := fun i H hi _ => by
    show i < n
    simpa [rgD] using hi
  stop := fun H _ => by show n ≤ (rgD lo n).length; simp [rgD]
  yld := fun i H x H' G hi s1 s2 y => by
    obtain ⟨e, y⟩ := y
    subst e y
    have hn : i < n := by simpa [rgD] using hi
    exact ⟨_, G, by simp [rgD, hn], Grow.refl s2, .int _⟩
def small62 (i : Int) : Bool := decide (-4611686018427387904 ≤ i) && decide (i < 4611686018427387904)
theorem small62_ok {i : Int} (h : small62 i = true) : -(2 ^ 62) ≤ i ∧ i < 2 ^ 62 := by
  unfold small62 at h
  rw [Bool.and_eq_true, decide_eq_true_eq, decide_eq_true_eq] at h
  omega
def rg1 : List PyData → Option (List PyData)
  | [.int j] => if small62 j then some (rgD 0 j.toNat) else none
  | _ => none
def rg2 : List PyData → Option (List PyData)
  | [.int i, .int j] => if small62 i && small62 j then some (rgD i (j - i).toNat) else none
  | _ => none
def iRg1 (f : Dn (List PyData)) : Dn (List PyData) := bnd f fun ds => lft (rg1 ds)
def iRg2 (f : Dn (List PyData)) : Dn (List PyData) := bnd f fun ds => lft (rg2 ds)
theorem gi_range1 {tg a : Expr} {p : Pos} {f : Dn (List PyData)} (hg : Gl X "range") (hm : X.mg "range" = none) (ha : PA X [a] (tDs X.K X.mg E f)) (hs : starEach [a] X.env = [(false, eval a X.env)] := by rfl) : PI X tg (.Call (.Name "range" p) [a] [] pos) (tI X.K X.mg E (iRg1 f)) :=
  pi_wk (pi_range1 hg hm ha hs) fun σ H R ⟨ρ, F, Rl, q⟩ => ⟨ρ, F, Rl, (out_bnd (K := X.K) (F := F) q).mono fun ds ρ1 k vs F1 H1 S1 d1 => by
    obtain ⟨es, he, q2⟩ := out_lft (k _ _ _ S1)
    cases d1 with
    | nil => cases he
    | @cons v vs d ds h1 h2 =>
      cases h2 with
      | cons _ _ => cases d <;> cases he
      | nil =>
        cases h1 with
        | int j =>
          have he' : (if small62 j = true then some (rgD 0 j.toNat) else none) = some es := he
          by_cases hj : small62 j = true
          · rw [if_pos hj] at he'
            cases he'
            obtain ⟨b1, b2⟩ := small62_ok hj
            exact ⟨j, rfl, b1, b2, q2 _ F1 H1 S1 iok_range⟩
          · rw [if_neg hj] at he'
            cases he'
        | _ => cases he⟩
theorem gi_range2 {tg a b : Expr} {p : Pos} {f : Dn (List PyData)} (hg : Gl X "range") (hm : X.mg "range" = none) (ha : PA X [a, b] (tDs X.K X.mg E f)) (hs : starEach [a, b] X.env = [(false, eval a X.env), (false, eval b X.env)] := by rfl)
    (hs2 : starEach [b] X.env = [(false, eval b X.env)] := by rfl) : PI X tg (.Call (.Name "range" p) [a, b] [] pos) (tI X.K X.mg E (iRg2 f)) :=
  pi_wk (pi_range2 hg hm ha hs hs2) fun σ H R ⟨ρ, F, Rl, q⟩ => ⟨ρ, F, Rl, (out_bnd (K := X.K) (F := F) q).mono fun ds ρ1 k vs F1 H1 S1 d1 => by
    obtain ⟨es, he, q2⟩ := out_lft (k _ _ _ S1)
    cases d1 with
    | nil => cases he
    | @cons v vs d ds h1 h2 =>
      cases h2 with
      | nil => cases d <;> cases he
      | @cons v2 vs2 d2 ds2 h3 h4 =>
        cases h4 with
        | cons _ _ => cases d <;> cases d2 <;> cases he
        | nil =>
          cases h1 with
          | int i =>
            cases h3 with
            | int j =>
              have he' : (if (small62 i && small62 j) = true then some (rgD i (j - i).toNat) else none) = some es := he
              by_cases hj : (small62 i && small62 j) = true
              · rw [if_pos hj] at he'
                cases he'
                rw [Bool.and_eq_true] at hj
                obtain ⟨b1, b2⟩ := small62_ok hj.1
                obtain ⟨b3, b4⟩ := small62_ok hj.2
                exact ⟨i, j, rfl, ⟨b1, b2, b3, b4⟩, q2 _ F1 H1 S1 iok_range⟩
              · rw [if_neg hj] at he'
                cases he'
            | _ => cases he
          | _ => cases he⟩
/-- enumerate of a list -/
def enumD (n : Nat) : List PyData → List PyData
  | [] => []
  | x :: xs => .tuple [.int (n : Nat), x] :: enumD (n + 1) xs
theorem enumD_len : ∀ (xs : List PyData) (n : Nat), (enumD n xs).length = xs.length
  | [], _ => rfl
  | x :: xs, n => by simp [enumD, enumD_len xs]
theorem enumD_get : ∀ (xs : List PyData) (n i : Nat) (x : PyData), xs[i]? = some x → (enumD n xs)[i]? = some (.tuple [.int ((n + i : Nat) : Int), x])
  | [], _, _, _, h => by simp at h
  | y :: xs, n, 0, x, h => by simp at h; subst h; simp [enumD]
  | y :: xs, n, i + 1, x, h => by
    have ih := enumD_get xs (n + 1) i x (by simpa using h)
    have e : n + 1 + i = n + (i + 1) := by omega
    rw [e] at ih
    simpa [enumD] using ih
theorem iok_enum {K : PySem.W.Frag} {F : Hp} {a : Addr} {vs : List V} {ds : List PyData} (ha : F a = some (.lst vs)) (h : DqAll F vs ds) : IOk F (Ite K a) (enumD 0 ds) where
  go := fun i H hi s => by
    rw [enumD_len] at hi
    exact ⟨vs, vs[i]'(by rw [dps_len h]; exact hi), .of (s _ _ ha), List.getElem?_eq_getElem _⟩
  stop := fun H s => ⟨vs, .of (s _ _ ha), by rw [enumD_len, dps_len h]; exact Nat.le_refl _⟩
  yld := fun i H x H' G hi s1 s2 y => by
    rw [enumD_len] at hi
    obtain ⟨T, u, e, nT, e', y⟩ := y
    subst e e'
    obtain ⟨v, e1, e2⟩ := dps_get h (List.getElem?_eq_getElem hi)
    have e3 := y vs (.of (s2 _ _ (s1 _ _ ha)))
    rw [e1] at e3
    have e4 : v = u := Option.some.inj e3
    subst e4
    have g := Grow.new (o := .tup [.int (i : Nat), v]) s2 nT
    refine ⟨_, _, enumD_get ds 0 i _ (List.getElem?_eq_getElem hi), g, .tup upd_same (.cons ?_ (.cons (dp_mono g.ff _ _ (dp_mono s1 _ _ e2)) .nil))⟩
    rw [Nat.zero_add]
    exact .int _
def enumOf : List PyData → Option (List PyData)
  | [.list xs] => some (enumD 0 xs)
  | _ => none
def iEn (f : Dn (List PyData)) : Dn (List PyData) := bnd f fun ds => lft (enumOf ds)
theorem gi_enum {e : Expr} {p tpos : Pos} {elts : List Expr} {kk : Nat} {f : Dn (List PyData)} (hg : Gl X "enumerate") (hm : X.mg "enumerate" = none) (ha : PA X [e] (tDs X.K X.mg E f)) (hs : starEach [e] X.env = [(false, eval e X.env)] := by rfl) :
    PI X (.Tuple elts kk tpos) (.Call (.Name "enumerate" p) [e] [] pos) (tI X.K X.mg E (iEn f)) :=
  pi_wk (pi_enum hg hm ha hs) fun σ H R ⟨ρ, F, Rl, q⟩ => ⟨ρ, F, Rl, (out_bnd (K := X.K) (F := F) q).mono fun ds ρ1 k vs F1 H1 S1 d1 => by
    obtain ⟨es, he, q2⟩ := out_lft (k _ _ _ S1)
    cases d1 with
    | nil => cases he
    | @cons v vs d ds h1 h2 =>
      cases h2 with
      | cons _ _ => cases d <;> cases he
      | nil =>
        cases h1 with
        | @lst a us xs ha hx =>
          cases he
          exact ⟨a, us, rfl, .of (S1.rel.sub _ _ ha), q2 _ F1 H1 S1 (iok_enum ha hx)⟩
        | _ => cases he⟩
/-- zip of two lists, of two tuples -/
def zipD : List PyData → List PyData → List PyData
  | x :: xs, y :: ys => .tuple [x, y] :: zipD xs ys
  | _, _ => []
theorem zipD_get : ∀ (xs ys : List PyData) (i : Nat) (x y : PyData), xs[i]? = some x → ys[i]? = some y → (zipD xs ys)[i]? = some (.tuple [x, y])
  | [], _, _, _, _, h, _ => by simp at h
  | _ :: _, [], _, _, _, _, h => by simp at h
  | a :: xs, b :: ys, 0, x, y, h1, h2 => by simp at h1 h2; subst h1 h2; rfl
  | a :: xs, b :: ys, i + 1, x, y, h1, h2 => by
    have ih := zipD_get xs ys i x y (by simpa using h1) (by simpa using h2)
    simpa [zipD] using ih
theorem zipD_len : ∀ (xs ys : List PyData), (zipD xs ys).length = min xs.length ys.length
  | [], _ => by simp [zipD]
  | _ :: _, [] => by simp [zipD]
  | a :: xs, b :: ys => by simp [zipD, zipD_len xs ys]
theorem iok_zipL {K : PySem.W.Frag} {F : Hp} {a b : Addr} {vs us : List V} {ds es : List PyData} (ha : F a = some (.lst vs)) (h : DqAll F vs ds) (hb : F b = some (.lst us)) (k : DqAll F us es) : IOk F (Itz K a b) (zipD ds es) where
  go := fun i H hi s => by
    rw [zipD_len] at hi
    have l1 : i < vs.length := by rw [dps_len h]; omega
    have l2 : i < us.length := by rw [dps_len k]; omega
    exact ⟨vs, us, vs[i], us[i], .of (s _ _ ha), .of (s _ _ hb), List.getElem?_eq_getElem l1, List.getElem?_eq_getElem l2⟩
  stop := fun H s => ⟨vs, us, .of (s _ _ ha), .of (s _ _ hb), by rw [zipD_len, dps_len h, dps_len k]; omega⟩
  yld := fun i H x H' G hi s1 s2 y => by
    rw [zipD_len] at hi
    obtain ⟨T, x1, x2, e, nT, e', y1, y2⟩ := y
    subst e e'
    have l1 : i < ds.length := by omega
    have l2 : i < es.length := by omega
    obtain ⟨v, e1, e2⟩ := dps_get h (List.getElem?_eq_getElem l1)
    obtain ⟨w, e3, e4⟩ := dps_get k (List.getElem?_eq_getElem l2)
    have e5 := y1 vs (.of (s2 _ _ (s1 _ _ ha)))
    have e6 := y2 us (.of (s2 _ _ (s1 _ _ hb)))
    rw [e1] at e5
    rw [e3] at e6
    have e7 : v = x1 := Option.some.inj e5
    have e8 : w = x2 := Option.some.inj e6
    subst e7 e8
    have g := Grow.new (o := .tup [v, w]) s2 nT
    exact ⟨_, _, zipD_get ds es i _ _ (List.getElem?_eq_getElem l1) (List.getElem?_eq_getElem l2), g, .tup upd_same (.cons (dp_mono g.ff _ _ (dp_mono s1 _ _ e2)) (.cons (dp_mono g.ff _ _ (dp_mono s1 _ _ e4)) .nil))⟩
theorem iok_zipT {K : PySem.W.Frag} {F : Hp} {a b : Addr} {vs us : List V} {ds es : List PyData} (ha : F a = some (.tup vs)) (h : DqAll F vs ds) (hb : F b = some (.tup us)) (k : DqAll F us es) : IOk F (RZ.ItzT K a b) (zipD ds es) where
  go := fun i H hi s => by
    rw [zipD_len] at hi
    have l1 : i < vs.length := by rw [dps_len h]; omega
    have l2 : i < us.length := by rw [dps_len k]; omega
    exact ⟨vs, us, vs[i], us[i], .of (s _ _ ha), .of (s _ _ hb), List.getElem?_eq_getElem l1, List.getElem?_eq_getElem l2⟩
  stop := fun H s => ⟨vs, us, .of (s _ _ ha), .of (s _ _ hb), by rw [zipD_len, dps_len h, dps_len k]; omega⟩
  yld := fun i H x H' G hi s1 s2 y => by
    rw [zipD_len] at hi
    obtain ⟨T, x1, x2, e, nT, e', y1, y2⟩ := y
    subst e e'
    have l1 : i < ds.length := by omega
    have l2 : i < es.length := by omega
    obtain ⟨v, e1, e2⟩ := dps_get h (List.getElem?_eq_getElem l1)
    obtain ⟨w, e3, e4⟩ := dps_get k (List.getElem?_eq_getElem l2)
    have e5 := y1 vs (.of (s2 _ _ (s1 _ _ ha)))
    have e6 := y2 us (.of (s2 _ _ (s1 _ _ hb)))
    rw [e1] at e5
    rw [e3] at e6
    have e7 : v = x1 := Option.some.inj e5
    have e8 : w = x2 := Option.some.inj e6
    subst e7 e8
    have g := Grow.new (o := .tup [v, w]) s2 nT
    exact ⟨_, _, zipD_get ds es i _ _ (List.getElem?_eq_getElem l1) (List.getElem?_eq_getElem l2), g, .tup upd_same (.cons (dp_mono g.ff _ _ (dp_mono s1 _ _ e2)) (.cons (dp_mono g.ff _ _ (dp_mono s1 _ _ e4)) .nil))⟩
def zipOf : List PyData → Option (List PyData)
  | [.list xs, .list ys] => some (zipD xs ys)
  | [.tuple xs, .tuple ys] => some (zipD xs ys)
  | _ => none
def iZp (f : Dn (List PyData)) : Dn (List PyData) := bnd f fun ds => lft (zipOf ds)
theorem gi_zip {e e2 : Expr} {p tpos : Pos} {elts : List Expr} {kk : Nat} {f : Dn (List PyData)} (hg : Gl X "zip") (hm : X.mg "zip" = none) (ha : PA X [e, e2] (tDs X.K X.mg E f)) (hs : starEach [e, e2] X.env = (false, eval e X.env) :: starEach [e2] X.env := by rfl)
    (hpl : (backTo pos (starEach [e2] X.env)).any (·.1) = false := by rfl) : PI X (.Tuple elts kk tpos) (.Call (.Name "zip" p) [e, e2] [] pos) (tI X.K X.mg E (iZp f)) :=
  pi_wk (RZ.pi_zipA hg hm ha hs hpl) fun σ H R ⟨ρ, F, Rl, q⟩ => ⟨ρ, F, Rl, (out_bnd (K := X.K) (F := F) q).mono fun ds ρ1 k vs F1 H1 S1 d1 => by
    obtain ⟨es, he, q2⟩ := out_lft (k _ _ _ S1)
    cases d1 with
    | nil => cases he
    | @cons v vs d ds h1 h2 =>
      cases h2 with
      | nil => cases d <;> cases he
      | @cons v2 vs2 d2 ds2 h3 h4 =>
        cases h4 with
        | cons _ _ => cases d <;> cases d2 <;> cases he
        | nil =>
          cases h1 with
          | @lst a us xs ha hx =>
            cases h3 with
            | @lst b ws ys hb hy =>
              cases he
              exact ⟨a, b, us, ws, rfl, .inl ⟨.of (S1.rel.sub _ _ ha), .of (S1.rel.sub _ _ hb), q2 _ F1 H1 S1 (iok_zipL ha hx hb hy)⟩⟩
            | _ => cases he
          | @tup a us xs ha hx =>
            cases h3 with
            | @tup b ws ys hb hy =>
              cases he
              exact ⟨a, b, us, ws, rfl, .inr ⟨.of (S1.rel.sub _ _ ha), .of (S1.rel.sub _ _ hb), q2 _ F1 H1 S1 (iok_zipT ha hx hb hy)⟩⟩
            | _ => cases he
          | _ => cases he⟩

/-! ### comprehensions -/
def yesT : Dn Bool := ret true
theorem pts_wk {X : Cx} {ifs : List Expr} {t t' : TT} (h : PTs X ifs t) (w : ∀ σ H Q, t' σ H Q → t σ H Q) : PTs X ifs t' := ⟨fun pins s σ H Q I q => h.run pins s σ H Q I (w σ H Q q)⟩
theorem gt_yes : PTs X [] (tT X.K X.mg E yesT) := pts_wk pts_nil fun σ H Q ⟨ρ, F, R, q⟩ => out_ret q F H (Stp.refl R)
theorem gt_one {c : Expr} {f : Dn Bool} (h : PT X c (tT X.K X.mg E f)) : PTs X [c] (tT X.K X.mg E f) := pts_one h
theorem g_comp {elt tg iter : Expr} {ifs : List Expr} {scope : Scope} {own : List (Str × Nat)} {ts : List Nat} {fi : Dn (List PyData)} {h : PyData → Ev → Option Ev} {ft : Dn Bool} {fe : Dn PyData} (hc : X.calm = true) (hN : X.N.Nodup) (hi : PI X tg iter (tI X.K X.mg E fi)) (ok : BlkOk X.N X.env.scope scope own)
    (hts : ∀ i ∈ ts, i ∈ own.map (·.2)) (hg : ∀ (s : Shared) (H : Hp) (C : Addr) (cl : List (Str × Addr)) (fp : List Addr), PG (X.blk s H scope (compEnvC scope cl C X.env) fp) tg (tGd X.K ts h))
    (ht : ∀ (s : Shared) (H : Hp) (C : Addr) (cl : List (Str × Addr)) (fp : List Addr), PTs (X.blk s H scope (compEnvC scope cl C X.env) fp) ifs (tT X.K X.mg E0 ft)) (he : ∀ (s : Shared) (H : Hp) (C : Addr) (cl : List (Str × Addr)) (fp : List Addr), PE (X.blk s H scope (compEnvC scope cl C X.env) fp) elt (tD X.K X.mg E0 fe))
    (hs : ∀ x, foldedSetIterable iter X.env x = pure x := by intro _; rfl) : PE X (.ListComp elt [⟨tg, iter, ifs, 0⟩] scope pos) (tE X.K X.mg E (dComp fi h ft fe (own.map (·.2)))) :=
  pe_wk (pe_lc hc hN hi ok hg ht he hs) (lc_wk hts)
theorem gs_setComp {i : Nat} {y : Str} {py spos : Pos} {elt tg iter : Expr} {ifs : List Expr} {scope : Scope} {own : List (Str × Nat)} {ts : List Nat} {fi : Dn (List PyData)} {h : PyData → Ev → Option Ev} {ft : Dn Bool} {fe : Dn PyData} (hc : X.calm = true) (hN : X.N.Nodup) (hy : X.N[i]? = some y) (hyl : X.env.scope.names.lookup y = some .local)
    (hsw : swapsWith (.ListComp elt [⟨tg, iter, ifs, 0⟩] scope pos) (some (.Name y py)) spos.line X.env = pure true) (hi : PI X tg iter (tI X.K X.mg E fi)) (ok : BlkOk X.N X.env.scope scope own)
    (hts : ∀ i ∈ ts, i ∈ own.map (·.2)) (hg : ∀ (s : Shared) (H : Hp) (C : Addr) (cl : List (Str × Addr)) (fp : List Addr), PG (X.blk s H scope (compEnvC scope cl C X.env) fp) tg (tGd X.K ts h))
    (ht : ∀ (s : Shared) (H : Hp) (C : Addr) (cl : List (Str × Addr)) (fp : List Addr), PTs (X.blk s H scope (compEnvC scope cl C X.env) fp) ifs (tT X.K X.mg E0 ft)) (he : ∀ (s : Shared) (H : Hp) (C : Addr) (cl : List (Str × Addr)) (fp : List Addr), PE (X.blk s H scope (compEnvC scope cl C X.env) fp) elt (tD X.K X.mg E0 fe))
    (hs : ∀ x, foldedSetIterable iter X.env x = pure x := by intro _; rfl) : PS X (.Assign [.Name y py] (.ListComp elt [⟨tg, iter, ifs, 0⟩] scope pos) spos) (tS X.K X.mg E (sSet i (dComp fi h ft fe (own.map (·.2))))) :=
  ps_wk (ps_setLc hc hN hy hyl hsw hi ok hg ht he hs) fun D σ H q => by
    obtain ⟨ρ, F, R, q⟩ := q
    refine lc_wk (E := E) hts σ H _ ⟨ρ, F, R, (out_bnd (K := X.K) (F := F) q).mono fun r ρ1 k v F1 H1 S1 ro => ?_⟩
    obtain ⟨q2, S2⟩ := put_stp S1 ro (k _ _ _ S1)
    exact q2 _ F1 H1 S2

/-! ### calls -/
def ArLen (f : Dn (List Ar)) (n : Nat) : Prop := ∀ ρ as ρ', f ρ = .ok (as, ρ') → as.length = n
theorem arl_nil : ArLen aNil 0 := fun ρ as ρ' h => by cases h; rfl
theorem arl_cons {f : Dn Rv} {g : Dn (List Ar)} {n : Nat} (h : ArLen g n) : ArLen (aCons f g) (n + 1) := fun ρ as ρ' e => by
  unfold aCons bnd at e
  cases ef : f ρ with
  | st => rw [ef] at e; cases e
  | ex x => rw [ef] at e; cases e
  | ok r =>
    rw [ef] at e
    simp only at e
    cases eg : g r.2 with
    | st => rw [eg] at e; cases e
    | ex x => rw [eg] at e; cases e
    | ok t =>
      rw [eg] at e
      cases e
      simp [h r.2 t.1 t.2 eg]
theorem arl_lend {i : Nat} {g : Dn (List Ar)} {n : Nat} (h : ArLen g n) : ArLen (aLend i g) (n + 1) := fun ρ as ρ' e => by
  have key : ∀ a : Ar, bnd g (fun as => ret (a :: as)) ρ = .ok (as, ρ') → as.length = n + 1 := fun a e => by
    unfold bnd at e
    cases eg : g ρ with
    | st => rw [eg] at e; cases e
    | ex x => rw [eg] at e; cases e
    | ok t =>
      rw [eg] at e
      cases e
      simp [h ρ t.1 t.2 eg]
  unfold aLend at e
  cases q : ρ[i]? with
  | none => rw [q] at e; cases e
  | some en =>
    rw [q] at e
    cases en with
    | ol xs => exact key _ e
    | bl xs => exact key _ e
    | sc ns => exact key _ e
    | _ => cases e
theorem g_call {x : Str} {p : Pos} {e : Expr} {es : List Expr} {j k n : Nat} {den : Den} {f : Dn (List Ar)} (c : Cal X.prog X.w X.K X.mg X.base j x n den) (hr : Room k X.A) (hj : j ≤ k) (hg : Gl X x) (hx : Passes (L2.CX X.prog X.w) X E) (ha : PA X (e :: es) (tAr X.K X.mg E f)) (hn : ArLen f n)
    (hdb : (x == ("__debug__" : Str)) = false := by decide) (he : starEach (e :: es) X.env = (false, eval e X.env) :: starEach es X.env := by rfl) (hpl : (backTo pos (starEach es X.env)).any (·.1) = false := by rfl) : PE X (.Call (.Name x p) (e :: es) [] pos) (tE X.K X.mg E (dFn den f)) := by
  obtain ⟨fa, fd, ps, Fn, hm, hk, hb⟩ := c.ex
  refine pe_wk (pe_call Fn (hr.mono hj) hg hm hk hb .nil hx ha hdb he hpl) fun σ H Q q => ?_
  exact spD_call (sp := fun vs H Q E => spD X.K X.mg n den (vs ++ []) H Q E) (fun vs H Q E h => by rw [List.append_nil]; exact h) (fun ρ as ρ' h => hn ρ as ρ' h) σ H Q q
def dFn0 (den : Den) : Dn Rv := dFn den (ret [])
theorem g_call0 {x : Str} {p : Pos} {j k : Nat} {den : Den} (c : Cal X.prog X.w X.K X.mg X.base j x 0 den) (hr : Room k X.A) (hj : j ≤ k) (hg : Gl X x) (hx : Passes (L2.CX X.prog X.w) X E) (hdb : (x == ("__debug__" : Str)) = false := by decide) :
    PE X (.Call (.Name x p) [] [] pos) (tE X.K X.mg E (dFn0 den)) := by
  obtain ⟨fa, fd, ps, Fn, hm, hk, hb⟩ := c.ex
  refine pe_wk (pe_call0 Fn (hr.mono hj) hg hm hk hb .nil hx hdb) fun σ H Q q => ?_
  have q2 := spD_call (sp := fun vs H Q E => spD X.K X.mg 0 den (vs ++ []) H Q E) (fun vs H Q E h => by rw [List.append_nil]; exact h) (fun ρ as ρ' h => by cases h; rfl) σ H Q q
  obtain ⟨ρ, F, R, o⟩ := q2
  have o' : ∀ vs F' H', Stp X.K ρ σ F H ρ σ F' H' → AOk X.K ρ σ H ρ F' H' [] vs → spD X.K X.mg 0 den (vs ++ []) H' Q E := o
  exact o' [] F H (Stp.refl R) ⟨rfl, fun k d h => by simp at h, fun k d h => by simp at h, fun k d h => by simp at h, fun k d h => by simp at h, fun k l xs ys p h => by simp at h⟩
end

/-! ### lists changed in place -/
def ownOf : Option En → Option (List PyData)
  | some (.ol xs) => some xs
  | some (.bl xs) => some xs
  | _ => none
theorem ownOf_some {o : Option En} {xs : List PyData} (h : ownOf o = some xs) : o = some (.ol xs) ∨ o = some (.bl xs) := by
  cases o with
  | none => cases h
  | some e =>
    cases e with
    | ol ys => cases h; exact .inl rfl
    | bl ys => cases h; exact .inr rfl
    | _ => cases h
theorem own_upd {K : PySem.W.Frag} {ρ ρ1 : Ev} {σ σ1 : St} {F F1 H H1 : Hp} {i : Nat} {p : Addr} {ws : List V} {xs ys : List PyData} (S : Stp K ρ σ F H ρ1 σ1 F1 H1) (hx : ownOf ρ1[i]? = some xs) (hp : σ1[i]? = some (some (.ref p))) (d : DqAll F1 ws ys) :
    Stp K ρ σ F H (ρ1.set i (reKind ρ1[i]? ys)) σ1 F1 (upd H1 p (.lst ws)) := by
  have hi := ownOf_some hx
  have ho : IsOwn ρ1 i := by
    rcases hi with h | h
    · exact .inl ⟨xs, h⟩
    · exact .inr ⟨xs, h⟩
  have hlt : i < ρ1.length := by rcases hi with h | h <;> exact (List.getElem?_eq_some_iff.mp h).1
  have hown : Own ρ1 σ1 p := own_at ho hp
  obtain ⟨_, hF⟩ := S.rel.own hown
  have self : (ρ1.set i (reKind ρ1[i]? ys))[i]? = some (reKind ρ1[i]? ys) := List.getElem?_set_self hlt
  have kinds : ∀ (j : Nat), IsOwn (ρ1.set i (reKind ρ1[i]? ys)) j → IsOwn ρ1 j := fun j h => by
    by_cases e : j = i
    · rw [e]; exact ho
    · rcases h with ⟨zs, h⟩ | ⟨zs, h⟩
      · rw [List.getElem?_set_ne (Ne.symm e)] at h
        exact .inl ⟨zs, h⟩
      · rw [List.getElem?_set_ne (Ne.symm e)] at h
        exact .inr ⟨zs, h⟩
  refine ⟨⟨fun b x e => ?_, fun j e h => ?_, fun j zs h => ?_, fun j ns h => ?_, fun j k q hj hk => S.rel.sep j k q (kinds j hj) (kinds k hk), by rw [List.length_set]; exact S.rel.ln⟩, S.ff, fun a o h n => ?_, fun q h => ?_, fun j zs h => ?_, fun j zs h => ?_, S.nw, by rw [List.length_set]; exact S.ln, fun a h => ?_⟩
  · rw [upd_ne (fun z => by rw [z, hF] at e; cases e)]
    exact S.rel.sub b x e
  · by_cases e' : j = i
    · rw [e', self] at h
      rcases hi with z | z <;> (rw [z] at h; cases h)
    · rw [List.getElem?_set_ne (Ne.symm e')] at h
      exact S.rel.fz j e h
  · by_cases e' : j = i
    · subst e'
      have e2 : zs = ys := by
        rw [self] at h
        rcases hi with z | z <;> (rw [z] at h; rcases h with h | h <;> cases h; rfl)
      subst e2
      exact ⟨p, ws, hp, upd_same, hF, d⟩
    · rw [List.getElem?_set_ne (Ne.symm e')] at h
      obtain ⟨q, us, a1, a2, a3⟩ := S.rel.ls j zs h
      have oj : IsOwn ρ1 j := by
        rcases h with h | h
        · exact .inl ⟨zs, h⟩
        · exact .inr ⟨zs, h⟩
      have ne : q ≠ p := fun z => e' (S.rel.sep j i p oj ho (by rw [← z]; exact a1) hp)
      exact ⟨q, us, a1, by rw [upd_ne ne]; exact a2, a3⟩
  · by_cases e' : j = i
    · rw [e', self] at h
      rcases hi with z | z <;> (rw [z] at h; cases h)
    · rw [List.getElem?_set_ne (Ne.symm e')] at h
      exact S.rel.sc j ns h
  · have ne : a ≠ p := fun z => S.nob h n (by rw [z]; exact hown)
    rw [upd_ne ne]
    exact S.fr a o h n
  · obtain ⟨j, zs, h1, h2⟩ := h
    by_cases e' : j = i
    · subst e'
      rw [self] at h1
      rcases hi with z | z
      · exact S.oo q ⟨j, xs, z, h2⟩
      · rw [z] at h1
        cases h1
    · rw [List.getElem?_set_ne (Ne.symm e')] at h1
      exact S.oo q ⟨j, zs, h1, h2⟩
  · obtain ⟨⟨us, h1⟩, h2⟩ := S.bk j zs h
    by_cases e' : j = i
    · subst e'
      rw [self, h1]
      exact ⟨⟨ys, rfl⟩, h2⟩
    · rw [List.getElem?_set_ne (Ne.symm e')]
      exact ⟨⟨us, h1⟩, h2⟩
  · by_cases e' : j = i
    · subst e'
      rw [self] at h
      rcases hi with z | z
      · rw [z] at h
        cases h
      · exact S.kb j xs z
    · rw [List.getElem?_set_ne (Ne.symm e')] at h
      exact S.kb j zs h
  · by_cases z : a = p
    · rw [z, upd_same] at h
      cases h
    · rw [upd_ne z] at h
      exact S.dm a h
def sUpd (i : Nat) (g : List PyData → Option (List PyData)) : Dn Fl := fun ρ => match (ownOf ρ[i]?).bind g with
  | some ys => .ok (.nx, ρ.set i (reKind ρ[i]? ys))
  | none => .st
section
variable {X : Cx} {E : XK} {pos : Pos}
def appD (d : PyData) (xs : List PyData) : Option (List PyData) := if okLen (xs.length + 1) then some (xs ++ [d]) else none
def sApp (i : Nat) (f : Dn PyData) : Dn Fl := fun ρ => if (ownOf ρ[i]?).isSome then bnd f (fun d => sUpd i (appD d)) ρ else .st
theorem app_wk {K : PySem.W.Frag} {mg : Str → Option Value} {i : Nat} {f : Dn PyData} (D : Ends) (σ : St) (H : Hp) (q : tS K mg E (sApp i f) D σ H) : tDrop (tBM K "list" rAppend (tVar i) (tCons (tD K mg E f) tNil)) D σ H := by
    obtain ⟨ρ, F, R, q⟩ := q
    unfold sApp at q
    cases hb : (ownOf ρ[i]?).isSome with
    | false => rw [hb] at q; exact (show False from q).elim
    | true =>
    rw [hb] at q
    obtain ⟨xs0, h0⟩ := Option.isSome_iff_exists.mp hb
    obtain ⟨p, ws0, hp, h2, _⟩ := R.ls i xs0 (ownOf_some h0)
    refine ⟨.ref p, hp, .inl ⟨rfl, ws0, .of h2⟩, ρ, F, R, (out_bnd (K := K) (F := F) q).mono fun d ρ1 k v F1 H1 S1 dq => ?_⟩
    have q2 := k _ _ _ S1
    unfold sUpd at q2
    cases hx : ownOf ρ1[i]? with
    | none => rw [hx] at q2; exact (show False from q2).elim
    | some xs =>
      obtain ⟨p', ws, hp', a2, a3, a4⟩ := S1.rel.ls i xs (ownOf_some hx)
      rw [hp] at hp'
      cases hp'
      rw [hx] at q2
      by_cases hl : okLen (xs.length + 1) = true
      · have e1 : (some xs).bind (appD d) = some (xs ++ [d]) := by
          show appD d xs = _
          unfold appD
          rw [if_pos hl]
        rw [e1] at q2
        refine ⟨p, ws, v, rfl, rfl, a2, ?_, ?_⟩
        · have := okLen_le hl
          rw [dps_len a4]
          exact this
        · exact q2 σ F1 _ (own_upd S1 hx hp (dps_app a4 (dps_one dq)))
      · have e1 : (some xs).bind (appD d) = none := by
          show appD d xs = _
          unfold appD
          rw [if_neg hl]
        rw [e1] at q2
        exact (show False from q2).elim
/-- xs[i] = e -/
def setIxD (d k : PyData) (xs : List PyData) : Option (List PyData) := match k with
  | .int n => (ixN xs.length n).map fun j => xs.set j d
  | _ => none
def sSetIx (i : Nat) (fk f : Dn PyData) : Dn Fl := bnd f fun d => fun ρ => if (ownOf ρ[i]?).isSome then bnd fk (fun k => sUpd i (setIxD d k)) ρ else .st
theorem gs_setIx (i : Nat) {x : Str} {e ei : Expr} {p2 tpos : Pos} {f fk : Dn PyData} (he : PE X e (tD X.K X.mg E f)) (hi : PE X ei (tD X.K X.mg E fk)) (hN : X.N[i]? = some x := by rfl) (hv : Vis X.env.scope x := by first | exact Or.inl rfl | exact Or.inr (Or.inl rfl) | exact Or.inr (Or.inr rfl))
    (hd : (x == ("__debug__" : Str)) = false := by decide) (hcd : (x == ("__classdict__" : Str)) = false := by decide)
    (ha : ∀ v, assign (.Subscript (.Name x p2) ei tpos) X.env v = (do
      let ov ← holding [v] (eval (.Name x p2) X.env)
      let iv ← holding [v, ov] (eval ei X.env)
      standAt tpos
      holding [v, ov, iv] (setItem ov iv v)
      release [v, ov, iv] []) := by intro _; rfl)
    (hs : swapsWithSole [.Subscript (.Name x p2) ei tpos] e pos.line X.env = pure false := by rfl) (hw : swappedStores [.Subscript (.Name x p2) ei tpos] e X.env = pure none := by rfl)
    (h1 : (assignEach [.Subscript (.Name x p2) ei tpos] X.env).map (·.2) = [assign (.Subscript (.Name x p2) ei tpos) X.env] := by rfl) :
    PS X (.Assign [.Subscript (.Name x p2) ei tpos] e pos) (tS X.K X.mg E (sSetIx i fk f)) :=
  ps_wk (ps_asg he (pg_sub (pe_var hN hv hd hcd) hi set_list ha) hs hw h1) fun D σ H ⟨ρ, F, R, q⟩ => ⟨ρ, F, R, (out_bnd (K := X.K) (F := F) q).mono fun d ρ1 k v F1 H1 S1 dq => by
    have q2 := k _ _ _ S1
    cases hb : (ownOf ρ1[i]?).isSome with
    | false => rw [hb] at q2; exact (show False from q2).elim
    | true =>
    rw [hb] at q2
    obtain ⟨xs0, h0⟩ := Option.isSome_iff_exists.mp hb
    obtain ⟨p, ws0, hp, h2, _⟩ := S1.rel.ls i xs0 (ownOf_some h0)
    refine ⟨.ref p, hp, ρ1, F1, S1.rel, (out_bnd (K := X.K) (F := F1) q2).mono fun n ρ2 k2 u F2 H2 S2 dn => ?_⟩
    have q3 := k2 _ _ _ S2
    unfold sUpd at q3
    cases hx : ownOf ρ2[i]? with
    | none => rw [hx] at q3; exact (show False from q3).elim
    | some xs =>
      obtain ⟨p', ws, hp', a2, a3, a4⟩ := S2.rel.ls i xs (ownOf_some hx)
      rw [hp] at hp'
      cases hp'
      rw [hx] at q3
      cases dn with
      | int m =>
        cases hj : ixN xs.length m with
        | none =>
          have e1 : (some xs).bind (setIxD d (.int m)) = none := by
            show (ixN xs.length m).map _ = _
            rw [hj]
            rfl
          rw [e1] at q3
          exact (show False from q3).elim
        | some j =>
          have e1 : (some xs).bind (setIxD d (.int m)) = some (xs.set j d) := by
            show (ixN xs.length m).map _ = _
            rw [hj]
            rfl
          rw [e1] at q3
          refine ⟨p, ws, m, j, rfl, rfl, a2, by rw [dps_len a4]; exact hj, ?_⟩
          exact q3 σ F2 _ (own_upd (S1.trans S2) hx hp (dps_set (dp_mono S2.ff d v dq) j a4))
      | _ => exact (show False from q3).elim⟩
/-- xs.pop(k) -/
def dPopAt (i : Nat) (f : Dn PyData) : Dn PyData := fun ρ => if (ownOf ρ[i]?).isSome then bnd f (fun k => fun ρ => match ownOf ρ[i]?, k with
  | some xs, .int n => if small62 n then match seqIndex? n xs.length with
    | some j => match xs[j]? with
      | some d => .ok (d, ρ.set i (reKind ρ[i]? (xs.eraseIdx j)))
      | none => .st
    | none => .st
    else .st
  | _, _ => .st) ρ else .st
theorem popAt_wk {K : PySem.W.Frag} {mg : Str → Option Value} {i : Nat} {f : Dn PyData} (σ : St) (H : Hp) (Q : VK) (q : tD K mg E (dPopAt i f) σ H Q) : tBM K "list" rPopAt (tVar i) (tCons (tD K mg E f) tNil) σ H Q := by
    obtain ⟨ρ, F, R, q⟩ := q
    unfold dPopAt at q
    cases hb : (ownOf ρ[i]?).isSome with
    | false => rw [hb] at q; exact (show False from q).elim
    | true =>
    rw [hb] at q
    obtain ⟨xs0, h0⟩ := Option.isSome_iff_exists.mp hb
    obtain ⟨p, ws0, hp, h2, _⟩ := R.ls i xs0 (ownOf_some h0)
    refine ⟨.ref p, hp, .inl ⟨rfl, ws0, .of h2⟩, ρ, F, R, (out_bnd (K := K) (F := F) q).mono fun d ρ1 k v F1 H1 S1 dq => ?_⟩
    have q2 := k _ _ _ S1
    cases hx : ownOf ρ1[i]? with
    | none => simp only [hx] at q2; exact (show False from q2).elim
    | some xs =>
      obtain ⟨p', ws, hp', a2, a3, a4⟩ := S1.rel.ls i xs (ownOf_some hx)
      rw [hp] at hp'
      cases hp'
      cases dq with
      | int m =>
        simp only [hx] at q2
        by_cases hm : small62 m = true
        · rw [if_pos hm] at q2
          cases hj : seqIndex? m xs.length with
          | none => simp only [hj] at q2; exact (show False from q2).elim
          | some j =>
            simp only [hj] at q2
            cases hd : xs[j]? with
            | none => simp only [hd] at q2; exact (show False from q2).elim
            | some y =>
              simp only [hd] at q2
              obtain ⟨u, e1, e2⟩ := dps_get a4 hd
              obtain ⟨b1, b2⟩ := small62_ok hm
              refine ⟨p, ws, m, j, u, rfl, rfl, a2, by omega, by omega, by rw [dps_len a4]; exact hj, e1, ?_⟩
              exact q2 u F1 _ (own_upd S1 hx hp (dps_erase j a4)) e2
        · rw [if_neg hm] at q2
          exact (show False from q2).elim
      | _ => simp only [hx] at q2; exact (show False from q2).elim
end
end Gx

/-! X1: exceptions of the program as things: made, their field, what they are. -/
namespace Gx
open PySem PySem.Spec L2
open PyProof.Rows hiding St

/-- x.name = v where x is a fresh exception of a class whose base is any built-in one -/
theorem exc_osaG {prog : Program} {w : World} {A : Around} {R : Result → Shared → Prop} {hp : Heap} {g : Array GenState} {d : Drawn} {t : Nat} {os : OsState} {K : W.Frag} {name : Str} {tk : Tok} {v : Value} {x C : Addr} {fv : Array Value} {cd : ClassData}
    {B : String} {bmB : List Value} (SF : StoreFacts B bmB "object.__setattr__" "object") (X : K.In hp) (hx : hp.get? x = some { cls := Value.ref C, data := Data.fields fv }) (hcd : W.clsIn K C = some cd) (ho : W.excOver K C bmB = true) (hh : cd.hasDict = true) (ht : W.takerIn K C name = some none)
    (hq : ∀ (h' : Heap) (tk' dx : Nat), (∀ (b : Addr) (o : Obj), b ≠ x → hp.get? b = some o → h'.get? b = some o) → hp.objs.size ≤ dx → dx ≠ x → h'.get? x = some { cls := Value.ref C, dict := some dx, data := Data.fields fv } → (h'.Ns1 dx fun y => if y = name then some v else none) →
      R (Except.ok (Flow.ret Value.none)) { heap := h', gens := g, drawn := d, toks := tk', os := os }) :
    codeAny (model prog w) A (Code.call (Value.builtin "object.__setattr__") { pos := [Value.ref x, Value.str name tk, v] }) R { heap := hp, gens := g, drawn := d, toks := t, os := os } := by
  have I : W.InstAt hp x { cls := Value.ref C, data := Data.fields fv } C none := ⟨hx, rfl, rfl, trivial⟩
  have hxs : hp.objs.size ≠ x := Nat.ne_of_gt (Heap.lt_size hx)
  refine W.osa_openX SF X I ho ht fun b => ?_
  have hcls := W.looks_clsIn (M := model prog w) X hcd
  obtain ⟨nm, bs, mro, ns, qn, hd, sn, sb, ab, col, del⟩ := cd
  have e : hd = true := hh
  subst e
  show wpAny _ _ (Builtin.ObjectAttr.storeInOwnDict (Value.ref x) (Value.ref C) (Value.str name tk) name v b) _ _ _
  unfold Builtin.ObjectAttr.storeInOwnDict
  refine wpAny_bind ?_
  show wpAny _ _ (pure ()) _ _ _
  refine wpAny_pure (wpAny_ite_false rfl (wpAny_bind ?_))
  show wpAny _ _ (instanceDict x true) _ _ _
  unfold instanceDict
  refine wpAny_bind (wpAny_loadPart_at hx (wpAny_bind (W.Looks.at hcls (wpAny_ite_false rfl (wpAny_ite_false rfl (wpAny_bind (wpAny_alloc' (wpAny_bind (wpAny_update' (Heap.get?_push_of_some _ hx) ?_)))))))))
  refine wpAny_pure (HandSPX.store_in_new ?_ fun h' tk' hn' hs => ?_)
  · refine ⟨{ cls := Value.type "dict", data := Data.dict #[] }, #[], 0, ?_, rfl, fun e he => absurd he (by simp), fun _ => rfl⟩
    exact (Heap.get?_update_ne _ _ x _ hxs).trans (Heap.get?_push_at rfl rfl)
  · have hx₁ := Heap.get?_push_of_some { cls := Value.type "dict", data := Data.dict #[] } hx
    refine hq h' tk' hp.objs.size (fun b o hb ho => (hs.2 b (Nat.ne_of_lt (Heap.lt_size ho))).trans ((Heap.get?_update_ne _ b x _ hb).trans (Heap.get?_push_of_some _ ho))) (Nat.le_refl _) hxs ?_ hn'
    exact (hs.2 x (Ne.symm hxs)).trans (Heap.get?_update_self _ hx₁ rfl)

/-- what the text says of an exception class of the program whose base is the built-in one B -/
structure OexG (K : PySem.W.Frag) (C : Addr) (B newId : String) (bmB : List Value) : Prop where
  cls : ∃ nm q N bs bm sn sub ab col dd k0 k1 k2 k3 k5, List.lookup C K = some (excClassObj nm q C N bs bm true sn sub ab col dd k0 k1 k2 k3 k5 newId) ∧ ∀ Y : String, bm.contains (Value.type Y) = bmB.contains (Value.type Y)
  ov : PySem.W.excOver K C bmB = true
  sa : PySem.W.findIn K (Value.ref C) (Str.ofString "__setattr__") = some (some (Value.builtin "object.__setattr__"))
  kC : PySem.W.keepIn K (Value.ref C) = true
/-- the built-in base -/
structure BaseG (B newId initId : String) (bmB : List Value) : Prop where
  sf : StoreFacts B bmB "object.__setattr__" "object"
  ef : ExcBaseFacts B newId initId bmB
  ty : typeOf (Value.type B) = pure (Value.type "type")
  st : Manifest.isStub B = false
  hi : PySem.W.handedIn (Value.builtin initId) = true
abbrev bmLE : List Value := [Value.type "LookupError", Value.type "Exception", Value.type "BaseException", Value.type "object"]
abbrev bmVE : List Value := [Value.type "ValueError", Value.type "Exception", Value.type "BaseException", Value.type "object"]
theorem baseLE : BaseG "LookupError" "LookupError.__new__" "LookupError.__init__" bmLE := ⟨F.store_LookupError, F.excBase_LookupError, by rfl, by decide +kernel, by decide +kernel⟩
theorem baseVE : BaseG "ValueError" "ValueError.__new__" "ValueError.__init__" bmVE := ⟨F.store_ValueError, F.excBase_ValueError, by rfl, by decide +kernel, by decide +kernel⟩
section
variable {X : Cx} {pins : List (Addr × Obj)} {σ : St} {H : Hp} {s : Shared} {a C : Addr} {E : Value → Shared → Prop} {A : Around} {us : List Value} {B newId initId : String} {bmB : List Value}
theorem oinit_okG {Q : Value → Shared → Prop} (BG : BaseG B newId initId bmB) (T : OexG X.K C B newId bmB) (I : L2.Inv X pins σ H s) (e : H a = some (exo a C none)) (hl : us.length ≤ sizeLine) (h : ∀ s' : Shared, L2.Inv X pins σ H s' → Q Value.none s') :
    wpAny (model X.prog X.w) A (call (Value.builtin initId) (Value.ref a :: us)) Q E s := by
  obtain ⟨nm, q, N, bs, bm, sn, sub, ab, col, dd, k0, k1, k2, k3, k5, hC, hbm⟩ := T.cls
  obtain ⟨t1, ho⟩ := exo_at I.hok e
  obtain ⟨hp, g, d, t, os⟩ := s
  refine wpAny_call (HandSPX.init_base BG.ef hbm (I.kIn C _ hC) ho hl fun h' t2 k hx => ?_)
  have J := I.write (t' := t) (o := exo a C none) (by rw [e]; trivial) (Or.inl rfl) k ⟨_, hx⟩ (exo_ok hx)
  have eu : upd H a (exo a C none) = H := by
    funext b
    by_cases hb : b = a
    · subst hb
      rw [upd_same, e]
    · rw [upd_ne hb]
  rw [eu] at J
  exact h _ J
theorem ost_newG {f : Str} {y : V} {u : Value} {Q : Unit → Shared → Prop} (BG : BaseG B newId initId bmB) (T : OexG X.K C B newId bmB) (I : L2.Inv X pins σ H s) (e : H a = some (exo a C none)) (hno : PySem.W.findIn X.K (Value.ref C) f = some none) (ry : RelV y u)
    (h : ∀ (dx : Addr) (s' : Shared), H dx = none → dx ≠ a → L2.Inv X pins σ (upd (upd H dx (exd dx [(f, y)])) a (exo a C (some dx))) s' → Q () s') : wpAny (model X.prog X.w) A (setAttr (Value.ref a) f u) Q E s := by
  obtain ⟨nm, q, N, bs, bm, sn, sub, ab, col, dd, k0, k1, k2, k3, k5, hC, hbm⟩ := T.cls
  have hcl : PySem.W.clsIn X.K C = some { name := nm, bases := bs, mro := Value.ref C :: bm, ns := N, qualname := q, hasDict := true, slotNames := sn, subclasses := sub, abstract := ab, collection := col, hasDel := false } := by
    unfold PySem.W.clsIn
    rw [hC] <;> rfl
  have htk : PySem.W.takerIn X.K C f = some none := by
    unfold PySem.W.takerIn
    rw [hno]
    rfl
  obtain ⟨t1, ho⟩ := exo_at I.hok e
  obtain ⟨hp, g, d, t, os⟩ := s
  refine PySem.W.set_plain (od := none) I.kIn ⟨ho, rfl, rfl, trivial⟩ T.sa (exc_osaG BG.sf I.kIn ho hcl T.ov rfl htk fun h' tk' dx k dn dne hx hn => ?_)
  have hnd : H dx = none := I.hok.fresh dn
  have nd : ∀ {b : Addr} {o : Obj}, hp.get? b = some o → b ≠ dx := fun q => Nat.ne_of_lt (Nat.lt_of_lt_of_le (Heap.lt_size q) dn)
  have na : ∀ {b : Addr}, H b = none → b ≠ a := fun n z => by rw [z, e] at n; cases n
  have U : Un X.fs [] H (upd (upd H dx (exd dx [(f, y)])) a (exo a C (some dx))) hp h' :=
    { keep := fun b o q n _ _ => k b o (na n) q
      slot := fun b o q n _ _ => ⟨o.slots, k b o (na n) q⟩
      free := fun b o q n _ => by rw [upd_ne (na n), upd_ne (nd q)]; exact n
      there := fun b o q _ => by
        by_cases hb : b = a
        · subst hb; exact ⟨_, hx⟩
        · exact ⟨o, k b o hb q⟩
      tups := fun b xs q => by rw [upd_ne (at_ne e q exo_tup), upd_ne (ne_of_none q hnd)]; exact q
      frzs := fun b o v q => by rw [upd_ne (at_ne e q exo_frz), upd_ne (ne_of_none q hnd)]; exact q
      tbls := fun b ps q => ⟨#[], by rw [upd_ne (at_ne e q exo_tbl), upd_ne (ne_of_none q hnd), q]; simp⟩ }
  refine h dx ⟨h', g, d, tk', os⟩ hnd dne (I.un (t' := tk') U fun b o q => ?_)
  by_cases hb : b = a
  · subst hb
    rw [upd_same] at q
    cases q
    exact exo_ok hx
  · rw [upd_ne hb] at q
    by_cases hd : b = dx
    · subst hd
      rw [upd_same] at q
      cases q
      exact exd_ok hn (relO_put ry fun g => trivial)
    · rw [upd_ne hd] at q
      exact ObjOk.stay (I.hok b o q) (fun c v hc z => k c v (by
          rcases hc with hc | hc
          · rw [hc]; exact hb
          · exact at_ne e hc exo_own) z)
        (fun c hc => by rw [upd_ne (at_ne e hc exo_own), upd_ne (ne_of_none hc hnd)]; exact hc)
        (fun c xs hc => by rw [upd_ne (at_ne e hc exo_tup), upd_ne (ne_of_none hc hnd)]; exact hc)
/-- B.__init__(self, ..) -/
def tBI (B newId : String) (bmB : List Value) (K : PySem.W.Frag) (ta : TA) : TE := fun σ H Q => ta σ H fun vs H1 => ∃ a C ws, vs = V.ref a :: ws ∧ ws.length ≤ 1000 ∧ OexG K C B newId bmB ∧ H1 a = some (exo a C none) ∧ Q V.non H1
theorem pe_binit {x : Str} {e : Expr} {es : List Expr} {ta : TA} {p1 p2 pos : Pos} {pl : Sem Bool} (BG : BaseG B newId initId bmB) (hg : Gl X x) (hm : X.mg x = none) (hv : bootBuiltins x = some (.type B)) (hi : PySem.W.findCls X.K (Value.type B) (Value.type "type") (Str.ofString "__init__") = some (PySem.W.CFound.val (Value.builtin initId))) (ha : PA X (e :: es) ta)
    (hn : x ≠ "__name__" := by decide) (hdb : (x == ("__debug__" : Str)) = false := by decide)
    (hev : eval (.Call (.Attribute (.Name x p1) (Str.ofString "__init__") p2) (e :: es) [] pos) X.env = (do
      let ov ← eval (.Name x p1) X.env
      standAt p2.atName
      let y ← holding [ov] (getMethod ov (Str.ofString "__init__") pl)
      match y with
      | (f, first) => callWith pos f first (backTo pos (starEach (e :: es) X.env)) (backToKw pos (keywordEach [] X.env))) := by rfl)
    (he : starEach (e :: es) X.env = (false, eval e X.env) :: starEach es X.env := by rfl) (hpl : (backTo pos (starEach es X.env)).any (·.1) = false := by rfl) :
    PE X (.Call (.Attribute (.Name x p1) (Str.ofString "__init__") p2) (e :: es) [] pos) (tBI B newId bmB X.K ta) := by
  refine ⟨fun pins s σ H Q I h => ?_⟩
  refine PySem.W.methodCall_KW (pl := pl) (ld_blt I hg hm hv ?_ hn hdb) hev
  obtain ⟨m, fr⟩ := I.fr
  refine PySem.W.method_type fr I.ok.mod.kin BG.ty BG.st hi BG.hi ?_
  refine PyProof.Rows.callWith_method1 (thn (ha.run pos pins _ σ H _ (I.tok _) h) fun us s1 hh => ?_) he hpl
  obtain ⟨vs, H1, I1, r1, a, C, ws, ev, hz, T, ea, q⟩ := hh
  subst ev
  cases r1 with
  | @cons _ u _ us' ru rus =>
    obtain rfl : u = Value.ref a := ru
    have hl := rus.length
    exact oinit_okG BG T I1 ea (by rw [sizeLine_eq]; have := rus.length; omega) fun s' I2 => ⟨.non, H1, I2, rfl, q⟩
/-- self.f = e -/
def tOsG (B newId : String) (bmB : List Value) (K : PySem.W.Frag) (f : Str) (to te : TE) : TS := fun D σ H => te σ H fun y H1 => to σ H1 fun x H2 => ∃ a C, x = V.ref a ∧ OexG K C B newId bmB ∧ PySem.W.findIn K (Value.ref C) f = some none ∧ H2 a = some (exo a C none) ∧
  ∀ dx : Addr, H2 dx = none → dx ≠ a → D.nx σ (upd (upd H2 dx (exd dx [(f, y)])) a (exo a C (some dx)))
theorem ps_ostG {o e : Expr} {to te : TE} {f : Str} {p' pos : Pos} (BG : BaseG B newId initId bmB) (ho : PE X o to) (he : PE X e te) (hs : swapsWith e (some (.Attribute o f p')) pos.line X.env = pure false := by rfl) :
    PS X (.Assign [.Attribute o f p'] e pos) (tOsG B newId bmB X.K f to te) :=
  ⟨fun pins s σ H D I h => plainObj_wpAny_Assign_Attribute (thn (he.run pins s σ H _ I h) fun v s1 hh => by
    obtain ⟨y, H1, I1, r1, q1⟩ := hh
    refine thn (ho.run pins s1 σ H1 _ I1 q1) fun u s2 h2 => ?_
    obtain ⟨x, H2, I2, r2, a, C, ex, T, hno, ea, q⟩ := h2
    subst ex
    obtain rfl : u = Value.ref a := r2
    exact ost_newG BG T I2 ea hno r1 fun dx s' n ne J => ⟨σ, _, J, q dx n ne⟩) hs⟩
end
end Gx

namespace Gx
open PySem PySem.Spec L2
theorem check_kw {B newId initId : String} {bmB : List Value} (F : ExcBaseFacts B newId initId bmB) (C : Addr) (x : Str) (v : Value) : checkBuiltinCall newId { pos := [Value.ref C], kw := [(x, v)] } = checkBuiltinCall newId { pos := [Value.ref C] } := by
  have key : Bind.checkArgs newId { machinery := Manifest.Machinery.any, full := B, short := B, receiver := Manifest.Receiver.cls, params := [{ name := "args", kind := Manifest.ParamKind.varPos, required := false }, { name := "kwargs", kind := Manifest.ParamKind.varKw, required := false }] } { pos := [Value.ref C], kw := [(x, v)] } = Bind.checkArgs newId { machinery := Manifest.Machinery.any, full := B, short := B, receiver := Manifest.Receiver.cls, params := [{ name := "args", kind := Manifest.ParamKind.varPos, required := false }, { name := "kwargs", kind := Manifest.ParamKind.varKw, required := false }] } { pos := [Value.ref C] } := by
    unfold Bind.checkArgs
    rfl
  unfold checkBuiltinCall
  rw [F.newRow, F.newKind, F.newSplit]
  simp only [key]

/-- C(x=v) where C is a class of the program over a built-in exception, with its own __init__ -/
theorem new_kw {prog : Program} {w : World} {A : Around} {R : Result → Shared → Prop} {h : Heap} {g : Array GenState} {d : Drawn} {t : Nat} {os : OsState} {nm q : Str} {C N : Addr} {bs bm bmB : List Value} {hdct : Bool} {sn : List Str} {sub : List Value} {ab : Bool} {col : Option Bool} {dd : Option Addr} {k0 k1 k2 k3 k5 : Option Value} {B newId initId : String}
    (F : ExcBaseFacts B newId initId bmB) (hT : ∀ Y : String, bm.contains (Value.type Y) = bmB.contains (Value.type Y)) {kw : List (Str × Value)} (hC : h.get? C = some (excClassObj nm q C N bs bm hdct sn sub ab col dd k0 k1 k2 k3 k5 newId))
    (hq : R (Except.ok (Flow.ret (Value.ref (h.objs.size + 1)))) { heap := (h.push (PySem.W.kdv_tup [])).push (HandSPX.excO C h.objs.size), gens := g, drawn := d, toks := t, os := os }) :
    codeAny (model prog w) A (Code.builtin newId { pos := [Value.ref C], kw := kw }) R { heap := h, gens := g, drawn := d, toks := t, os := os } := by
  have hcB : (Value.ref C :: bm).contains (Value.type B) = true := by rw [List.contains_cons, hT B, F.hasB]; exact Bool.or_true _
  have hcA : (Value.ref C :: bm).contains (Value.type "AttributeError") = false := by rw [List.contains_cons, hT "AttributeError", F.noAttr]; rfl
  have hcN : (Value.ref C :: bm).contains (Value.type "NameError") = false := by rw [List.contains_cons, hT "NameError", F.noName]; rfl
  refine codeAny_builtinAt F.entry (PySem.wpAt_bind ?_)
  refine PySem.wpAt_bind (wpAt_stack fun p below => wpAt_of_wpAny ?_)
  refine wpAny_ite_true (by rw [F.ends]; rfl) (wpAny_pure (wpAt_of_wpAny ?_))
  rw [F.owner]
  refine wpAny_bind ?_
  refine wpAny_bind (wpAny_loadPart_at hC (wpAny_pure (wpAny_ite_false rfl (wpAny_bind (wpAny_isSubtype_exc hC ?_)))))
  rw [hcB]
  refine wpAny_ite_false rfl (wpAny_bind (wpAny_madeHere_exc F.canon hC (wpAny_bind ?_)))
  refine wpAny_bind (wpAny_isSubtype_exc hC ?_)
  rw [hcA]
  refine wpAny_ite_false rfl (wpAny_bind (wpAny_isSubtype_exc hC ?_))
  rw [hcN]
  refine wpAny_ite_false rfl (wpAny_pure (wpAny_bind ?_))
  refine wpAny_newTuple ?_ (by rw [sizeLine_eq]; decide)
  refine wpAny_bind ?_
  unfold newObj
  refine wpAny_ite_false ?_ ?_
  · rw [sizeLine_eq]; rfl
  unfold newObjAsIs
  refine wpAny_bind (wpAny_alloc' (wpAny_bind ?_))
  unfold classHasDel
  refine wpAny_bind (wpAny_load' (Heap.get?_push_of_some _ (Heap.get?_push_of_some _ hC)) (wpAny_pure (wpAny_ite_false rfl (wpAny_pure ?_))))
  refine wpAny_pure ?_
  show R (Except.ok (Flow.ret (Value.ref (h.push (PySem.W.kdv_tup [])).objs.size))) _
  rw [Heap.size_push]
  exact hq

theorem type_call_kw {prog : Program} {w : World} {A : Around} {E : Value → Shared → Prop} {h : Heap} {g : Array GenState} {d : Drawn} {t : Nat} {os : OsState} {nm q : Str} {C N : Addr} {bs bm bmB : List Value} {hdct : Bool} {sn : List Str} {sub : List Value} {ab : Bool} {col : Option Bool} {dd : Option Addr} {k0 k1 k2 k3 k5 : Option Value} {B newId initId : String}
    (F : ExcBaseFacts B newId initId bmB) (hT : ∀ Y : String, bm.contains (Value.type Y) = bmB.contains (Value.type Y)) {x : Str} {v : Value} {fI : Addr} {Q : PySem.Fin → Shared → Prop} (hC : h.get? C = some (excClassObj nm q C N bs bm hdct sn sub ab col dd k0 k1 k2 k3 k5 newId))
    (hi : PySem.W.Looks (model prog w) h (typeLookup (Value.ref C) (Str.ofString "__init__")) (some (Value.ref fI))) (hb : ∀ self : Value, PySem.W.Looks (model prog w) h (bindSpecial (Value.ref fI) self) (Value.ref fI, [self]))
    (hq : codeAny (model prog w) A (Code.call (Value.ref fI) { pos := [Value.ref (h.objs.size + 1)], kw := [(x, v)] }) (fun r s' => match r with
        | Except.ok (Flow.ret v) => v = Value.none ∧ Q (Fin.done (Flow.ret (Value.ref (h.objs.size + 1)))) s'
        | Except.ok a => False
        | Except.error e => E e s') { heap := (h.push (PySem.W.kdv_tup [])).push (HandSPX.excO C h.objs.size), gens := g, drawn := d, toks := t, os := os }) :
    wpAny (model prog w) A (Builtin.«type.__call__» { pos := [Value.ref C], kw := [(x, v)] }) Q E { heap := h, gens := g, drawn := d, toks := t, os := os } := by
  have k : ∀ b o, h.get? b = some o → ((h.push (PySem.W.kdv_tup [])).push (HandSPX.excO C h.objs.size)).get? b = some o := fun b o e => Heap.get?_push_of_some _ (Heap.get?_push_of_some _ e)
  have hC₁ := k C _ hC
  have hget : ((h.push (PySem.W.kdv_tup [])).push (HandSPX.excO C h.objs.size)).get? (h.objs.size + 1) = some (HandSPX.excO C h.objs.size) := Heap.get?_push_at (by simp) rfl
  have hcC : (Value.ref C :: bm).contains (Value.ref C) = true := by simp
  have i1 := PySem.W.Looks.keeps hi k
  have b1 := PySem.W.Looks.keeps (hb (Value.ref (h.objs.size + 1))) k
  unfold Builtin.«type.__call__»
  refine wpAny_ite_false rfl (wpAny_bind ?_)
  unfold mroOf
  refine wpAny_bind ?_
  refine wpAny_bind (wpAny_load' hC (wpAny_pure (wpAny_pure (wpAny_ite_false rfl (wpAny_bind (wpAny_madeBy_exc hC (wpAny_bind (wpAny_pure (wpAny_bind (wpAny_holding (wpAny_call (codeAny_call_builtin_code (Code.quiet_builtin _ F.quiet) ?_))))))))))))
  show wpAny _ _ (checkBuiltinCall newId { pos := [Value.ref C], kw := [(x, v)] }) _ _ _
  rw [check_kw F]
  refine HandSPX.check_new_own F hT hC (new_kw F hT hC ?_)
  refine wpAny_bind ?_
  unfold isInstance
  refine wpAny_bind ?_
  unfold typeOf
  refine wpAny_bind (wpAny_loadPart_at hget (wpAny_pure (wpAny_isSubtype_exc hC₁ ?_)))
  rw [hcC]
  refine wpAny_ite_false rfl (wpAny_bind (wpAny_holding ?_))
  unfold callSpecial?
  refine wpAny_bind ?_
  unfold specialOf
  refine wpAny_bind ?_
  unfold typeOf
  refine wpAny_bind (wpAny_loadPart_at hget (wpAny_pure ?_))
  refine PySem.W.Looks.at i1 (wpAny_holding (wpAny_bind (PySem.W.Looks.at b1 (wpAny_bind (wpAny_call (codeAny_mono hq fun r s' z => ?_))))))
  match r, z with
  | .error e, z => exact z
  | .ok (.ret v), z =>
    obtain ⟨rfl, z⟩ := z
    exact wpAny_pure (wpAny_pure z)

theorem sig_tc : Manifest.signature? "type.__call__" = some { machinery := Manifest.Machinery.hand, full := "wrapper __call__", short := "", receiver := Manifest.Receiver.self, params := [] } := by rfl
theorem kind_tc : builtinKind "type.__call__" = some Manifest.AttrKind.slot := by decide +kernel
theorem split_tc : splitId "type.__call__" = some ("type", "__call__") := by decide +kernel
theorem check_tc_kw (C : Addr) (x : Str) (v : Value) : checkBuiltinCall "type.__call__" { pos := [Value.ref C], kw := [(x, v)] } = checkBuiltinCall "type.__call__" { pos := [Value.ref C] } := by
  have key : Bind.checkArgs "type.__call__" { machinery := Manifest.Machinery.hand, full := "wrapper __call__", short := "", receiver := Manifest.Receiver.self, params := [] } { pos := [Value.ref C], kw := [(x, v)] } = Bind.checkArgs "type.__call__" { machinery := Manifest.Machinery.hand, full := "wrapper __call__", short := "", receiver := Manifest.Receiver.self, params := [] } { pos := [Value.ref C] } := by
    unfold Bind.checkArgs
    rfl
  unfold checkBuiltinCall
  rw [sig_tc, kind_tc, split_tc]
  simp only [key]
theorem call_own_kw {prog : Program} {w : World} {A : Around} {R : Result → Shared → Prop} {h : Heap} {g : Array GenState} {d : Drawn} {t : Nat} {os : OsState} {nm q : Str} {C N : Addr} {bs bm bmB : List Value} {hdct : Bool} {sn : List Str} {sub : List Value} {ab : Bool} {col : Option Bool} {dd : Option Addr} {k0 k1 k2 k3 k5 : Option Value} {B newId initId : String}
    (F : ExcBaseFacts B newId initId bmB) (hT : ∀ Y : String, bm.contains (Value.type Y) = bmB.contains (Value.type Y)) {x : Str} {v : Value} {fI : Addr} (hC : h.get? C = some (excClassObj nm q C N bs bm hdct sn sub ab col dd k0 k1 k2 k3 k5 newId))
    (hi : PySem.W.Looks (model prog w) h (typeLookup (Value.ref C) (Str.ofString "__init__")) (some (Value.ref fI))) (hb : ∀ self : Value, PySem.W.Looks (model prog w) h (bindSpecial (Value.ref fI) self) (Value.ref fI, [self]))
    (hq : codeAny (model prog w) (A.under (Code.builtin "type.__call__" { pos := [Value.ref C], kw := [(x, v)] })) (Code.call (Value.ref fI) { pos := [Value.ref (h.objs.size + 1)], kw := [(x, v)] }) (PySem.W.InitBack (h.objs.size + 1) R) { heap := (h.push (PySem.W.kdv_tup [])).push (HandSPX.excO C h.objs.size), gens := g, drawn := d, toks := t, os := os }) :
    codeAny (model prog w) A (Code.call (Value.ref C) { pos := [], kw := [(x, v)] }) R { heap := h, gens := g, drawn := d, toks := t, os := os } := by
  have hTy : Shared.TypeIs { heap := h, gens := g, drawn := d, toks := t, os := os } (Value.ref C) "type" := ⟨_, hC, rfl⟩
  refine codeAny_of_tree ?_
  show wpAny _ _ (_ >>= _) _ _ _
  refine wpAny_bind (wpAny_load' hC ?_)
  show wpAny _ _ (callAny.viaDunder (Value.ref C) { pos := [], kw := [(x, v)] }) _ _ _
  unfold callAny.viaDunder
  refine wpAny_bind (wpAny_specialOf hTy tc_lookup (wpAny_bind (wpAny_of_eq (tc_bind (Value.ref C)) (wpAny_bind ?_))))
  show wpAny _ _ (pure _) _ _ _
  refine wpAny_pure (wpAny_ite_true rfl ?_)
  show wpAny _ _ (pure _) _ _ _
  refine wpAny_pure ⟨rfl, codeAny_call_builtin_at (Code.quiet_builtin _ (by decide +kernel)) entry_typeCall ?_⟩
  show wpAny _ _ (checkBuiltinCall "type.__call__" { pos := [Value.ref C], kw := [(x, v)] }) _ _ _
  rw [check_tc_kw]
  refine wpAny_check_type_call_sub hC (type_call_kw F hT hC hi hb (codeAny_mono hq fun r s' z => ?_))
  match r, z with
  | .error e, z => exact z
  | .ok (.ret v), z => exact z
end Gx

/-! X3: the program's own __init__; exceptions made, as data. -/
namespace Gx
open PySem PySem.Spec L2
open PyProof.Rows hiding St

abbrev iSt (bx tx : Str) (p1 p2 p3 p4 p5 p6 p7 p8 p9 p10 p11 p12 p13 p14 p15 : Pos) : Stmt :=
  .FunctionDef (name := "__init__") (args := { posonlyargs := [], args := [{ arg := "self", annotation := none, pos := p1 }, { arg := "number", annotation := none, pos := p2 }], vararg := none, kwonlyargs := [], kw_defaults := [], kwarg := none, defaults := [] })
    (body := [.Expr (.Call (.Attribute (.Name bx p3) "__init__" p4) [.Name "self" p5, .JoinedStr [.Constant (.str tx) 0 p6, .FormattedValue (.Name "number" p7) (-1) none p8] p9] [] p10) p10,
      .Assign [.Attribute (.Name "self" p11) "number" p12] (.Name "number" p13) p14])
    (decorator_list := []) (returns := none) (type_params := [])
    (scope := { kind := .function, names := [(Str.ofString "self", .local), (Str.ofString "number", .local), (bx, .globalImplicit)], isGenerator := false, isCoroutine := false, more := [] }) (tscope := none) (bind := "__init__") (pos := p15)
/-- a number whose text is short -/
def okN (n : Int) : Bool := decide (n.natAbs < 2 ^ 63)
theorem okN_log {n : Int} (h : okN n = true) : n.natAbs.log2 < 1920 := by
  have h' : n.natAbs < 2 ^ 63 := of_decide_eq_true h
  by_cases z : n.natAbs = 0
  · rw [z]; decide
  · have := (Nat.log2_lt z).mpr h'
    omega
theorem okN_len {n : Int} (h : okN n = true) : (Str.ofString (toString n)).length ≤ 64 := by
  have h' : n.natAbs < 2 ^ 63 := of_decide_eq_true h
  rw [PySem.ofString_length]
  cases n with
  | ofNat m =>
    have : (toString (Int.ofNat m)) = m.repr := rfl
    rw [this]
    have := PySem.nat_repr_length_le (n := m) (k := 63) (by decide) h'
    omega
  | negSucc m =>
    have : (toString (Int.negSucc m)) = "-" ++ (m + 1).repr := rfl
    rw [this, String.length_append]
    have := PySem.nat_repr_length_le (n := m + 1) (k := 63) (by decide) h'
    have e : ("-" : String).length = 1 := by decide
    omega
def spI (C : Addr) : Sp := fun vs H Q _ => ∃ a n, vs = [.ref a, .int n] ∧ okN n = true ∧ H a = some (exo a C none) ∧ ∀ dx : Addr, H dx = none → dx ≠ a → Q .non (upd (upd H dx (exd dx [(("number" : Str), .int n)])) a (exo a C (some dx)))
section
variable {P : Program} {w : World} {K : PySem.W.Frag} {mg : Str → Option Value} {base : Heap} {C f : Addr} {qual : Str} {fd : FuncData} {newId initId : String} {bmB : List Value}
theorem str_app (a b : Str) : (a ++ b).length = a.length + b.length := by
  show (a.cps ++ b.cps).size = _
  rw [Array.size_append]
  rfl
theorem pure_init {B : String} {T : OexG K C B newId bmB} (hno : PySem.W.findIn K (Value.ref C) "number" = some none) {tx : Str} (hx : tx.length ≤ 100) (vs : List V) (H : Hp) (Q : VK) (E : XK) (h : spI C vs H Q E) :
    (tSeq (tDrop (tBI B newId bmB K (tCons (tVar 0) (tCons (fun σ H Q => tJs [tC (.str tx), tFmt (tVar 1)] Str.empty σ H fun out H1 => Q (V.str out) H1) tNil)))) (tOsG B newId bmB K "number" (tVar 0) (tVar 1))) { nx := fun _ H' => Q .non H', rt := Q } (L2.start ["self", "number"] vs) H := by
  obtain ⟨a, n, rfl, ok, ea, q⟩ := h
  have l0 : (Str.empty ++ tx).length ≤ 100 := by
    rw [str_app]
    show 0 + tx.length ≤ 100
    omega
  refine ⟨.ref a, rfl, ?_⟩
  refine ⟨tx, rfl, by rw [sizeLine_eq]; omega, .int n, rfl, .inr ⟨n, rfl, okN_log ok, _, rfl, ?_, ?_⟩⟩
  · rw [str_app, sizeLine_eq]
    have := okN_len ok
    omega
  · refine ⟨a, C, _, rfl, by simp, T, ea, ?_⟩
    exact ⟨.int n, rfl, .ref a, rfl, a, C, rfl, T, hno, ea, fun dx n1 n2 => q dx n1 n2⟩
theorem ev_meth {env : Env} {x nm : Str} {es : List Expr} {p3 p4 p10 : Pos} (hl : (p4.endLine == p10.line) = true) (hf : methodCallForm (es.length + 0) (backTo p10 (starEach es env)) (backToKw p10 (keywordEach [] env)) = true) : eval (((Expr.Name x p3).Attribute nm p4).Call es [] p10) env = (do
    let ov ← eval (Expr.Name x p3) env
    standAt p4.atName
    let y ← holding [ov] (getMethod ov nm (do
      let b ← importBound (Expr.Name x p3) env
      pure (b.getD true)))
    match y with
      | (f_1, first) => callWith p10 f_1 first (backTo p10 (starEach es env)) (backToKw p10 (keywordEach [] env))) := by
  have e1 : ∀ few, methodCallPos few (Expr.Name x p3) env p4 p10 = pure p10 := fun few => by
    unfold methodCallPos
    rw [hl, Bool.or_true]
    rfl
  have e2 : ∀ ov, methodCall (Expr.Name x p3) nm p4 p10 env ov (es.length + 0) (backTo p10 (starEach es env)) (backToKw p10 (keywordEach [] env)) = (do
      let y ← holding [ov] (getMethod ov nm (do
        let b ← importBound (Expr.Name x p3) env
        pure (b.getD true)))
      match y with
        | (f_1, first) => callWith p10 f_1 first (backTo p10 (starEach es env)) (backToKw p10 (keywordEach [] env))) := fun ov => by
    unfold methodCall
    rw [hf]
    simp only [e1]
    rfl
  have e3 : eval (((Expr.Name x p3).Attribute nm p4).Call es [] p10) env = (do
    let ov ← eval (Expr.Name x p3) env
    standAt p4.atName
    methodCall (Expr.Name x p3) nm p4 p10 env ov (es.length + 0) (backTo p10 (starEach es env)) (backToKw p10 (keywordEach [] env))) := by rfl
  rw [e3]
  simp only [e2]
theorem pe_binitL {X : Cx} {B newId initId : String} {bmB : List Value} {x : Str} {e : Expr} {es : List Expr} {ta : TA} {p1 p2 pos : Pos} (hl : (p2.endLine == pos.line) = true) (BG : BaseG B newId initId bmB) (hg : Gl X x) (hm : X.mg x = none) (hv : bootBuiltins x = some (.type B)) (hi : PySem.W.findCls X.K (Value.type B) (Value.type "type") (Str.ofString "__init__") = some (PySem.W.CFound.val (Value.builtin initId))) (ha : PA X (e :: es) ta)
    (hf : methodCallForm ((e :: es).length + 0) (backTo pos (starEach (e :: es) X.env)) (backToKw pos (keywordEach [] X.env)) = true := by rfl)
    (hn : x ≠ "__name__" := by decide) (hdb : (x == ("__debug__" : Str)) = false := by decide) (he : starEach (e :: es) X.env = (false, eval e X.env) :: starEach es X.env := by rfl) (hpl : (backTo pos (starEach es X.env)).any (·.1) = false := by rfl) :
    PE X (.Call (.Attribute (.Name x p1) (Str.ofString "__init__") p2) (e :: es) [] pos) (tBI B newId bmB X.K ta) := pe_binit BG hg hm hv hi ha hn hdb (ev_meth hl hf) he hpl
theorem sc_init {bx tx : Str} (p1 p2 p3 p4 p5 p6 p7 p8 p9 p10 p11 p12 p13 p14 p15 : Pos) : FnScope ["self", "number"] ["self", "number"] (defScope (iSt bx tx p1 p2 p3 p4 p5 p6 p7 p8 p9 p10 p11 p12 p13 p14 p15)) := by
  refine ⟨rfl, rfl, rfl, by decide +kernel, rfl, ?_, ?_⟩
  · intro x hx
    simp at hx
    rcases hx with rfl | rfl
    · exact .inl rfl
    · exact .inl rfl
  · intro y hy
    simp [defScope] at hy
    rcases hy with rfl | rfl | rfl <;> simp
theorem ok_initLE {tx : Str} {p1 p2 p3 p4 p5 p6 p7 p8 p9 p10 p11 p12 p13 p14 p15 : Pos} (F : Fun K "__init__" qual (iSt "LookupError" tx p1 p2 p3 p4 p5 p6 p7 p8 p9 p10 p11 p12 p13 p14 p15) f fd) (T : OexG K C "LookupError" "LookupError.__new__" bmLE) (hx : tx.length ≤ 100)
    (hno : PySem.W.findIn K (Value.ref C) "number" = some none) (hi : PySem.W.findCls K (Value.type "LookupError") (Value.type "type") "__init__" = some (PySem.W.CFound.val (Value.builtin "LookupError.__init__"))) (hm : mg "LookupError" = none) (hl : (p4.endLine == p10.line) = true) :
    FnOk P w K mg base (L2.CX P w) 2 f fd ["self", "number"] (spI C) := by
  refine F.okX (sc_init p1 p2 p3 p4 p5 p6 p7 p8 p9 p10 p11 p12 p13 p14 p15) (fun vs H Q E h => ?_) (fun cdv A outer s H vs Q E hr h => ⟨_, ?_, pure_init (T := T) hno hx vs H Q E h⟩)
  · obtain ⟨a, n, rfl, _⟩ := h
    rfl
  · exact pss_cons (ps_expr (pe_binitL hl baseLE (by rfl) hm PyProof.Rows.Boot.LookupError hi (pa_cons (pv 0) (pa_cons (pe_joined (.cons pe_str (.cons (pe_fmt (pv 1)) .nil))) pa_nil))))
      (pss_one (ps_ostG baseLE (pv 0) (pv 1)))
theorem ok_initVE {tx : Str} {p1 p2 p3 p4 p5 p6 p7 p8 p9 p10 p11 p12 p13 p14 p15 : Pos} (F : Fun K "__init__" qual (iSt "ValueError" tx p1 p2 p3 p4 p5 p6 p7 p8 p9 p10 p11 p12 p13 p14 p15) f fd) (T : OexG K C "ValueError" "ValueError.__new__" bmVE) (hx : tx.length ≤ 100)
    (hno : PySem.W.findIn K (Value.ref C) "number" = some none) (hi : PySem.W.findCls K (Value.type "ValueError") (Value.type "type") "__init__" = some (PySem.W.CFound.val (Value.builtin "ValueError.__init__"))) (hm : mg "ValueError" = none) (hl : (p4.endLine == p10.line) = true) :
    FnOk P w K mg base (L2.CX P w) 2 f fd ["self", "number"] (spI C) := by
  refine F.okX (sc_init p1 p2 p3 p4 p5 p6 p7 p8 p9 p10 p11 p12 p13 p14 p15) (fun vs H Q E h => ?_) (fun cdv A outer s H vs Q E hr h => ⟨_, ?_, pure_init (T := T) hno hx vs H Q E h⟩)
  · obtain ⟨a, n, rfl, _⟩ := h
    rfl
  · exact pss_cons (ps_expr (pe_binitL hl baseVE (by rfl) hm PyProof.Rows.Boot.ValueError hi (pa_cons (pv 0) (pa_cons (pe_joined (.cons pe_str (.cons (pe_fmt (pv 1)) .nil))) pa_nil))))
      (pss_one (ps_ostG baseVE (pv 0) (pv 1)))
end
section
variable {X : Cx} {E : XK} {pos p : Pos} {C fI : Addr} {x : Str} {B newId initId : String} {bmB : List Value} {k : Nat} {fd : FuncData} {ps : List Str} {sp : Sp}
/-- C(..) -/
def tMkV (C : Addr) (sp : Sp) (ta : TA) : TE := fun σ H Q => ta σ H fun vs H1 => vs.length ≤ 1000 ∧ ∀ a : Addr, H1 a = none → sp (V.ref a :: vs) (upd H1 a (exo a C none)) (fun v H2 => v = .non ∧ Q (.ref a) H2) fun _ _ _ => False
theorem run_mkX {pins : List (Addr × Obj)} {σ : St} {H1 : Hp} {s1 : Shared} {Q : VK} {us : List Value} {vs : List V} (BG : BaseG B newId initId bmB) (T : OexG X.K C B newId bmB) (iC : PySem.W.findIn X.K (Value.ref C) "__init__" = some (some (.ref fI))) (tI : PySem.W.typeIn X.K (.ref fI) = some (.type "function"))
    (F1 : FnOk X.prog X.w X.K X.mg X.base (L2.CX X.prog X.w) k fI fd ps sp) (hr : Room (k + 1) X.A) (hb : Binds X.K fd ps []) (hx : Passes (L2.CX X.prog X.w) X fun _ _ _ => False) (I1 : L2.Inv X pins σ H1 s1) (r1 : Vals vs us) (hz : vs.length ≤ 1000)
    (q1 : ∀ a : Addr, H1 a = none → sp (V.ref a :: vs) (upd H1 a (exo a C none)) (fun v H2 => v = .non ∧ Q (.ref a) H2) fun _ _ _ => False) :
    wpAny (model X.prog X.w) X.A (call (Value.ref C) us) (EP X pins σ Q) X.xe s1 := by
  obtain ⟨nm, q, N, bs, bm, sn, sub, ab, col, dd, k0, k1, k2, k3, k5, hC, hbm⟩ := T.cls
  obtain ⟨hp, g, dr, tk, os⟩ := s1
  have hsz : hp.objs.size ≤ hp.objs.size + 1 := Nat.le_succ _
  have hn := I1.hok.fresh hsz
  have hq := q1 (hp.objs.size + 1) hn
  have kk : ∀ b o, hp.get? b = some o → ((hp.push (PySem.W.kdv_tup us)).push (HandSPX.excO C hp.objs.size)).get? b = some o := fun b o e => Heap.get?_push_of_some _ (Heap.get?_push_of_some _ e)
  have hget : ((hp.push (PySem.W.kdv_tup us)).push (HandSPX.excO C hp.objs.size)).get? (hp.objs.size + 1) = some (HandSPX.excO C hp.objs.size) := Heap.get?_push_at (by simp) rfl
  have I2 : L2.Inv X pins σ (upd H1 (hp.objs.size + 1) (exo (hp.objs.size + 1) C none)) ⟨_, g, dr, tk, os⟩ := I1.laid (t' := tk) kk hsz (exo_ok hget)
  have r2 : Vals (V.ref (hp.objs.size + 1) :: vs) (Value.ref (hp.objs.size + 1) :: us) := .cons rfl r1
  have hl : (Value.ref (hp.objs.size + 1) :: us).length = ps.length := by
    have e := r2.length
    have e2 := F1.len _ _ _ _ hq
    omega
  have hus : us.length ≤ sizeLine := by
    have := r1.length
    rw [sizeLine_eq]
    omega
  refine wpAny_call (HandSPX.call_own BG.ef hbm (I1.kIn C _ hC) (PySem.W.looks_findIn I1.kIn iC) (fun self => PySem.W.bind_fn I1.kIn self tI) hus (codeAny_mono (F1.run _ X.stack _ _ _ _ _ _ _ (hr.make C us []) (I2.env0.make C us []) (by
    have z := hb ⟨(hp.push (PySem.W.kdv_tup us)).push (HandSPX.excO C hp.objs.size), g, dr, tk, os⟩ (Value.ref (hp.objs.size + 1) :: us) I2.kIn (by simpa using hl)
    simpa using z) r2 hq) fun r s' hq' => ?_))
  match r, hq' with
  | .error er, hq' => exact hx pins σ _ _ er s' I2 hq'
  | .ok (.ret u), hq' =>
    have hq2 : CE X.stack X.prog X.w _ _ _ u s' := hq'
    obtain ⟨v, H2, I3, rv, ev, q2⟩ := I2.after hq2
    subst ev
    obtain rfl : u = Value.none := rv
    exact ⟨rfl, .ref (hp.objs.size + 1), H2, I3, rfl, q2⟩
theorem pe_mkX {e : Expr} {es : List Expr} {ta : TA} (BG : BaseG B newId initId bmB) (T : OexG X.K C B newId bmB) (iC : PySem.W.findIn X.K (Value.ref C) "__init__" = some (some (.ref fI))) (tI : PySem.W.typeIn X.K (.ref fI) = some (.type "function"))
    (F1 : FnOk X.prog X.w X.K X.mg X.base (L2.CX X.prog X.w) k fI fd ps sp) (hr : Room (k + 1) X.A) (hb : Binds X.K fd ps []) (hx : Passes (L2.CX X.prog X.w) X fun _ _ _ => False) (hg : Gl X x) (hm : X.mg x = some (.ref C)) (ha : PA X (e :: es) ta)
    (hdb : (x == ("__debug__" : Str)) = false := by decide) (he : starEach (e :: es) X.env = (false, eval e X.env) :: starEach es X.env := by rfl) (hpl : (backTo pos (starEach es X.env)).any (·.1) = false := by rfl) :
    PE X (.Call (.Name x p) (e :: es) [] pos) (tMkV C sp ta) := by
  refine ⟨fun pins s σ H Q I h => ?_⟩
  refine wpAny_Call_Name_kw (ld_glob I hg hm ?_ hdb)
  refine PySem.W.callWith_K (h₀ := X.base) I.ok.mod.kin T.kC (thn (ha.run pos pins s σ H _ I h) fun us s1 hh => ?_) he hpl
  obtain ⟨vs, H1, I1, r1, hz, q1⟩ := hh
  exact ⟨I1.kIn, run_mkX BG T iC tI F1 hr hb hx I1 r1 hz q1⟩
theorem run_mkK {pins : List (Addr × Obj)} {σ : St} {H1 : Hp} {s1 : Shared} {Q : VK} {y : V} {u : Value} {nm : Str} (BG : BaseG B newId initId bmB) (T : OexG X.K C B newId bmB) (iC : PySem.W.findIn X.K (Value.ref C) "__init__" = some (some (.ref fI))) (tI : PySem.W.typeIn X.K (.ref fI) = some (.type "function"))
    (F1 : FnOk X.prog X.w X.K X.mg X.base (L2.CX X.prog X.w) k fI fd ps sp) (hr : Room (k + 1) X.A) (hb : ∀ (s : Shared) (u v : Value), BindsTo s fd ⟨[u], [(nm, v)]⟩ (ps.zip [u, v])) (hx : Passes (L2.CX X.prog X.w) X fun _ _ _ => False) (I1 : L2.Inv X pins σ H1 s1) (r1 : RelV y u)
    (q1 : ∀ a : Addr, H1 a = none → sp [V.ref a, y] (upd H1 a (exo a C none)) (fun v H2 => v = .non ∧ Q (.ref a) H2) fun _ _ _ => False) :
    wpAny (model X.prog X.w) X.A (call (Value.ref C) [] [(nm, u)]) (EP X pins σ Q) X.xe s1 := by
  obtain ⟨nm, q, N, bs, bm, sn, sub, ab, col, dd, k0, k1, k2, k3, k5, hC, hbm⟩ := T.cls
  obtain ⟨hp, g, dr, tk, os⟩ := s1
  have hsz : hp.objs.size ≤ hp.objs.size + 1 := Nat.le_succ _
  have hn := I1.hok.fresh hsz
  have hq := q1 (hp.objs.size + 1) hn
  have kk : ∀ b o, hp.get? b = some o → ((hp.push (PySem.W.kdv_tup [])).push (HandSPX.excO C hp.objs.size)).get? b = some o := fun b o e => Heap.get?_push_of_some _ (Heap.get?_push_of_some _ e)
  have hget : ((hp.push (PySem.W.kdv_tup [])).push (HandSPX.excO C hp.objs.size)).get? (hp.objs.size + 1) = some (HandSPX.excO C hp.objs.size) := Heap.get?_push_at (by simp) rfl
  have I2 : L2.Inv X pins σ (upd H1 (hp.objs.size + 1) (exo (hp.objs.size + 1) C none)) ⟨_, g, dr, tk, os⟩ := I1.laid (t' := tk) kk hsz (exo_ok hget)
  have r2 : Vals [V.ref (hp.objs.size + 1), y] [Value.ref (hp.objs.size + 1), u] := .cons rfl (.cons r1 .nil)
  refine wpAny_call (call_own_kw BG.ef hbm (I1.kIn C _ hC) (PySem.W.looks_findIn I1.kIn iC) (fun self => PySem.W.bind_fn I1.kIn self tI) (codeAny_mono (F1.run _ X.stack _ _ _ _ _ _ _ (hr.make C [] _) (I2.env0.make C [] _) (hb _ _ _) r2 hq) fun r s' hq' => ?_))
  match r, hq' with
  | .error er, hq' => exact hx pins σ _ _ er s' I2 hq'
  | .ok (.ret u), hq' =>
    have hq2 : CE X.stack X.prog X.w _ _ _ u s' := hq'
    obtain ⟨v, H2, I3, rv, ev, q2⟩ := I2.after hq2
    subst ev
    obtain rfl : u = Value.none := rv
    exact ⟨rfl, .ref (hp.objs.size + 1), H2, I3, rfl, q2⟩
/-- C(nm=e) -/
def tMkW (C : Addr) (sp : Sp) (te : TE) : TE := fun σ H Q => tCons te tNil σ H fun vs H1 => ∃ y, vs = [y] ∧ ∀ a : Addr, H1 a = none → sp [V.ref a, y] (upd H1 a (exo a C none)) (fun v H2 => v = .non ∧ Q (.ref a) H2) fun _ _ _ => False
theorem pe_mkK {e : Expr} {te : TE} {kpos : Pos} {nm : Str} (BG : BaseG B newId initId bmB) (T : OexG X.K C B newId bmB) (iC : PySem.W.findIn X.K (Value.ref C) "__init__" = some (some (.ref fI))) (tI : PySem.W.typeIn X.K (.ref fI) = some (.type "function"))
    (F1 : FnOk X.prog X.w X.K X.mg X.base (L2.CX X.prog X.w) k fI fd ps sp) (hr : Room (k + 1) X.A) (hb : ∀ (s : Shared) (u v : Value), BindsTo s fd ⟨[u], [(nm, v)]⟩ (ps.zip [u, v])) (hx : Passes (L2.CX X.prog X.w) X fun _ _ _ => False) (hg : Gl X x) (hm : X.mg x = some (.ref C)) (he : PE X e te)
    (hdb : (x == ("__debug__" : Str)) = false := by decide) (h1 : ((backToKw pos (keywordEach [⟨some nm, e, kpos⟩] X.env)).all fun x => x.fst.isSome) = true := by rfl) (h2 : List.filterMap (fun x => x.fst) (backToKw pos (keywordEach [⟨some nm, e, kpos⟩] X.env)) = [nm] := by rfl)
    (h3 : (((backTo pos (starEach [] X.env)).any fun x => x.fst) || (backToKw pos (keywordEach [⟨some nm, e, kpos⟩] X.env)).any fun x => x.fst.isNone) = false := by rfl) :
    PE X (.Call (.Name x p) [] [⟨some nm, e, kpos⟩] pos) (tMkW C sp te) := by
  refine ⟨fun pins s σ H Q I h => ?_⟩
  refine wpAny_Call_Name_kw (ld_glob I hg hm ?_ hdb)
  refine PySem.W.callWith_KW0 (h₀ := X.base) I.ok.mod.kin T.kC h1 (thn ((pk_cons he pk_nil).run pos pins s σ H _ I h) fun us s1 hh => ?_) h3
  obtain ⟨vs, H1, I1, r1, y, ev, q1⟩ := hh
  subst ev
  refine ⟨I1.kIn, ?_⟩
  rw [h2]
  cases r1 with
  | cons ry rn =>
    cases rn
    exact run_mkK BG T iC tI F1 hr hb hx I1 ry q1
end
end Gx

/-! X4: exceptions without an own __init__, the field, isinstance. -/
namespace Gx
open PySem PySem.Spec L2
open PyProof.Rows hiding St

/-- what is asked of a class so that its things' class can be asked for -/
structure XCl (K : PySem.W.Frag) (C : Addr) : Prop where
  cl : (PySem.W.clsIn K C).isSome = true
  ga : PySem.W.findIn K (Value.ref C) "__getattribute__" = some (some (Value.builtin "BaseException.__getattribute__"))
  gg : PySem.W.findIn K (Value.ref C) "__getattr__" = some none
  exC : PySem.W.subIn K (Value.ref C) (Value.type "BaseException") = some true
  hd : PySem.W.hasDictIn K C = true
  gc : PySem.W.findIn K (Value.ref C) "__class__" = some (some (Value.builtin "object.__class__"))
  sp : PySem.W.specialIn K (Value.builtin "object.__class__") "__get__" = some (some (Value.builtin "getset_descriptor.__get__"))
  tk : PySem.W.takesIn K (Value.builtin "object.__class__") = some true
  mr : PySem.W.mroIn K C (Value.type "object") = some true
section
variable {X : Cx} {pos p : Pos} {C : Addr} {x : Str} {B newId initId : String} {bmB : List Value} {k : Nat}
/-- C() of a class without an own __init__ -/
theorem pe_mk0 (EF : ExcBaseFacts B newId initId bmB) (hx : PySem.W.excIn X.K C bmB newId = true) (kC : PySem.W.keepIn X.K (Value.ref C) = true) (hg : Gl X x) (hm : X.mg x = some (.ref C)) (hdb : (x == ("__debug__" : Str)) = false := by decide) :
    PE X (.Call (.Name x p) [] [] pos) fun σ H Q => ∀ a : Addr, H a = none → Q (.ref a) (upd H a (exo a C none)) := by
  refine ⟨fun pins s σ H Q I h => ?_⟩
  refine wpAny_Call_Name_kw (ld_glob I hg hm ?_ hdb)
  refine PySem.W.callWith_K0 I.kIn kC ?_
  obtain ⟨bm, N, nm, qn, bs, hdct, sn, sub, ab, col, dd, k0, k1, k2, k3, k5, mN, hC, hN, hi, ht⟩ := exc_obj I.kIn hx
  obtain ⟨hp, g, dr, tk, os⟩ := s
  refine wpAny_call_exc_subT EF ht hC hN hi (fun h' e M => ?_) (by rw [sizeLine_eq]; decide)
  obtain ⟨t, ho, _⟩ := M.there
  have hn : H e = none := I.hok.gone M.new
  exact ⟨.ref e, _, I.laidN (t' := tk) M.keeps M.new hn (exo_ok ho), rfl, h e hn⟩
theorem inst_at {pins : List (Addr × Obj)} {σ : St} {H : Hp} {s : Shared} {a : Addr} {d : Option Addr} (I : L2.Inv X pins σ H s) (ha : H a = some (exo a C d)) (hd : ∀ dd, d = some dd → ∃ fs, H dd = some (exd dd fs)) : ∃ ox od, PySem.W.InstAt s.heap a ox C od := by
  obtain ⟨t1, ho⟩ := exo_at I.hok ha
  cases d with
  | none => exact ⟨_, none, ho, rfl, rfl, trivial⟩
  | some dd =>
    obtain ⟨fs, hf⟩ := hd dd rfl
    obtain ⟨mA, hns, _⟩ := exd_at I.hok hf
    obtain ⟨od, h1, _⟩ := lookIn_ns hns
    exact ⟨_, some od, ho, rfl, rfl, h1⟩
/-- e.number -/
def tNum (K : PySem.W.Frag) (f : Str) (te : TE) : TE := fun σ H Q => te σ H fun x H1 => ∃ a C d v, x = .ref a ∧ XCl K C ∧ PySem.W.findIn K (Value.ref C) f = some none ∧ H1 a = some (exo a C (some d)) ∧ H1 d = some (exd d [(f, v)]) ∧ Q v H1
theorem pe_num {e : Expr} {te : TE} {f : Str} (he : PE X e te) (hb : attributeBase e f X.env (eval e X.env) = eval e X.env := by rfl) : PE X (.Attribute e f pos) (tNum X.K f te) := by
  refine ⟨fun pins s σ H Q I h => ?_⟩
  refine attr_of hb (thn (he.run pins s σ H _ I h) fun u s1 hh => ?_)
  obtain ⟨x, H1, I1, rx, a, C, d, v, ex, T, hno, ea, ed, q⟩ := hh
  subst ex
  obtain rfl : u = Value.ref a := rx
  obtain ⟨t1, ho⟩ := exo_at I1.hok ea
  obtain ⟨mA, hns, hr⟩ := exd_at I1.hok ed
  obtain ⟨od, h1, hl⟩ := lookIn_ns hns
  have l : List.lookup f [(f, v)] = some v := by simp [List.lookup]
  obtain ⟨u, hu, ru⟩ := RelO.some_of (v := v) (o := mA f) (by rw [← l]; exact hr f)
  have J : PySem.W.InstAt s1.heap a _ C (some od) := ⟨ho, rfl, rfl, h1⟩
  exact HandSPX.exc_get I1.kIn J T.ga T.gg T.exC (PySem.W.findObj_own T.hd hno rfl (by rw [hl, hu])) (handed_of ru) ⟨v, H1, I1.tok _, ru, q⟩
/-- isinstance(e, T), e an exception of the program -/
def rIsX (K : PySem.W.Frag) : List V → Hp → VK → Prop := fun xs H Q => ∃ a c u C d b, xs = [.ref a, c] ∧ ClsV c u ∧ H a = some (exo a C d) ∧ (∀ dd, d = some dd → ∃ fs, H dd = some (exd dd fs)) ∧ XCl K C ∧ PySem.W.kitOne K (.ref C) u = some b ∧ Q (.bl b) H
theorem call_isX : CallR X (.builtin "isinstance") (rIsX X.K) := by
  intro pins s σ H xs us Q I rx h
  obtain ⟨a, c, u, C, d, b, ex, hc, ha, hd, T, hk, q⟩ := h
  subst ex
  obtain ⟨ox, od, J⟩ := inst_at I ha hd
  cases rx with
  | cons r1 r2 =>
    cases r2 with
    | @cons _ u2 _ us2 r2 r3 =>
      cases r3
      obtain rfl := (show _ = Value.ref a from r1)
      have e2 : u2 = u := by
        cases hc with
        | ty n => exact r2
        | own D => exact r2
      rw [e2]
      exact PySem.W.kia_one (PySem.W.kitx_exc T.cl T.ga T.gg T.exC T.gc T.sp T.tk T.mr) I.kIn J hk (by intro z; cases z) fun tk => ⟨.bl b, H, I.tok _, rfl, q⟩
end
end Gx

/-! G3: the operators and built-in functions, over data. -/
namespace Gx
open PySem PySem.Spec L2
open PyProof.Rows hiding St

section
variable {X : Cx} {E : XK} {pos : Pos}
theorem opR_wk {f : Value → Value → Sem Value} {r r' : R2} (h : OpR X f r) (w : ∀ x y H Q, r' x y H Q → r x y H Q) : OpR X f r' := fun pins s σ H x y v u Q I rx ry q => h pins s σ H x y v u Q I rx ry (w _ _ _ _ q)
theorem callR_wk {f : Value} {r r' : List V → Hp → VK → Prop} (h : CallR X f r) (w : ∀ xs H Q, r' xs H Q → r xs H Q) : CallR X f r' := fun pins s σ H xs us Q I rx q => h pins s σ H xs us Q I rx (w _ _ _ q)
theorem ixR_wk {r r' : R2} (h : IxR X r) (w : ∀ x y H Q, r' x y H Q → r x y H Q) : IxR X r' := fun vl sl pins s σ H x y v u Q I rx ry q z => h vl sl pins s σ H x y v u Q I rx ry (w _ _ _ _ q) z
theorem unR_wk {f : Value → Sem Value} {r r' : V → Hp → VK → Prop} (h : UnR X f r) (w : ∀ x H Q, r' x H Q → r x H Q) : UnR X f r' := fun pins s σ H x v Q I rx q => h pins s σ H x v Q I rx (w _ _ _ q)
theorem len_le {vs : List V} {xs : List PyData} {F : Hp} (h : DqAll F vs xs) : vs.length = xs.length := dps_len h
def fI (i : Int) : Option Rv := some (.fz (.int i))
def fB (b : Bool) : Option Rv := some (.fz (.bool b))
/-! ### arithmetic -/
def addD (d e : PyData) : Option Rv := match d, e with
  | .int i, .int j => fI (i + j)
  | .list xs, .list ys => if okLen (xs.length + ys.length) then some (.ol (xs ++ ys)) else none
  | .tuple xs, .tuple ys => if okLen (xs.length + ys.length) then some (.fz (.tuple (xs ++ ys))) else none
  | _, _ => none
theorem op_addD : OpD X (binaryOp .Add) addD := opR_wk ((op_add.or op_cat).or op_catA) fun x y H Q h => by
  obtain ⟨F, d, e, r, s, h1, h2, hr, q⟩ := h
  cases h1 with
  | int i =>
    cases h2 with
    | int j => cases hr; exact .inl (.inl ⟨i, j, rfl, rfl, q _ F H (Grow.refl s) (.int _)⟩)
    | _ => cases hr
  | @lst a vs xs ha hx =>
    cases h2 with
    | @lst b us ys hb hy =>
      have hr' : (if okLen (xs.length + ys.length) then some (Rv.ol (xs ++ ys)) else none) = some r := hr
      by_cases hl : okLen (xs.length + ys.length) = true
      · rw [if_pos hl] at hr'
        cases hr'
        refine .inl (.inr ⟨a, b, vs, us, rfl, rfl, s _ _ ha, s _ _ hb, by rw [len_le hx, len_le hy]; exact okLen_le hl, fun p np => q _ _ _ (Grow.own s np) ⟨p, _, rfl, np, upd_same, s.free np, dps_app hx hy⟩⟩)
      · rw [if_neg hl] at hr'
        cases hr'
    | _ => cases hr
  | @tup a vs xs ha hx =>
    cases h2 with
    | @tup b us ys hb hy =>
      have hr' : (if okLen (xs.length + ys.length) then some (Rv.fz (.tuple (xs ++ ys))) else none) = some r := hr
      by_cases hl : okLen (xs.length + ys.length) = true
      · rw [if_pos hl] at hr'
        cases hr'
        refine .inr ⟨a, b, vs, us, rfl, rfl, .inl (.inl (s _ _ ha)), .inl (.inl (s _ _ hb)), by rw [len_le hx, len_le hy]; exact okLen_le hl, fun e0 => q _ F H (Grow.refl s) ?_, fun _ e0 => q _ F H (Grow.refl s) ?_, fun _ _ p np => q _ _ _ (Grow.new s np) (.tup upd_same (dps_mono (same_new (s.free np)) _ _ (dps_app hx hy)))⟩
        · subst e0
          cases hx
          exact .tup hb hy
        · subst e0
          cases hy
          rw [List.append_nil]
          exact .tup ha hx
      · rw [if_neg hl] at hr'
        cases hr'
    | _ => cases hr
  | _ => cases hr
def subD (d e : PyData) : Option Rv := match d, e with
  | .int i, .int j => fI (i - j)
  | _, _ => none
theorem op_subD : OpD X (binaryOp .Sub) subD := opR_wk op_sub fun x y H Q h => by
  obtain ⟨F, d, e, r, s, h1, h2, hr, q⟩ := h
  cases h1 with
  | int i =>
    cases h2 with
    | int j => cases hr; exact ⟨i, j, rfl, rfl, q _ F H (Grow.refl s) (.int _)⟩
    | _ => cases hr
  | _ => cases h2 <;> cases hr
def w64 (i : Int) : Bool := decide (-2 ^ 64 < i) && decide (i < 2 ^ 64)
theorem w64_ok {i : Int} (h : w64 i = true) : -2 ^ 64 < i ∧ i < 2 ^ 64 := by
  unfold w64 at h
  rw [Bool.and_eq_true] at h
  exact ⟨of_decide_eq_true h.1, of_decide_eq_true h.2⟩
def mulD (d e : PyData) : Option Rv := match d, e with
  | .int i, .int j => if w64 i || w64 j then fI (i * j) else none
  | .list xs, .int k => if small62 k && okLen (xs.length * k.toNat) then some (.ol (List.replicate k.toNat xs).flatten) else none
  | _, _ => none
theorem op_mulD : OpD X (binaryOp .Mult) mulD := opR_wk (op_mul.or op_rep) fun x y H Q h => by
  obtain ⟨F, d, e, r, s, h1, h2, hr, q⟩ := h
  cases h1 with
  | int i =>
    cases h2 with
    | int j =>
      have hr' : (if w64 i || w64 j then fI (i * j) else none) = some r := hr
      by_cases c : (w64 i || w64 j) = true
      · rw [if_pos c] at hr'
        cases hr'
        refine .inl ⟨i, j, rfl, rfl, ?_, q _ F H (Grow.refl s) (.int _)⟩
        rw [Bool.or_eq_true] at c
        rcases c with c | c
        · exact .inl (w64_ok c)
        · exact .inr (w64_ok c)
      · rw [if_neg c] at hr'
        cases hr'
    | _ => cases hr
  | @lst a vs xs ha hx =>
    cases h2 with
    | int k =>
      have hr' : (if small62 k && okLen (xs.length * k.toNat) then some (Rv.ol (List.replicate k.toNat xs).flatten) else none) = some r := hr
      by_cases c : (small62 k && okLen (xs.length * k.toNat)) = true
      · rw [if_pos c] at hr'
        cases hr'
        rw [Bool.and_eq_true] at c
        obtain ⟨b1, b2⟩ := small62_ok c.1
        exact .inr ⟨a, k, vs, rfl, rfl, s _ _ ha, by omega, by omega, by rw [len_le hx]; exact okLen_le c.2, fun p np => q _ _ _ (Grow.own s np) ⟨p, _, rfl, np, upd_same, s.free np, dps_rep hx _⟩⟩
      · rw [if_neg c] at hr'
        cases hr'
    | _ => cases hr
  | _ => cases h2 <;> cases hr
def modD (d e : PyData) : Option Rv := match d, e with
  | .int i, .int j => if 0 < j then fI (i % j) else none
  | _, _ => none
theorem op_modD : OpD X (binaryOp .Mod) modD := opR_wk op_mod fun x y H Q h => by
  obtain ⟨F, d, e, r, s, h1, h2, hr, q⟩ := h
  cases h1 with
  | int i =>
    cases h2 with
    | int j =>
      have hr' : (if 0 < j then fI (i % j) else none) = some r := hr
      by_cases c : 0 < j
      · rw [if_pos c] at hr'
        cases hr'
        exact ⟨i, j, rfl, rfl, c, q _ F H (Grow.refl s) (.int _)⟩
      · rw [if_neg c] at hr'
        cases hr'
    | _ => cases hr
  | _ => cases h2 <;> cases hr
def fdivD (d e : PyData) : Option Rv := match d, e with
  | .int i, .int j => if 0 < j ∧ j < 1073741824 then fI (i / j) else none
  | _, _ => none
theorem op_fdivD : OpD X (binaryOp .FloorDiv) fdivD := opR_wk op_fdiv fun x y H Q h => by
  obtain ⟨F, d, e, r, s, h1, h2, hr, q⟩ := h
  cases h1 with
  | int i =>
    cases h2 with
    | int j =>
      have hr' : (if 0 < j ∧ j < 1073741824 then fI (i / j) else none) = some r := hr
      by_cases c : 0 < j ∧ j < 1073741824
      · rw [if_pos c] at hr'
        cases hr'
        exact ⟨i, j, rfl, rfl, c, q _ F H (Grow.refl s) (.int _)⟩
      · rw [if_neg c] at hr'
        cases hr'
    | _ => cases hr
  | _ => cases h2 <;> cases hr
def powD (d e : PyData) : Option Rv := match d, e with
  | .int i, .int j => if 0 ≤ j ∧ j ≤ 100 ∧ i.natAbs < 1000 then fI (i ^ j.toNat) else none
  | _, _ => none
theorem op_powD : OpD X (binaryOp .Pow) powD := opR_wk op_pow fun x y H Q h => by
  obtain ⟨F, d, e, r, s, h1, h2, hr, q⟩ := h
  cases h1 with
  | int i =>
    cases h2 with
    | int j =>
      have hr' : (if 0 ≤ j ∧ j ≤ 100 ∧ i.natAbs < 1000 then fI (i ^ j.toNat) else none) = some r := hr
      by_cases c : 0 ≤ j ∧ j ≤ 100 ∧ i.natAbs < 1000
      · rw [if_pos c] at hr'
        cases hr'
        exact ⟨i, j, rfl, rfl, ⟨c.1, by omega, by omega⟩, q _ F H (Grow.refl s) (.int _)⟩
      · rw [if_neg c] at hr'
        cases hr'
    | _ => cases hr
  | _ => cases h2 <;> cases hr
/-! ### comparisons -/
def ciD (p : Int → Int → Bool) (d e : PyData) : Option Rv := match d, e with
  | .int i, .int j => fB (p i j)
  | _, _ => none
theorem op_ciD {op : CmpOp} {p : Int → Int → Bool} (h : OpR X (compareOp op) (rI0 fun i j => .bl (p i j))) : OpD X (compareOp op) (ciD p) := opR_wk h fun x y H Q h => by
  obtain ⟨F, d, e, r, s, h1, h2, hr, q⟩ := h
  cases h1 with
  | int i =>
    cases h2 with
    | int j => cases hr; exact ⟨i, j, rfl, rfl, q _ F H (Grow.refl s) (.bl _)⟩
    | _ => cases hr
  | _ => cases h2 <;> cases hr
def ltD := ciD fun i j => decide (i < j)
def gtD := ciD fun i j => decide (j < i)
def leD := ciD fun i j => decide (i ≤ j)
def geD := ciD fun i j => decide (j ≤ i)
theorem op_ltD : OpD X (compareOp .Lt) ltD := op_ciD op_lt
theorem op_gtD : OpD X (compareOp .Gt) gtD := op_ciD op_gt
theorem op_leD : OpD X (compareOp .LtE) leD := op_ciD op_le
theorem op_geD : OpD X (compareOp .GtE) geD := op_ciD op_ge
theorem ci_bool {p : Int → Int → Bool} (d e : PyData) (r : Rv) (h : ciD p d e = some r) : ∃ k, r = .fz (.bool k) := by
  unfold ciD at h
  cases d <;> cases e <;> first | cases h | skip
  exact ⟨_, rfl⟩
def okEq (d e : PyData) : Bool := (cln d && cln e) && (SeqAt.shaped d && SeqAt.shaped e)
def eqD (d e : PyData) : Option Rv := if okEq d e then fB (d.eqv e) else none
def neD (d e : PyData) : Option Rv := if okEq d e then fB (!d.eqv e) else none
theorem op_eqDD (hu : X.A.units + 64 < cLine) : OpD X (compareOp .Eq) eqD := opR_wk (op_eqD hu) fun x y H Q h => by
  obtain ⟨F, d, e, r, s, h1, h2, hr, q⟩ := h
  unfold eqD at hr
  by_cases c : okEq d e = true
  · rw [if_pos c] at hr
    cases hr
    unfold okEq at c
    simp only [Bool.and_eq_true] at c
    exact ⟨d, e, dq_dp d x c.1.1 (dp_mono s d x h1), dq_dp e y c.1.2 (dp_mono s e y h2), c.2.1, c.2.2, q _ F H (Grow.refl s) (.bl _)⟩
  · rw [if_neg c] at hr
    cases hr
theorem op_neDD (hu : X.A.units + 64 < cLine) : OpD X (compareOp .NotEq) neD := opR_wk (op_neD hu) fun x y H Q h => by
  obtain ⟨F, d, e, r, s, h1, h2, hr, q⟩ := h
  unfold neD at hr
  by_cases c : okEq d e = true
  · rw [if_pos c] at hr
    cases hr
    unfold okEq at c
    simp only [Bool.and_eq_true] at c
    exact ⟨d, e, dq_dp d x c.1.1 (dp_mono s d x h1), dq_dp e y c.1.2 (dp_mono s e y h2), c.2.1, c.2.2, q _ F H (Grow.refl s) (.bl _)⟩
  · rw [if_neg c] at hr
    cases hr
def isNone : PyData → Bool
  | .none => true
  | _ => false
def isND (d e : PyData) : Option Rv := match e with
  | .none => fB (isNone d)
  | _ => none
theorem dq_non {F : Hp} {x : V} {d : PyData} (h : Dq F x d) : decide (x = .non) = isNone d := by
  cases h <;> simp [isNone]
theorem op_isND : OpD X (compareOp .Is) isND := opR_wk op_isN fun x y H Q h => by
  obtain ⟨F, d, e, r, s, h1, h2, hr, q⟩ := h
  cases h2 with
  | non =>
    cases hr
    refine ⟨rfl, ?_⟩
    rw [dq_non h1]
    exact q _ F H (Grow.refl s) (.bl _)
  | _ => cases hr
/-! ### items, functions -/
def ixD (d e : PyData) : Option Rv := match d, e with
  | .list xs, .int i => (atI xs i).map .fz
  | .tuple xs, .int i => (atI xs i).map .fz
  | _, _ => none
theorem dqs_at {F : Hp} {vs : List V} {xs : List PyData} {i : Int} {d : PyData} (h : DqAll F vs xs) (e : atI xs i = some d) : ∃ v, atI vs i = some v ∧ Dq F v d := by
  unfold atI at e ⊢
  rw [len_le h]
  obtain ⟨j, h1, h2⟩ := Option.bind_eq_some_iff.mp e
  obtain ⟨v, e1, e2⟩ := dps_get h h2
  exact ⟨v, by rw [h1]; exact e1, e2⟩
theorem ix_D : IxD X ixD := ixR_wk (ix_list.or ix_tup) fun x y H Q h => by
  obtain ⟨F, d, e, r, s, h1, h2, hr, q⟩ := h
  cases h1 with
  | @lst a vs xs ha hx =>
    cases h2 with
    | int i =>
      have hr' : (atI xs i).map Rv.fz = some r := hr
      obtain ⟨d, e1, e2⟩ := Option.map_eq_some_iff.mp hr'
      subst e2
      obtain ⟨v, e3, e4⟩ := dqs_at hx e1
      exact .inl ⟨a, vs, i, v, rfl, rfl, .of (s _ _ ha), e3, q _ F H (Grow.refl s) e4⟩
    | _ => cases hr
  | @tup a vs xs ha hx =>
    cases h2 with
    | int i =>
      have hr' : (atI xs i).map Rv.fz = some r := hr
      obtain ⟨d, e1, e2⟩ := Option.map_eq_some_iff.mp hr'
      subst e2
      obtain ⟨v, e3, e4⟩ := dqs_at hx e1
      exact .inr ⟨a, vs, i, v, rfl, rfl, .of (s _ _ ha), e3, q _ F H (Grow.refl s) e4⟩
    | _ => cases hr
  | _ => cases h2 <;> cases hr
def lenD : List PyData → Option Rv
  | [.list xs] => fI xs.length
  | [.tuple xs] => fI xs.length
  | _ => none
theorem call_lenDD : CallD X (.builtin "len") lenD := callR_wk call_len_seq fun xs H Q h => by
  obtain ⟨F, ds, r, s, h1, hr, q⟩ := h
  cases h1 with
  | nil => cases hr
  | cons h1 h2 =>
    cases h2 with
    | cons _ _ => cases h1 <;> cases hr
    | nil =>
      cases h1 with
      | @lst a vs xs ha hx =>
        cases hr
        refine ⟨a, vs, rfl, .inl (.of (s _ _ ha)), ?_⟩
        rw [len_le hx]
        exact q _ F H (Grow.refl s) (.int _)
      | @tup a vs xs ha hx =>
        cases hr
        refine ⟨a, vs, rfl, .inr (.of (s _ _ ha)), ?_⟩
        rw [len_le hx]
        exact q _ F H (Grow.refl s) (.int _)
      | _ => cases hr
def absD : List PyData → Option Rv
  | [.int i] => fI (if i < 0 then -i else i)
  | _ => none
theorem call_absD : CallD X (.builtin "abs") absD := callR_wk call_abs fun xs H Q h => by
  obtain ⟨F, ds, r, s, h1, hr, q⟩ := h
  cases h1 with
  | nil => cases hr
  | cons h1 h2 =>
    cases h2 with
    | cons _ _ => cases h1 <;> cases hr
    | nil =>
      cases h1 with
      | int i => cases hr; exact ⟨i, rfl, q _ F H (Grow.refl s) (.int _)⟩
      | _ => cases hr
def intD : List PyData → Option Rv
  | [.int i] => fI i
  | [.bool b] => fI (if b = true then 1 else 0)
  | _ => none
theorem call_intD : CallD X (.type "int") intD := callR_wk call_int1 fun xs H Q h => by
  obtain ⟨F, ds, r, s, h1, hr, q⟩ := h
  cases h1 with
  | nil => cases hr
  | cons h1 h2 =>
    cases h2 with
    | cons _ _ => cases h1 <;> cases hr
    | nil =>
      cases h1 with
      | int i => cases hr; exact .inl ⟨i, rfl, q _ F H (Grow.refl s) (.int _)⟩
      | bl b => cases hr; exact .inr ⟨b, rfl, q _ F H (Grow.refl s) (.int _)⟩
      | _ => cases hr
def listD : List PyData → Option Rv
  | [.list xs] => some (.ol xs)
  | [.tuple xs] => some (.ol xs)
  | _ => none
theorem call_listDD : CallD X (.type "list") listD := callR_wk call_list_of fun xs H Q h => by
  obtain ⟨F, ds, r, s, h1, hr, q⟩ := h
  cases h1 with
  | nil => cases hr
  | cons h1 h2 =>
    cases h2 with
    | cons _ _ => cases h1 <;> cases hr
    | nil =>
      cases h1 with
      | @lst a vs xs ha hx =>
        cases hr
        exact ⟨a, vs, rfl, .inl (.of (s _ _ ha)), fun l np => q _ _ _ (Grow.own s np) ⟨l, _, rfl, np, upd_same, s.free np, hx⟩⟩
      | @tup a vs xs ha hx =>
        cases hr
        exact ⟨a, vs, rfl, .inr (.of (s _ _ ha)), fun l np => q _ _ _ (Grow.own s np) ⟨l, _, rfl, np, upd_same, s.free np, hx⟩⟩
      | _ => cases hr
def tupleD : List PyData → Option Rv
  | [.list xs] => some (.fz (.tuple xs))
  | [.tuple xs] => some (.fz (.tuple xs))
  | _ => none
theorem call_tupleD : CallD X (.type "tuple") tupleD := callR_wk call_tuple_of fun xs H Q h => by
  obtain ⟨F, ds, r, s, h1, hr, q⟩ := h
  cases h1 with
  | nil => cases hr
  | cons h1 h2 =>
    cases h2 with
    | cons _ _ => cases h1 <;> cases hr
    | nil =>
      cases h1 with
      | @lst a vs xs ha hx =>
        cases hr
        exact ⟨a, vs, rfl, .inl ⟨.of (s _ _ ha), fun l np => q _ _ _ (Grow.new s np) (.tup upd_same (dps_mono (same_new (s.free np)) _ _ hx))⟩⟩
      | @tup a vs xs ha hx =>
        cases hr
        exact ⟨a, vs, rfl, .inr ⟨.of (s _ _ ha), q _ F H (Grow.refl s) (.tup ha hx)⟩⟩
      | _ => cases hr
/-- the truths of a list -/
def bools : List PyData → Option (List Bool)
  | [] => some []
  | .bool b :: ds => (bools ds).map (b :: ·)
  | _ :: _ => none
theorem dqs_bools {F : Hp} : ∀ {vs : List V} {ds : List PyData} {bs : List Bool}, DqAll F vs ds → bools ds = some bs → vs = bs.map V.bl
  | [], _, bs, h, e => by cases h; cases e; rfl
  | v :: vs, _, bs, h, e => by
    cases h with
    | cons h1 h2 =>
      cases h1 with
      | bl b =>
        obtain ⟨cs, e1, e2⟩ := Option.map_eq_some_iff.mp (show (bools _).map (b :: ·) = some bs from e)
        subst e2
        rw [dqs_bools h2 e1]
        rfl
      | _ => cases e
def allD : List PyData → Option Rv
  | [.list xs] => (bools xs).bind fun bs => fB (bs.all id)
  | _ => none
theorem call_allD (hc : X.calm = true) : CallD X (.builtin "all") allD := callR_wk (cr_all hc) fun xs H Q h => by
  obtain ⟨F, ds, r, s, h1, hr, q⟩ := h
  cases h1 with
  | nil => cases hr
  | cons h1 h2 =>
    cases h2 with
    | cons _ _ => cases h1 <;> cases hr
    | nil =>
      cases h1 with
      | @lst a vs xs ha hx =>
        obtain ⟨bs, e1, e2⟩ := Option.bind_eq_some_iff.mp (show (bools xs).bind (fun bs => fB (bs.all id)) = some r from hr)
        cases e2
        have e := dqs_bools hx e1
        subst e
        exact ⟨a, bs, rfl, .of (s _ _ ha), q _ F H (Grow.refl s) (.bl _)⟩
      | _ => cases hr
def negD : PyData → Option PyData
  | .int i => some (.int (-i))
  | _ => none
theorem un_negD : UnD X (unaryOp .USub) negD := unR_wk un_neg fun x H Q h => by
  obtain ⟨F, d, r, s, h1, hr, q⟩ := h
  cases h1 with
  | int i => cases hr; exact ⟨i, rfl, q _ (.int _)⟩
  | _ => cases hr
end
end Gx

/-! G8: a list looked at where it stands: items, length, slices; the script. -/
namespace Gx
open PySem PySem.Spec L2
open PyProof.Rows hiding St

def seqE : Option En → Option (List PyData)
  | some (.ol xs) => some xs
  | some (.bl xs) => some xs
  | some (.fz (.list xs)) => some xs
  | some (.fz (.tuple xs)) => some xs
  | some (.sc ns) => some (ns.map .int)
  | _ => none
def isTupE : Option En → Bool
  | some (.fz (.tuple _)) => true
  | _ => false
theorem dqs_ints {F : Hp} : ∀ ns : List Int, DqAll F (ns.map V.int) (ns.map .int)
  | [] => .nil
  | n :: ns => .cons (.int n) (dqs_ints ns)
theorem seq_val {K : PySem.W.Frag} {ρ : Ev} {σ : St} {F H : Hp} {i : Nat} {xs : List PyData} (R : Rel K ρ σ F H) (h : seqE ρ[i]? = some xs) :
    ∃ p vs, σ[i]? = some (some (.ref p)) ∧ DqAll F vs xs ∧ (isTupE ρ[i]? = false → SqL K H p vs) ∧ (isTupE ρ[i]? = true → SqT K H p vs) := by
  cases e : ρ[i]? with
  | none => rw [e] at h; cases h
  | some en =>
    rw [e] at h
    cases en with
    | no => cases h
    | ol ys =>
      cases h
      obtain ⟨p, vs, h1, h2, h3, h4⟩ := R.ls i xs (.inl e)
      exact ⟨p, vs, h1, h4, fun _ => .of h2, fun z => by cases z⟩
    | bl ys =>
      cases h
      obtain ⟨p, vs, h1, h2, h3, h4⟩ := R.ls i xs (.inr e)
      exact ⟨p, vs, h1, h4, fun _ => .of h2, fun z => by cases z⟩
    | sc ns =>
      cases h
      obtain ⟨a, h1, h2⟩ := R.sc i ns e
      exact ⟨a, _, h1, dqs_ints ns, fun _ => R.sub.seq h2, fun z => by cases z⟩
    | fz d =>
      obtain ⟨v, h1, h2⟩ := R.fz i d e
      cases h2 with
      | @lst a vs ys ha hx =>
        cases h
        exact ⟨a, vs, h1, hx, fun _ => .of (R.sub _ _ ha), fun z => by cases z⟩
      | @tup a vs ys ha hx =>
        cases h
        exact ⟨a, vs, h1, hx, fun z => (by cases z), fun _ => .of (R.sub _ _ ha)⟩
      | _ => cases h
section
variable {X : Cx} {E : XK} {pos : Pos}
def itemE (o : Option En) (k : PyData) : Option PyData := match seqE o, k with
  | some xs, .int n => atI xs n
  | _, _ => none
/-- x[e] -/
def dPeek (i : Nat) (f : Dn PyData) : Dn PyData := fun ρ => if (seqE ρ[i]?).isSome then bnd f (fun k ρ => match itemE ρ[i]? k with
  | some d => .ok (d, ρ)
  | none => .st) ρ else .st
theorem g_peek (i : Nat) {x : Str} {p2 : Pos} {e : Expr} {f : Dn PyData} (he : PE X e (tD X.K X.mg E f)) (hN : X.N[i]? = some x := by rfl) (hv : Vis X.env.scope x := by first | exact Or.inl rfl | exact Or.inr (Or.inl rfl) | exact Or.inr (Or.inr rfl))
    (hd : (x == ("__debug__" : Str)) = false := by decide) (hcd : (x == ("__classdict__" : Str)) = false := by decide) (hs : PlainIx e := by intro _ _; rfl) : PE X (.Subscript (.Name x p2) e pos) (tD X.K X.mg E (dPeek i f)) :=
  pe_wk (pe_ix (ix_list.or ix_tup) (pe_var hN hv hd hcd) he hs) fun σ H Q ⟨ρ, F, R, q⟩ => by
    unfold dPeek at q
    cases hb : (seqE ρ[i]?).isSome with
    | false => rw [hb] at q; exact (show False from q).elim
    | true =>
    rw [hb] at q
    obtain ⟨xs0, h0⟩ := Option.isSome_iff_exists.mp hb
    obtain ⟨p, vs0, hp, _⟩ := seq_val R h0
    refine ⟨.ref p, hp, ρ, F, R, (out_bnd (K := X.K) (F := F) q).mono fun k ρ1 kk v F1 H1 S1 dk => ?_⟩
    have q2 := kk _ _ _ S1
    unfold itemE at q2
    cases hx : seqE ρ1[i]? with
    | none => simp only [hx] at q2; exact (show False from q2).elim
    | some xs =>
      obtain ⟨p', vs, hp', dx, sl, st⟩ := seq_val S1.rel hx
      rw [hp] at hp'
      cases hp'
      cases dk with
      | int n =>
        simp only [hx] at q2
        cases hn : atI xs n with
        | none => simp only [hn] at q2; exact (show False from q2).elim
        | some d =>
          simp only [hn] at q2
          obtain ⟨u, e1, e2⟩ := dqs_at dx hn
          cases ht : isTupE ρ1[i]? with
          | false => exact .inl ⟨p, vs, n, u, rfl, rfl, sl ht, e1, q2 u F1 H1 S1 e2⟩
          | true => exact .inr ⟨p, vs, n, u, rfl, rfl, st ht, e1, q2 u F1 H1 S1 e2⟩
      | _ => simp only [hx] at q2; exact (show False from q2).elim
/-- len(x) -/
def dLenP (i : Nat) : Dn PyData := fun ρ => match seqE ρ[i]? with
  | some xs => .ok (.int xs.length, ρ)
  | none => .st
theorem g_lenP (i : Nat) {x : Str} {p p2 : Pos} (hg : Gl X "len") (hm : X.mg "len" = none) (hN : X.N[i]? = some x := by rfl) (hv : Vis X.env.scope x := by first | exact Or.inl rfl | exact Or.inr (Or.inl rfl) | exact Or.inr (Or.inr rfl))
    (hd : (x == ("__debug__" : Str)) = false := by decide) (hcd : (x == ("__classdict__" : Str)) = false := by decide) : PE X (.Call (.Name "len" p) [.Name x p2] [] pos) (tD X.K X.mg E (dLenP i)) :=
  pe_wk (pe_callB call_len_seq hg hm PySem.boot_len (pa_cons (pe_var hN hv hd hcd) pa_nil)) fun σ H Q ⟨ρ, F, R, q⟩ => by
    unfold dLenP at q
    cases hx : seqE ρ[i]? with
    | none => simp only [hx] at q; exact (show False from q).elim
    | some xs =>
      simp only [hx] at q
      obtain ⟨p, vs, hp, dx, sl, st⟩ := seq_val R hx
      refine ⟨.ref p, hp, p, vs, rfl, ?_, ?_⟩
      · cases ht : isTupE ρ[i]? with
        | false => exact .inl (sl ht)
        | true => exact .inr (st ht)
      · rw [len_le dx]
        exact q _ F H (Stp.refl R) (.int _)
/-- x[lo:hi] of a list -/
def dSlP (i : Nat) (lo hi : Dn (Option Int)) : Dn Rv := fun ρ => if (seqE ρ[i]?).isSome then bnd lo (fun l => bnd hi fun h => fun ρ => match seqE ρ[i]? with
  | some xs => if isTupE ρ[i]? then .st else .ok (.ol (cutD xs l h), ρ)
  | none => .st) ρ else .st
theorem g_slP (i : Nat) {x : Str} {p2 p3 : Pos} {lo hi : Option Expr} {fl fh : Dn (Option Int)} (hl : PO X lo (tO X.K X.mg E fl)) (hu : PO X hi (tO X.K X.mg E fh)) (hN : X.N[i]? = some x := by rfl) (hv : Vis X.env.scope x := by first | exact Or.inl rfl | exact Or.inr (Or.inl rfl) | exact Or.inr (Or.inr rfl))
    (hd : (x == ("__debug__" : Str)) = false := by decide) (hcd : (x == ("__classdict__" : Str)) = false := by decide) : PE X (.Subscript (.Name x p3) (.Slice lo hi none p2) pos) (tE X.K X.mg E (dSlP i fl fh)) :=
  pe_wk (pe_slice sl_list (pe_var hN hv hd hcd) hl hu) fun σ H Q ⟨ρ, F, R, q⟩ => by
    unfold dSlP at q
    cases hb : (seqE ρ[i]?).isSome with
    | false => rw [hb] at q; exact (show False from q).elim
    | true =>
    rw [hb] at q
    obtain ⟨xs0, h0⟩ := Option.isSome_iff_exists.mp hb
    obtain ⟨p, vs0, hp, _⟩ := seq_val R h0
    refine ⟨.ref p, hp, ρ, F, R, (out_bnd (K := X.K) (F := F) q).mono fun l ρ1 k F1 H1 S1 => ?_⟩
    refine ⟨ρ1, F1, S1.rel, (out_bnd (K := X.K) (F := F1) (k _ _ _ S1)).mono fun h ρ2 k2 F2 H2 S2 => ?_⟩
    have q2 := k2 _ _ _ S2
    cases hx : seqE ρ2[i]? with
    | none => simp only [hx] at q2; exact (show False from q2).elim
    | some xs =>
      obtain ⟨p', vs, hp', dx, sl, st⟩ := seq_val S2.rel hx
      rw [hp] at hp'
      cases hp'
      simp only [hx] at q2
      cases ht : isTupE ρ2[i]? with
      | true => simp only [ht] at q2; exact (show False from q2).elim
      | false =>
        simp only [ht] at q2
        refine ⟨p, vs, rfl, sl ht, fun a np => ?_⟩
        have S12 := S1.trans S2
        have gr := Grow.own (o := .lst (cutV vs l h)) S2.rel.sub np
        have nk : NOk H2 F2 (upd H2 a (.lst (cutV vs l h))) (.ol (cutD xs l h)) (.ref a) := ⟨a, _, rfl, np, upd_same, S2.rel.sub.free np, dqs_cut dx l h⟩
        exact q2 _ F2 _ (S12.trans (gr.stp S2.rel)) ((nk.rok S2.rel).before S12)
end
end Gx

/-! X5: exceptions, over data. -/
namespace Gx
open PySem PySem.Spec L2
open PyProof.Rows hiding St

theorem upd_over {H : Hp} {a b : Addr} {o1 o2 o : HO} (n : b ≠ a) : upd (upd (upd H a o1) b o) a o2 = upd (upd H b o) a o2 := by
  funext c
  by_cases h : c = a
  · subst h; rw [upd_same, upd_same]
  · rw [upd_ne h, upd_ne h]
    by_cases h2 : c = b
    · subst h2; rw [upd_same, upd_same]
    · rw [upd_ne h2, upd_ne h2, upd_ne h]
theorem made_grow {F H : Hp} {a dx C : Addr} {n : Int} (s : Same F H) (na : H a = none) (nd : H dx = none) (ne : dx ≠ a) :
    Grow F H (upd (upd F dx (exd dx [(("number" : Str), .int n)])) a (exo a C (some dx))) (upd (upd H dx (exd dx [(("number" : Str), .int n)])) a (exo a C (some dx))) ∧
    Dq (upd (upd F dx (exd dx [(("number" : Str), .int n)])) a (exo a C (some dx))) (.ref a) (exD1 C n) := by
  have g1 := Grow.new (o := exd dx [(("number" : Str), .int n)]) s nd
  have g2 := Grow.new (p := a) (o := exo a C (some dx)) g1.sub (by rw [upd_ne (Ne.symm ne)]; exact na)
  refine ⟨g1.trans g2, .ex1 upd_same ?_⟩
  rw [upd_ne ne]
  exact upd_same
section
variable {X : Cx} {E : XK} {pos p : Pos} {C fI : Addr} {x : Str} {B newId initId : String} {bmB : List Value} {k : Nat} {fd : FuncData} {ps : List Str}
def mkD (C : Addr) : PyData → Dn PyData
  | .int n => if okN n then ret (exD1 C n) else lft none
  | _ => lft none
def dMk (C : Addr) (f : Dn PyData) : Dn PyData := bnd f (mkD C)
theorem mk_end {K : PySem.W.Frag} {mg : Str → Option Value} {ρ ρ1 : Ev} {σ : St} {F H F1 H1 : Hp} {Q : VK} {d : PyData} {v : V} (S1 : Stp K ρ σ F H ρ1 σ F1 H1) (dv : Dq F1 v d)
    (q : Out mg E ρ1 σ H1 (mkD C d ρ1) fun d ρ' => ∀ v F' H', Stp K ρ σ F H ρ' σ F' H' → Dq F' v d → Q v H') :
    ∃ n, v = .int n ∧ okN n = true ∧ ∀ a dx : Addr, H1 a = none → H1 dx = none → dx ≠ a → Q (.ref a) (upd (upd H1 dx (exd dx [(("number" : Str), .int n)])) a (exo a C (some dx))) := by
  cases dv with
  | int n =>
    by_cases ok : okN n = true
    · refine ⟨n, rfl, ok, fun a dx na nd ne => ?_⟩
      have q' : Out mg E ρ1 σ H1 ((if okN n then ret (exD1 C n) else lft none : Dn PyData) ρ1) _ := q
      rw [if_pos ok] at q'
      obtain ⟨gr, dq⟩ := made_grow (C := C) (n := n) S1.rel.sub na nd ne
      exact out_ret q' _ _ _ (S1.trans (gr.stp S1.rel)) dq
    · have q' : Out mg E ρ1 σ H1 ((if okN n then ret (exD1 C n) else lft none : Dn PyData) ρ1) _ := q
      rw [if_neg ok] at q'
      exact (show False from q').elim
  | _ => exact (show False from q).elim
theorem spI_of {a : Addr} {n : Int} {H1 : Hp} {Q : VK} (ok : okN n = true) (na : H1 a = none) (q : ∀ a dx : Addr, H1 a = none → H1 dx = none → dx ≠ a → Q (.ref a) (upd (upd H1 dx (exd dx [(("number" : Str), .int n)])) a (exo a C (some dx)))) :
    spI C [.ref a, .int n] (upd H1 a (exo a C none)) (fun v H2 => v = .non ∧ Q (.ref a) H2) fun _ _ _ => False := by
  refine ⟨a, n, rfl, ok, upd_same, fun dx nd ne => ⟨rfl, ?_⟩⟩
  rw [upd_ne ne] at nd
  rw [upd_over ne]
  exact q a dx na nd ne
theorem g_mkX {e : Expr} {f : Dn PyData} (BG : BaseG B newId initId bmB) (T : OexG X.K C B newId bmB) (iC : PySem.W.findIn X.K (Value.ref C) "__init__" = some (some (.ref fI))) (tI : PySem.W.typeIn X.K (.ref fI) = some (.type "function"))
    (F1 : FnOk X.prog X.w X.K X.mg X.base (L2.CX X.prog X.w) k fI fd ["self", "number"] (spI C)) (hr : Room (k + 1) X.A) (hb : Binds X.K fd ["self", "number"] []) (hx : Passes (L2.CX X.prog X.w) X fun _ _ _ => False) (hg : Gl X x) (hm : X.mg x = some (.ref C)) (he : PE X e (tD X.K X.mg E f))
    (hdb : (x == ("__debug__" : Str)) = false := by decide) (hs : starEach [e] X.env = (false, eval e X.env) :: starEach [] X.env := by rfl) (hpl : (backTo pos (starEach [] X.env)).any (·.1) = false := by rfl) :
    PE X (.Call (.Name x p) [e] [] pos) (tD X.K X.mg E (dMk C f)) :=
  pe_wk (pe_mkX BG T iC tI F1 hr hb hx hg hm (pa_cons he pa_nil hs) hdb hs hpl) fun σ H Q ⟨ρ, F, R, q⟩ => ⟨ρ, F, R, (out_bnd (K := X.K) (F := F) q).mono fun d ρ1 kk v F1 H1 S1 dv => by
    obtain ⟨n, rfl, ok, q2⟩ := mk_end S1 dv (kk _ _ _ S1)
    exact ⟨by simp, fun a na => spI_of ok na q2⟩⟩
theorem g_mkK {e : Expr} {f : Dn PyData} {kpos : Pos} (BG : BaseG B newId initId bmB) (T : OexG X.K C B newId bmB) (iC : PySem.W.findIn X.K (Value.ref C) "__init__" = some (some (.ref fI))) (tI : PySem.W.typeIn X.K (.ref fI) = some (.type "function"))
    (F1 : FnOk X.prog X.w X.K X.mg X.base (L2.CX X.prog X.w) k fI fd ["self", "number"] (spI C)) (hr : Room (k + 1) X.A) (hb : ∀ (s : Shared) (u v : Value), BindsTo s fd ⟨[u], [("number", v)]⟩ ((["self", "number"] : List Str).zip [u, v])) (hx : Passes (L2.CX X.prog X.w) X fun _ _ _ => False) (hg : Gl X x) (hm : X.mg x = some (.ref C)) (he : PE X e (tD X.K X.mg E f))
    (hdb : (x == ("__debug__" : Str)) = false := by decide) (h1 : ((backToKw pos (keywordEach [⟨some "number", e, kpos⟩] X.env)).all fun x => x.fst.isSome) = true := by rfl) (h2 : List.filterMap (fun x => x.fst) (backToKw pos (keywordEach [⟨some "number", e, kpos⟩] X.env)) = [("number" : Str)] := by rfl)
    (h3 : (((backTo pos (starEach [] X.env)).any fun x => x.fst) || (backToKw pos (keywordEach [⟨some "number", e, kpos⟩] X.env)).any fun x => x.fst.isNone) = false := by rfl) :
    PE X (.Call (.Name x p) [] [⟨some "number", e, kpos⟩] pos) (tD X.K X.mg E (dMk C f)) :=
  pe_wk (pe_mkK BG T iC tI F1 hr hb hx hg hm he hdb h1 h2 h3) fun σ H Q ⟨ρ, F, R, q⟩ => ⟨ρ, F, R, (out_bnd (K := X.K) (F := F) q).mono fun d ρ1 kk v F1 H1 S1 dv => by
    obtain ⟨n, rfl, ok, q2⟩ := mk_end S1 dv (kk _ _ _ S1)
    exact ⟨_, rfl, fun a na => spI_of ok na q2⟩⟩
/-- C() -/
theorem g_mk0 (EF : ExcBaseFacts B newId initId bmB) (hx : PySem.W.excIn X.K C bmB newId = true) (kC : PySem.W.keepIn X.K (Value.ref C) = true) (hg : Gl X x) (hm : X.mg x = some (.ref C)) (hdb : (x == ("__debug__" : Str)) = false := by decide) :
    PE X (.Call (.Name x p) [] [] pos) (tD X.K X.mg E (ret (exD0 C))) :=
  pe_wk (pe_mk0 EF hx kC hg hm hdb) fun σ H Q ⟨ρ, F, R, q⟩ a na => by
    have gr := Grow.new (o := exo a C none) R.sub na
    exact out_ret q _ _ _ (gr.stp R) (.ex0 upd_same)
/-- e.number -/
def numD (tb : List Addr) : PyData → Option PyData
  | .dict [(.int c, .int n)] => if tb.any fun C => (C : Int) == c then some (.int n) else none
  | _ => none
theorem g_num {e : Expr} {f : Dn PyData} (tb : List Addr) (ht : ∀ C ∈ tb, XCl X.K C ∧ PySem.W.findIn X.K (Value.ref C) "number" = some none) (he : PE X e (tD X.K X.mg E f)) (hb : attributeBase e "number" X.env (eval e X.env) = eval e X.env := by rfl) :
    PE X (.Attribute e "number" pos) (tD X.K X.mg E (dUn (numD tb) f)) :=
  pe_wk (pe_num he hb) fun σ H Q ⟨ρ, F, R, q⟩ => ⟨ρ, F, R, (out_bnd (K := X.K) (F := F) q).mono fun d ρ1 kk v F1 H1 S1 dv => by
    obtain ⟨r, hr, q2⟩ := out_lft (kk _ _ _ S1)
    cases dv with
    | @ex1 a C dx n h1 h2 =>
      have hr' : (if tb.any fun D => (D : Int) == (C : Int) then some (PyData.int n) else none) = some r := hr
      by_cases c : (tb.any fun D => (D : Int) == (C : Int)) = true
      · rw [if_pos c] at hr'
        cases hr'
        obtain ⟨D, hD, e⟩ := List.any_eq_true.mp c
        have e' : D = C := by
          have := eq_of_beq e
          exact Int.ofNat_inj.mp this
        subst e'
        obtain ⟨t1, t2⟩ := ht D hD
        exact ⟨a, D, dx, .int n, rfl, t1, t2, S1.rel.sub _ _ h1, S1.rel.sub _ _ h2, q2 _ F1 H1 S1 (.int n)⟩
      · rw [if_neg c] at hr'
        cases hr'
    | _ => cases hr⟩
/-- isinstance(e, T), e an exception -/
def excC : PyData → Option Int
  | .dict [(.int c, .int _)] => some c
  | .dict [(.int c, .none)] => some c
  | _ => none
def isXD (tb : List (Addr × Bool)) (d : PyData) : Option PyData := (excC d).bind fun c => (tb.find? fun q => (q.1 : Int) == c).map fun q => .bool q.2
theorem isX_end {K : PySem.W.Frag} {F H : Hp} {tb : List (Addr × Bool)} {v : V} {d r : PyData} {c : V} {u : Value} (hc : ClsV c u) (ht : ∀ q ∈ tb, XCl K q.1 ∧ PySem.W.kitOne K (.ref q.1) u = some q.2) (s : Same F H) (dv : Dq F v d) (hr : isXD tb d = some r) {Q : VK} (q : ∀ b, r = .bool b → Q (.bl b) H) : rIsX K [v, c] H Q := by
  obtain ⟨i, h1, h2⟩ := Option.bind_eq_some_iff.mp hr
  obtain ⟨⟨D, b⟩, h3, h4⟩ := Option.map_eq_some_iff.mp h2
  have hm := List.mem_of_find?_eq_some h3
  have he := List.find?_some h3
  obtain ⟨t1, t2⟩ := ht _ hm
  have he' : (D : Int) = i := eq_of_beq he
  cases dv with
  | @ex0 a C ha =>
    cases h1
    have e : D = C := Int.ofNat_inj.mp he'
    subst e
    exact ⟨a, c, u, D, none, b, rfl, hc, s _ _ ha, fun _ z => (by cases z), t1, t2, q b h4.symm⟩
  | @ex1 a C dx n ha hd =>
    cases h1
    have e : D = C := Int.ofNat_inj.mp he'
    subst e
    exact ⟨a, c, u, D, some dx, b, rfl, hc, s _ _ ha, fun _ z => by cases z; exact ⟨_, s _ _ hd⟩, t1, t2, q b h4.symm⟩
  | _ => cases h1
theorem isX_wk {K : PySem.W.Frag} {mg : Str → Option Value} {tb : List (Addr × Bool)} {f : Dn PyData} {c : V} {u : Value} (hc : ClsV c u) (ht : ∀ q ∈ tb, XCl K q.1 ∧ PySem.W.kitOne K (.ref q.1) u = some q.2) (σ : St) (H : Hp) (Q : VK) (h : tD K mg E (dUn (isXD tb) f) σ H Q) :
    tCB (rIsX K) (tCons (tD K mg E f) (tCons (tC c) tNil)) σ H Q := by
  obtain ⟨ρ, F, R, q⟩ := h
  refine ⟨ρ, F, R, (out_bnd (K := K) (F := F) q).mono fun d ρ1 kk v F1 H1 S1 dv => ?_⟩
  obtain ⟨r, hr, q2⟩ := out_lft (kk _ _ _ S1)
  exact isX_end hc ht S1.rel.sub dv hr fun b e => by subst e; exact q2 _ F1 H1 S1 (.bl b)
/-- T a built-in class -/
theorem g_isXB {e : Expr} {f : Dn PyData} {T : String} {p2 p3 : Pos} (tb : List (Addr × Bool)) (ht : ∀ q ∈ tb, XCl X.K q.1 ∧ PySem.W.kitOne X.K (.ref q.1) (.type T) = some q.2) (hi : Gl X "isinstance") (hj : X.mg "isinstance" = none) (hg : Gl X x) (hm : X.mg x = none) (hv : bootBuiltins x = some (.type T)) (he : PE X e (tD X.K X.mg E f))
    (hn : x ≠ "__name__" := by decide) (hdb : (x == ("__debug__" : Str)) = false := by decide) (hs : starEach [e, .Name x p3] X.env = (false, eval e X.env) :: starEach [.Name x p3] X.env := by rfl) (hpl : (backTo pos (starEach [.Name x p3] X.env)).any (·.1) = false := by rfl) :
    PE X (.Call (.Name "isinstance" p2) [e, .Name x p3] [] pos) (tD X.K X.mg E (dUn (isXD tb) f)) :=
  pe_wk (pe_callB call_isX hi hj PyProof.Rows.Boot.isinstance (pa_cons he (pa_cons (pe_bltn (v := .ty T) hg hm hv rfl hn hdb) pa_nil) hs) (he := hs) (hpl := hpl)) (isX_wk (.ty T) ht)
/-- T a class of the program -/
theorem g_isXO {e : Expr} {f : Dn PyData} {D : Addr} {p2 p3 : Pos} (tb : List (Addr × Bool)) (ht : ∀ q ∈ tb, XCl X.K q.1 ∧ PySem.W.kitOne X.K (.ref q.1) (.ref D) = some q.2) (hi : Gl X "isinstance") (hj : X.mg "isinstance" = none) (hg : Gl X x) (hm : X.mg x = some (.ref D)) (he : PE X e (tD X.K X.mg E f))
    (hdb : (x == ("__debug__" : Str)) = false := by decide) (hs : starEach [e, .Name x p3] X.env = (false, eval e X.env) :: starEach [.Name x p3] X.env := by rfl) (hpl : (backTo pos (starEach [.Name x p3] X.env)).any (·.1) = false := by rfl) :
    PE X (.Call (.Name "isinstance" p2) [e, .Name x p3] [] pos) (tD X.K X.mg E (dUn (isXD tb) f)) :=
  pe_wk (pe_callB call_isX hi hj PyProof.Rows.Boot.isinstance (pa_cons he (pa_cons (pe_glob (v := .ref D) hg hm rfl hdb) pa_nil) hs) (he := hs) (hpl := hpl)) (isX_wk (.own D) ht)
end
end Gx

/-! X6: isinstance of plain data. -/
namespace Gx
open PySem PySem.Spec L2
open PyProof.Rows hiding St

inductive Ty where
  | non | bl | int | str | lst | tup
deriving DecidableEq
def Ty.nm : Ty → String
  | .non => "NoneType"
  | .bl => "bool"
  | .int => "int"
  | .str => "str"
  | .lst => "list"
  | .tup => "tuple"
def tyOf : PyData → Option Ty
  | .none => some .non
  | .bool _ => some .bl
  | .int _ => some .int
  | .str _ => some .str
  | .list _ => some .lst
  | .tuple _ => some .tup
  | .dict _ => none
/-- a thing of a is one of b -/
def isa (a b : Ty) : Bool := a == b || (a == .bl && b == .int)
theorem tyX_of {K : PySem.W.Frag} {F H : Hp} {v : V} {d : PyData} {t : Ty} (s : Same F H) (h : Dq F v d) (e : tyOf d = some t) : TyX K H v (.type t.nm) := by
  cases h with
  | non => cases e; exact .base .non
  | bl b => cases e; exact .base (.bl b)
  | int i => cases e; exact .base (.int i)
  | str x => cases e; exact .base (.str x)
  | lst ha _ => cases e; exact .base (.lst (s _ _ ha))
  | tup ha _ => cases e; exact .base (.tup (s _ _ ha))
  | _ => cases e
theorem kit_ok (K : PySem.W.Frag) (a b : Ty) : PySem.W.kitOne K (.type a.nm) (.type b.nm) = some (isa a b) := by
  cases a <;> cases b <;> rfl
theorem kit_any (K : PySem.W.Frag) (a b c : Ty) : PySem.W.kitAny K (.type a.nm) [.type b.nm, .type c.nm] = some (isa a b || isa a c) := by
  rw [PySem.W.kitAny.eq_2, kit_ok, PySem.W.kitAny.eq_2, kit_ok, PySem.W.kitAny.eq_1]
  cases isa a b <;> cases isa a c <;> rfl
def isiD (b : Ty) (d : PyData) : Option PyData := (tyOf d).map fun a => .bool (isa a b)
def isi2D (b c : Ty) (d : PyData) : Option PyData := (tyOf d).map fun a => .bool (isa a b || isa a c)
section
variable {X : Cx} {E : XK} {pos p : Pos} {x y : Str}
theorem g_isi {e : Expr} {f : Dn PyData} {p2 p3 : Pos} (b : Ty) (hi : Gl X "isinstance") (hj : X.mg "isinstance" = none) (hg : Gl X x) (hm : X.mg x = none) (hv : bootBuiltins x = some (.type b.nm)) (he : PE X e (tD X.K X.mg E f))
    (hn : x ≠ "__name__" := by decide) (hdb : (x == ("__debug__" : Str)) = false := by decide) (hs : starEach [e, .Name x p3] X.env = (false, eval e X.env) :: starEach [.Name x p3] X.env := by rfl) (hpl : (backTo pos (starEach [.Name x p3] X.env)).any (·.1) = false := by rfl) :
    PE X (.Call (.Name "isinstance" p2) [e, .Name x p3] [] pos) (tD X.K X.mg E (dUn (isiD b) f)) :=
  pe_wk (pe_callB call_isi hi hj PyProof.Rows.Boot.isinstance (pa_cons he (pa_cons (pe_bltn (v := .ty b.nm) hg hm hv rfl hn hdb) pa_nil) hs) (he := hs) (hpl := hpl)) fun σ H Q ⟨ρ, F, R, q⟩ => ⟨ρ, F, R, (out_bnd (K := X.K) (F := F) q).mono fun d ρ1 k v F1 H1 S1 d1 => by
    obtain ⟨r, hr, q2⟩ := out_lft (k _ _ _ S1)
    obtain ⟨a, h1, h2⟩ := Option.map_eq_some_iff.mp hr
    subst h2
    exact ⟨v, _, _, _, _, rfl, .ty _, tyX_of S1.rel.sub d1 h1, kit_ok X.K a b, q2 _ F1 H1 S1 (.bl _)⟩⟩
theorem g_isi2 {e : Expr} {f : Dn PyData} {p2 p3 p4 p5 : Pos} {kk : Nat} (b c : Ty) (hi : Gl X "isinstance") (hj : X.mg "isinstance" = none) (hg : Gl X x) (hm : X.mg x = none) (hv : bootBuiltins x = some (.type b.nm)) (hg2 : Gl X y) (hm2 : X.mg y = none) (hv2 : bootBuiltins y = some (.type c.nm)) (he : PE X e (tD X.K X.mg E f))
    (hn : x ≠ "__name__" := by decide) (hdb : (x == ("__debug__" : Str)) = false := by decide) (hn2 : y ≠ "__name__" := by decide) (hdb2 : (y == ("__debug__" : Str)) = false := by decide)
    (hs : starEach [e, .Tuple [.Name x p3, .Name y p4] kk p5] X.env = (false, eval e X.env) :: starEach [.Tuple [.Name x p3, .Name y p4] kk p5] X.env := by rfl) (hpl : (backTo pos (starEach [.Tuple [.Name x p3, .Name y p4] kk p5] X.env)).any (·.1) = false := by rfl) :
    PE X (.Call (.Name "isinstance" p2) [e, .Tuple [.Name x p3, .Name y p4] kk p5] [] pos) (tD X.K X.mg E (dUn (isi2D b c) f)) :=
  pe_wk (pe_callB call_isiT hi hj PyProof.Rows.Boot.isinstance (pa_cons he (pa_cons (pe_tup (pa_cons (pe_bltn (v := .ty b.nm) hg hm hv rfl hn hdb) (pa_cons (pe_bltn (v := .ty c.nm) hg2 hm2 hv2 rfl hn2 hdb2) pa_nil))) pa_nil) hs) (he := hs) (hpl := hpl)) fun σ H Q ⟨ρ, F, R, q⟩ => ⟨ρ, F, R, (out_bnd (K := X.K) (F := F) q).mono fun d ρ1 k v F1 H1 S1 d1 => by
    obtain ⟨r, hr, q2⟩ := out_lft (k _ _ _ S1)
    obtain ⟨a, h1, h2⟩ := Option.map_eq_some_iff.mp hr
    subst h2
    refine ⟨by rw [sizeLine_eq]; show 2 ≤ _; decide, fun t nt => ?_⟩
    have gr := Grow.own (o := .tup [.ty b.nm, .ty c.nm]) S1.rel.sub nt
    exact ⟨v, t, _, _, _, _, rfl, upd_same, .cons (.ty _) (.cons (.ty _) .nil), tyX_of gr.sub d1 h1, kit_any X.K a b c, q2 _ F1 _ (S1.trans (gr.stp S1.rel)) (.bl _)⟩⟩
end
end Gx

/-! X7: what a text says of its defs and classes. -/
namespace Gx
open PySem PySem.Spec L2
open PyProof.Rows hiding St

structure DefAt (K : PySem.W.Frag) (mg : Str → Option Value) (x : Str) (st : Stmt) (ps : List Str) : Prop where
  ex : ∃ f fd, Fun K x x st f fd ∧ mg x = some (.ref f) ∧ Binds K fd ps []
theorem calOf {P : Program} {w : World} {K : PySem.W.Frag} {mg : Str → Option Value} {base : Heap} {k n : Nat} {x : Str} {st : Stmt} {ps : List Str} {den : Den} (D : DefAt K mg x st ps) (h : ∀ f fd, Fun K x x st f fd → FnOk P w K mg base (L2.CX P w) k f fd ps (spD K mg n den)) : Cal P w K mg base k x n den := by
  obtain ⟨f, fd, Fn, hm, hb⟩ := D.ex
  exact ⟨f, fd, ps, h f fd Fn, hm, Fn.kp, hb⟩
theorem room_u {k : Nat} {A : Around} (h : Room k A) : A.units + 64 < cLine := by
  have := h.un
  omega
/-- an exception class of the program with its own __init__ -/
structure MkAt (K : PySem.W.Frag) (mg : Str → Option Value) (C : Addr) : Prop where
  ex : ∃ B newId initId bmB fI fd, BaseG B newId initId bmB ∧ OexG K C B newId bmB ∧ PySem.W.findIn K (Value.ref C) "__init__" = some (some (.ref fI)) ∧ PySem.W.typeIn K (.ref fI) = some (.type "function") ∧
    (∀ (P : Program) (w : World) (base : Heap), FnOk P w K mg base (L2.CX P w) 2 fI fd ["self", "number"] (spI C)) ∧ Binds K fd ["self", "number"] [] ∧ ∀ (s : Shared) (u v : Value), BindsTo s fd ⟨[u], [("number", v)]⟩ ((["self", "number"] : List Str).zip [u, v])
theorem mkAtLE {K : PySem.W.Frag} {mg : Str → Option Value} {C f : Addr} {fd : FuncData} {qual tx : Str} {p1 p2 p3 p4 p5 p6 p7 p8 p9 p10 p11 p12 p13 p14 p15 : Pos} (F : Fun K "__init__" qual (iSt "LookupError" tx p1 p2 p3 p4 p5 p6 p7 p8 p9 p10 p11 p12 p13 p14 p15) f fd) (T : OexG K C "LookupError" "LookupError.__new__" bmLE) (hx : tx.length ≤ 100)
    (hno : PySem.W.findIn K (Value.ref C) "number" = some none) (hi : PySem.W.findCls K (Value.type "LookupError") (Value.type "type") "__init__" = some (PySem.W.CFound.val (Value.builtin "LookupError.__init__"))) (hm : mg "LookupError" = none) (hl : (p4.endLine == p10.line) = true)
    (iC : PySem.W.findIn K (Value.ref C) "__init__" = some (some (.ref f))) (tI : PySem.W.typeIn K (.ref f) = some (.type "function")) : MkAt K mg C := by
  refine ⟨_, _, _, _, f, fd, baseLE, T, iC, tI, fun P w base => ok_initLE F T hx hno hi hm hl, F.binds (ps := ["self", "number"]) fun _ _ _ _ _ _ us hl => match us, hl with | [_, _], _ => rfl, fun s u v => ?_⟩
  obtain ⟨oc, od, kV, doc, pm, an, cdv, ct, osl, e, _, _⟩ := F.ex
  subst e
  exact .of_eq rfl
theorem mkAtVE {K : PySem.W.Frag} {mg : Str → Option Value} {C f : Addr} {fd : FuncData} {qual tx : Str} {p1 p2 p3 p4 p5 p6 p7 p8 p9 p10 p11 p12 p13 p14 p15 : Pos} (F : Fun K "__init__" qual (iSt "ValueError" tx p1 p2 p3 p4 p5 p6 p7 p8 p9 p10 p11 p12 p13 p14 p15) f fd) (T : OexG K C "ValueError" "ValueError.__new__" bmVE) (hx : tx.length ≤ 100)
    (hno : PySem.W.findIn K (Value.ref C) "number" = some none) (hi : PySem.W.findCls K (Value.type "ValueError") (Value.type "type") "__init__" = some (PySem.W.CFound.val (Value.builtin "ValueError.__init__"))) (hm : mg "ValueError" = none) (hl : (p4.endLine == p10.line) = true)
    (iC : PySem.W.findIn K (Value.ref C) "__init__" = some (some (.ref f))) (tI : PySem.W.typeIn K (.ref f) = some (.type "function")) : MkAt K mg C := by
  refine ⟨_, _, _, _, f, fd, baseVE, T, iC, tI, fun P w base => ok_initVE F T hx hno hi hm hl, F.binds (ps := ["self", "number"]) fun _ _ _ _ _ _ us hl => match us, hl with | [_, _], _ => rfl, fun s u v => ?_⟩
  obtain ⟨oc, od, kV, doc, pm, an, cdv, ct, osl, e, _, _⟩ := F.ex
  subst e
  exact .of_eq rfl
section
variable {X : Cx} {E : XK} {pos p : Pos} {C : Addr} {x : Str} {k : Nat}
theorem mkX_at {e : Expr} {f : Dn PyData} (M : MkAt X.K X.mg C) (hr : Room k X.A) (hk : 3 ≤ k) (hx : Passes (L2.CX X.prog X.w) X E0) (hg : Gl X x) (hm : X.mg x = some (.ref C)) (he : PE X e (tD X.K X.mg E f))
    (hdb : (x == ("__debug__" : Str)) = false := by decide) (hs : starEach [e] X.env = (false, eval e X.env) :: starEach [] X.env := by rfl) (hpl : (backTo pos (starEach [] X.env)).any (·.1) = false := by rfl) :
    PE X (.Call (.Name x p) [e] [] pos) (tD X.K X.mg E (dMk C f)) := by
  obtain ⟨B, newId, initId, bmB, fI, fd, BG, T, iC, tI, F1, hb, _⟩ := M.ex
  exact g_mkX BG T iC tI (F1 _ _ _) (hr.mono hk) hb hx hg hm he hdb hs hpl
theorem mkK_at {e : Expr} {f : Dn PyData} {kpos : Pos} (M : MkAt X.K X.mg C) (hr : Room k X.A) (hk : 3 ≤ k) (hx : Passes (L2.CX X.prog X.w) X E0) (hg : Gl X x) (hm : X.mg x = some (.ref C)) (he : PE X e (tD X.K X.mg E f))
    (hdb : (x == ("__debug__" : Str)) = false := by decide) (h1 : ((backToKw pos (keywordEach [⟨some "number", e, kpos⟩] X.env)).all fun x => x.fst.isSome) = true := by rfl) (h2 : List.filterMap (fun x => x.fst) (backToKw pos (keywordEach [⟨some "number", e, kpos⟩] X.env)) = [("number" : Str)] := by rfl)
    (h3 : (((backTo pos (starEach [] X.env)).any fun x => x.fst) || (backToKw pos (keywordEach [⟨some "number", e, kpos⟩] X.env)).any fun x => x.fst.isNone) = false := by rfl) :
    PE X (.Call (.Name x p) [] [⟨some "number", e, kpos⟩] pos) (tD X.K X.mg E (dMk C f)) := by
  obtain ⟨B, newId, initId, bmB, fI, fd, BG, T, iC, tI, F1, _, hb⟩ := M.ex
  exact g_mkK BG T iC tI (F1 _ _ _) (hr.mono hk) hb hx hg hm he hdb h1 h2 h3
/-- chains as tests -/
abbrev dChT (g g' : PyData → PyData → Option Rv) (fa fb fc : Dn PyData) : Dn Bool := bnd (dChain g g' fa fb fc) fun r => lft (boolOf r.d)
/-- x or y, as data -/
def dOrD (f g : Dn PyData) : Dn PyData := bnd f fun x => bnd (lft (truth x)) fun b => if b then ret x else g
theorem g_orD {a b : Expr} {rest : List Expr} {f g : Dn PyData} (ha : PE X a (tD X.K X.mg E f)) (hb : PE X (.BoolOp .Or (b :: rest) pos) (tD X.K X.mg E g)) : PE X (.BoolOp .Or (a :: b :: rest) pos) (tD X.K X.mg E (dOrD f g)) :=
  pe_wk (pe_orT ha hb) fun σ H Q ⟨ρ, F, R, q⟩ => ⟨ρ, F, R, (out_bnd (K := X.K) (F := F) q).mono fun x ρ1 k v F1 H1 S1 d1 => by
    obtain ⟨c, hc, q2⟩ := out_lft (out_bnd (K := X.K) (F := F1) (k _ _ _ S1))
    have q3 := q2 _ _ _ (Stp.refl S1.rel)
    refine ⟨c, tru_of S1.rel.sub d1 hc, ?_⟩
    cases c with
    | true =>
      rw [if_pos rfl] at q3 ⊢
      exact out_ret q3 v F1 H1 S1 d1
    | false =>
      rw [if_neg Bool.false_ne_true] at q3 ⊢
      exact ⟨ρ1, F1, S1.rel, q3.mono fun c ρ2 k2 w F2 H2 S2 d2 => k2 w F2 H2 (S1.trans S2) d2⟩⟩
/-- x, y = a, b where the stores go the other way round -/
def nmAll : List Nat → List PyData → Ev → Option Ev
  | [], [], ρ => some ρ
  | i :: is, d :: ds, ρ => (hName i d ρ).bind (nmAll is ds)
  | _, _, _ => none
def sPar (is : List Nat) (f : Dn (List PyData)) : Dn Fl := bnd f fun ds => fun ρ => match nmAll is ds ρ with
  | none => .st
  | some ρ' => .ok (.nx, ρ')
theorem nmAll_stp {K : PySem.W.Frag} {F H : Hp} : ∀ {is : List Nat} {ds : List PyData} {vs : List V} {ρ ρ' : Ev} {σ : St}, Rel K ρ σ F H → DqAll F vs ds → nmAll is ds ρ = some ρ' → Stp K ρ σ F H ρ' ((is.zip vs).foldl (fun σ p => σ.set p.1 (some p.2)) σ) F H ∧ is.length = vs.length
  | [], _, _, ρ, ρ', σ, R, dq, e => by
    cases dq with
    | nil => cases e; exact ⟨Stp.refl R, rfl⟩
    | cons _ _ => cases e
  | i :: is, _, _, ρ, ρ', σ, R, dq, e => by
    cases dq with
    | nil => cases e
    | @cons v vs d ds d1 d2 =>
      obtain ⟨ρ1, e1, e2⟩ := Option.bind_eq_some_iff.mp (show (hName i d ρ).bind (nmAll is ds) = some ρ' from e)
      have S1 := hName_stp R d1 e1
      obtain ⟨S2, hl⟩ := nmAll_stp S1.rel d2 e2
      exact ⟨S1.trans S2, by simp [hl]⟩
theorem par_end {K : PySem.W.Frag} {mg : Str → Option Value} {is : List Nat} {ds : List PyData} {vs : List V} {ρ ρ1 : Ev} {σ : St} {F H F1 H1 : Hp} {P : Fl → Ev → Prop} (S1 : Stp K ρ σ F H ρ1 σ F1 H1) (dq : DqAll F1 vs ds) (q : Out mg E ρ1 σ H1 ((fun ρ => match nmAll is ds ρ with
    | none => .st
    | some ρ' => .ok (.nx, ρ') : Dn Fl) ρ1) P) : ∃ ρ2, P .nx ρ2 ∧ Stp K ρ σ F H ρ2 ((is.zip vs).foldl (fun σ p => σ.set p.1 (some p.2)) σ) F1 H1 ∧ is.length = vs.length := by
  cases e : nmAll is ds ρ1 with
  | none => simp only [e] at q; exact (show False from q).elim
  | some ρ2 =>
    simp only [e] at q
    obtain ⟨S2, hl⟩ := nmAll_stp S1.rel dq e
    exact ⟨ρ2, q, S1.trans S2, hl⟩
theorem gs_par (i j : Nat) {x y : Str} {a b : Expr} {f : Dn (List PyData)} {px py pt pt2 : Pos} {kt k2 : Nat} (hc : X.calm = true) (nd : X.N.Nodup) (hi : X.N[i]? = some x) (hj : X.N[j]? = some y) (ij : i ≠ j) (hx : List.lookup x X.env.scope.names = some .local) (hy : List.lookup y X.env.scope.names = some .local)
    (ha : PA X [a, b] (tDs X.K X.mg E f)) (hs : swappedStores [.Tuple [.Name x px, .Name y py] kt pt] (.Tuple [a, b] k2 pt2) X.env = pure (some [x, y])) (hw : swapsWithSole [.Tuple [.Name x px, .Name y py] kt pt] (.Tuple [a, b] k2 pt2) pos.line X.env = pure false := by rfl) :
    PS X (.Assign [.Tuple [.Name x px, .Name y py] kt pt] (.Tuple [a, b] k2 pt2) pos) (tS X.K X.mg E (sPar [i, j] f)) :=
  ps_wk (ps_par hc nd hi hj ij hx hy ha hs hw) fun D σ H ⟨ρ, F, R, q⟩ => ⟨ρ, F, R, (out_bnd (K := X.K) (F := F) q).mono fun ds ρ1 k vs F1 H1 S1 dq => by
    obtain ⟨ρ2, q2, S2, hl⟩ := par_end S1 dq (k _ _ _ S1)
    match vs, hl with
    | [v, w], _ => exact ⟨v, w, rfl, q2 _ F1 H1 S2⟩⟩
theorem gs_par3 (i j l : Nat) {x y z : Str} {a b c : Expr} {f : Dn (List PyData)} {px py pz pt pt2 : Pos} {kt k2 : Nat} (hc : X.calm = true) (nd : X.N.Nodup) (hi : X.N[i]? = some x) (hj : X.N[j]? = some y) (hl : X.N[l]? = some z) (ij : i ≠ j) (il : i ≠ l) (jl : j ≠ l) (hx : List.lookup x X.env.scope.names = some .local) (hy : List.lookup y X.env.scope.names = some .local) (hz : List.lookup z X.env.scope.names = some .local)
    (ha : PA X [a, b, c] (tDs X.K X.mg E f)) (hs : swappedStores [.Tuple [.Name x px, .Name y py, .Name z pz] kt pt] (.Tuple [a, b, c] k2 pt2) X.env = pure (some [x, y, z])) (hw : swapsWithSole [.Tuple [.Name x px, .Name y py, .Name z pz] kt pt] (.Tuple [a, b, c] k2 pt2) pos.line X.env = pure false := by rfl) :
    PS X (.Assign [.Tuple [.Name x px, .Name y py, .Name z pz] kt pt] (.Tuple [a, b, c] k2 pt2) pos) (tS X.K X.mg E (sPar [i, j, l] f)) :=
  ps_wk (ps_par3 hc nd hi hj hl ij il jl hx hy hz ha hs hw) fun D σ H ⟨ρ, F, R, q⟩ => ⟨ρ, F, R, (out_bnd (K := X.K) (F := F) q).mono fun ds ρ1 k vs F1 H1 S1 dq => by
    obtain ⟨ρ2, q2, S2, hl⟩ := par_end S1 dq (k _ _ _ S1)
    match vs, hl with
    | [u, v, w], _ => exact ⟨u, v, w, rfl, q2 _ F1 H1 S2⟩⟩
end
end Gx

/-! E1: what denotations come to, step by step. -/
namespace Gx
open PySem PySem.Spec L2
open PyProof.Rows hiding St

section
variable {ρ ρ1 ρ2 ρ3 : Ev}
theorem ev_bnd {α β : Type} {f : Dn α} {g : α → Dn β} {a : α} {r : Rs (β × Ev)} (h1 : f ρ = .ok (a, ρ1)) (h2 : g a ρ1 = r) : bnd f g ρ = r := by
  unfold bnd
  rw [h1]
  exact h2
theorem ev_lft {α : Type} {o : Option α} {a : α} (h : o = some a) : lft o ρ = .ok (a, ρ) := by rw [h]; rfl
theorem ev_seq {f g : Dn Fl} {r : Rs (Fl × Ev)} (h1 : f ρ = .ok (.nx, ρ1)) (h2 : g ρ1 = r) : sSeq f g ρ = r := ev_bnd h1 h2
theorem ev_seqR {f g : Dn Fl} {v : Rv} (h1 : f ρ = .ok (.rt v, ρ1)) : sSeq f g ρ = .ok (.rt v, ρ1) := ev_bnd h1 rfl
theorem ev_put {i : Nat} {r : Rv} (h : isBl ρ[i]? = false) : put i r ρ = .ok (.nx, ρ.set i r.en) := by
  unfold put
  rw [h]
  rfl
theorem ev_set {i : Nat} {f : Dn Rv} {r : Rv} (h1 : f ρ = .ok (r, ρ1)) (h2 : isBl ρ1[i]? = false) : sSet i f ρ = .ok (.nx, ρ1.set i r.en) := ev_bnd h1 (ev_put h2)
theorem ev_ret {f : Dn Rv} {r : Rv} (h1 : f ρ = .ok (r, ρ1)) : sRet f ρ = .ok (.rt r, ρ1) := ev_bnd h1 rfl
theorem ev_if {c : Dn Bool} {f g : Dn Fl} {b : Bool} {r : Rs (Fl × Ev)} (h1 : c ρ = .ok (b, ρ1)) (h2 : (if b then f else g) ρ1 = r) : sIf c f g ρ = r := ev_bnd h1 h2
theorem ev_nil : dNil ρ = .ok ([], ρ) := rfl
theorem ev_cons {f : Dn PyData} {g : Dn (List PyData)} {d : PyData} {ds : List PyData} (h1 : f ρ = .ok (d, ρ1)) (h2 : g ρ1 = .ok (ds, ρ2)) : dCons f g ρ = .ok (d :: ds, ρ2) := ev_bnd h1 (ev_bnd h2 rfl)
theorem ev_lst {f : Dn (List PyData)} {ds : List PyData} (h1 : f ρ = .ok (ds, ρ1)) (h2 : okLen ds.length = true) : dLst f ρ = .ok (.ol ds, ρ1) := ev_bnd h1 (by show (if okLen ds.length then ret (Rv.ol ds) else lft none : Dn Rv) ρ1 = _; rw [if_pos h2]; rfl)
theorem ev_tup {f : Dn (List PyData)} {ds : List PyData} (h1 : f ρ = .ok (ds, ρ1)) (h2 : okLen ds.length = true) : dTup f ρ = .ok (.tuple ds, ρ1) := ev_bnd h1 (by show (if okLen ds.length then ret (PyData.tuple ds) else lft none : Dn PyData) ρ1 = _; rw [if_pos h2]; rfl)
theorem ev_frz {f : Dn Rv} {r : Rv} (h1 : f ρ = .ok (r, ρ1)) : frz f ρ = .ok (r.d, ρ1) := ev_bnd h1 rfl
theorem ev_ofD {f : Dn PyData} {d : PyData} (h1 : f ρ = .ok (d, ρ1)) : ofD f ρ = .ok (.fz d, ρ1) := ev_bnd h1 rfl
theorem ev_bin {g : PyData → PyData → Option Rv} {fa fb : Dn PyData} {x y : PyData} {r : Rv} (h1 : fa ρ = .ok (x, ρ1)) (h2 : fb ρ1 = .ok (y, ρ2)) (h3 : g x y = some r) : dBin g fa fb ρ = .ok (r, ρ2) := ev_bnd h1 (ev_bnd h2 (ev_lft h3))
theorem ev_un {g : PyData → Option PyData} {f : Dn PyData} {x r : PyData} (h1 : f ρ = .ok (x, ρ1)) (h2 : g x = some r) : dUn g f ρ = .ok (r, ρ1) := ev_bnd h1 (ev_lft h2)
theorem ev_call {g : List PyData → Option Rv} {f : Dn (List PyData)} {xs : List PyData} {r : Rv} (h1 : f ρ = .ok (xs, ρ1)) (h2 : g xs = some r) : dCall g f ρ = .ok (r, ρ1) := ev_bnd h1 (ev_lft h2)
theorem ev_mk {C : Addr} {f : Dn PyData} {n : Int} (ok : okN n = true) (h1 : f ρ = .ok (.int n, ρ1)) : dMk C f ρ = .ok (exD1 C n, ρ1) := ev_bnd h1 (by show (if okN n then ret (exD1 C n) else lft none : Dn PyData) ρ1 = _; rw [if_pos ok]; rfl)
theorem ev_cmpT {g : PyData → PyData → Option Rv} {fa fb : Dn PyData} {x y : PyData} {b : Bool} (h1 : fa ρ = .ok (x, ρ1)) (h2 : fb ρ1 = .ok (y, ρ2)) (h3 : g x y = fB b) : dCmpT g fa fb ρ = .ok (b, ρ2) := ev_bnd (ev_bin h1 h2 h3) rfl
theorem ev_app {den : Den} {as : List Ar} {es es2 : List En} {r : Rv} (h1 : lent as = some none) (h2 : as.map (Ar.en ρ) = es) (h3 : den es = .ok (r, es2)) : apply den as ρ = .ok (r, ρ) := by
  unfold apply
  rw [h1]
  simp only [h2, h3]
  rfl
theorem ev_fn {den : Den} {f : Dn (List Ar)} {as : List Ar} {es es2 : List En} {r : Rv} (h0 : f ρ = .ok (as, ρ1)) (h1 : lent as = some none) (h2 : as.map (Ar.en ρ1) = es) (h3 : den es = .ok (r, es2)) : dFn den f ρ = .ok (r, ρ1) := ev_bnd h0 (ev_app h1 h2 h3)
theorem ev_run {n N : Nat} {f : Dn Fl} {as : List En} {r : Rv} (h : f (as ++ List.replicate (N - n) .no) = .ok (.rt r, ρ1)) : runF n N f as = .ok (r, back as ρ1) := by
  unfold runF
  rw [h]
theorem ev_peek {i : Nat} {f : Dn PyData} {k d : PyData} (h0 : (seqE ρ[i]?).isSome = true) (h1 : f ρ = .ok (k, ρ1)) (h2 : itemE ρ1[i]? k = some d) : dPeek i f ρ = .ok (d, ρ1) := by
  unfold dPeek
  rw [h0, if_pos rfl]
  refine ev_bnd h1 ?_
  simp only [h2]
theorem ev_setIx {i : Nat} {fk f : Dn PyData} {d k : PyData} {ys : List PyData} (h1 : f ρ = .ok (d, ρ1)) (h0 : (ownOf ρ1[i]?).isSome = true) (h2 : fk ρ1 = .ok (k, ρ2)) (h3 : (ownOf ρ2[i]?).bind (setIxD d k) = some ys) : sSetIx i fk f ρ = .ok (.nx, ρ2.set i (reKind ρ2[i]? ys)) := by
  refine ev_bnd h1 ?_
  show (if (ownOf ρ1[i]?).isSome then bnd fk (fun k => sUpd i (setIxD d k)) ρ1 else .st) = _
  rw [h0, if_pos rfl]
  refine ev_bnd h2 ?_
  unfold sUpd
  rw [h3]
end
theorem modD_ev {i j : Int} (h : 0 < j) : modD (.int i) (.int j) = some (.fz (.int (i % j))) := if_pos h
theorem fdivD_ev {i j : Int} (h : 0 < j) (h2 : j < 1073741824) : fdivD (.int i) (.int j) = some (.fz (.int (i / j))) := if_pos ⟨h, h2⟩
theorem w64_of {i : Int} (h1 : -1000000000000000000 < i) (h2 : i < 1000000000000000000) : w64 i = true := by
  unfold w64
  rw [Bool.and_eq_true]
  exact ⟨decide_eq_true (by omega), decide_eq_true (by omega)⟩
theorem mulD_l {i j : Int} (h : w64 i = true) : mulD (.int i) (.int j) = some (.fz (.int (i * j))) := by
  show (if w64 i || w64 j then _ else _) = _
  rw [h]
  rfl
theorem mulD_r {i j : Int} (h : w64 j = true) : mulD (.int i) (.int j) = some (.fz (.int (i * j))) := by
  show (if w64 i || w64 j then _ else _) = _
  rw [h, Bool.or_true]
  rfl
section
variable {ρ ρ1 ρ2 ρ3 : Ev}
theorem ev_fnL {den : Den} {f : Dn (List Ar)} {as : List Ar} {es es2 : List En} {r : Rv} {k i : Nat} (h0 : f ρ = .ok (as, ρ1)) (h1 : lent as = some (some (k, i))) (h2 : as.map (Ar.en ρ1) = es) (h3 : den es = .ok (r, es2)) : dFn den f ρ = .ok (r, putAt ρ1 i es2[k]?) := by
  refine ev_bnd h0 ?_
  unfold apply
  rw [h1]
  simp only [h2, h3]
  rfl
theorem ev_lendB {i : Nat} {g : Dn (List Ar)} {as : List Ar} {xs : List PyData} (h : ρ[i]? = some (.bl xs)) (h1 : g ρ = .ok (as, ρ1)) : aLend i g ρ = .ok (.sl i :: as, ρ1) := by
  unfold aLend
  rw [h]
  exact ev_bnd h1 rfl
theorem ev_aconsF {f : Dn Rv} {g : Dn (List Ar)} {d : PyData} {as : List Ar} (h1 : f ρ = .ok (.fz d, ρ1)) (h2 : g ρ1 = .ok (as, ρ2)) : aCons f g ρ = .ok (.fz d :: as, ρ2) := ev_bnd h1 (ev_bnd h2 rfl)
theorem ev_aconsO {f : Dn Rv} {g : Dn (List Ar)} {xs : List PyData} {as : List Ar} (h1 : f ρ = .ok (.ol xs, ρ1)) (h2 : g ρ1 = .ok (as, ρ2)) : aCons f g ρ = .ok (.tp xs :: as, ρ2) := ev_bnd h1 (ev_bnd h2 rfl)
theorem ev_lendS {i : Nat} {g : Dn (List Ar)} {as : List Ar} {ns : List Int} (h : ρ[i]? = some (.sc ns)) (h1 : g ρ = .ok (as, ρ1)) : aLend i g ρ = .ok (.sc ns :: as, ρ1) := by
  unfold aLend
  rw [h]
  exact ev_bnd h1 rfl
theorem ev_cnil {h : PyData → Ev → Option Ev} {ft : Dn Bool} {fe : Dn PyData} {vs : List Nat} {acc : List PyData} : compL h ft fe vs [] acc ρ = .ok (acc, ρ) := rfl
theorem ev_ccons {h : PyData → Ev → Option Ev} {ft : Dn Bool} {fe : Dn PyData} {vs : List Nat} {acc ds : List PyData} {d y : PyData} {r : Rs (List PyData × Ev)} (h1 : h d ρ = some ρ1) (h2 : ft ρ1 = .ok (true, ρ2)) (h3 : fe ρ2 = .ok (y, ρ3)) (h4 : okLen (acc.length + 1) = true) (h5 : compL h ft fe vs ds (acc ++ [y]) (wipeE ρ3 vs) = r) : compL h ft fe vs (d :: ds) acc ρ = r := by
  unfold compL
  simp only [h1, h2, h3, h4, if_true]
  exact h5
theorem ev_cskip {h : PyData → Ev → Option Ev} {ft : Dn Bool} {fe : Dn PyData} {vs : List Nat} {acc ds : List PyData} {d : PyData} {r : Rs (List PyData × Ev)} (h1 : h d ρ = some ρ1) (h2 : ft ρ1 = .ok (false, ρ2)) (h5 : compL h ft fe vs ds acc (wipeE ρ2 vs) = r) : compL h ft fe vs (d :: ds) acc ρ = r := by
  unfold compL
  simp only [h1, h2]
  exact h5
theorem ev_comp {fi : Dn (List PyData)} {h : PyData → Ev → Option Ev} {ft : Dn Bool} {fe : Dn PyData} {vs : List Nat} {ds ys : List PyData} (h1 : fi ρ = .ok (ds, ρ1)) (h2 : (vs.all fun v => !isBl ρ1[v]?) = true) (h3 : compL h ft fe vs ds [] (wipeE ρ1 vs) = .ok (ys, ρ2)) : dComp fi h ft fe vs ρ = .ok (.ol ys, restE ρ1 ρ2 vs) := by
  refine ev_bnd h1 ?_
  rw [if_pos h2, h3]
end
end Gx

/-! E4: a thing is the same as itself, at every depth (the laws' own comparison). -/
namespace Gx
open PySem PySem.Spec L2
open PyProof.Rows hiding St

def bSame (self : Den) : Dn Fl := (sSeq (sIf (dTru (dUn (isi2D .lst .tup) (dName 1))) (sSeq (sIf (dOrT (dCmpT neD (dUn (isiD .lst) (dName 0)) (dUn (isiD .lst) (dName 1))) (dCmpT neD (dUn (isiD .tup) (dName 0)) (dUn (isiD .tup) (dName 1)))) (sRet (ofD (dC (.bool false)))) sNx)
  (sRet (ofD (dAnd (frz (dBin eqD (dLenP 0) (dLenP 1))) (frz (dCall allD (dCons (frz (dComp (iZp (dCons (dName 0) (dCons (dName 1) dNil))) (hTup 2 (hCons (hName 2) (hCons (hName 3) hNil))) yesT (frz (dFn self (aCons (ofD (dName 2)) (aCons (ofD (dName 3)) aNil)))) [2, 3])) dNil))))))) sNx)
  (sSeq (sIf (dOrT (dCmpT isND (dName 1) (dC .none)) (dTru (dUn (isi2D .bl .str) (dName 1)))) (sRet (ofD (dAnd (frz (dBin eqD (dName 0) (dName 1))) (dAnd (frz (dBin eqD (dUn (isiD .bl) (dName 0)) (dUn (isiD .bl) (dName 1)))) (frz (dBin eqD (frz (dBin isND (dName 0) (dC .none))) (frz (dBin isND (dName 1) (dC .none))))))))) sNx)
  (sRet (ofD (dAnd (dUn (isiD .int) (dName 0)) (dAnd (dNot (dUn (isiD .bl) (dName 0))) (frz (dBin eqD (dName 0) (dName 1)))))))))
def denSame : Nat → Den
  | 0 => fun _ => .st
  | n + 1 => runF 2 4 (bSame (denSame n))
/-- plain things of no great depth: numbers, truths, None in lists and tuples -/
def pln : Nat → PyData → Bool
  | _, .none => true
  | _, .bool _ => true
  | _, .int _ => true
  | k + 1, .list xs => okLen xs.length && xs.all (pln k)
  | k + 1, .tuple xs => okLen xs.length && xs.all (pln k)
  | _, _ => false
theorem eqv_int (a : Int) : PyData.eqv (.int a) (.int a) = true := by
  show (a == a) = true
  exact beq_self_eq_true a
theorem eqD_int (a : Int) : eqD (.int a) (.int a) = some (.fz (.bool true)) := by
  show (if true then some (Rv.fz (.bool (PyData.eqv (.int a) (.int a)))) else none) = _
  rw [eqv_int]
  rfl
section
variable {ρ ρ1 ρ2 : Ev}
theorem ev_and {f g : Dn PyData} {x : PyData} {r : Rs (PyData × Ev)} (h1 : f ρ = .ok (x, ρ1)) (h2 : truth x = some true) (h3 : g ρ1 = r) : dAnd f g ρ = r := ev_bnd h1 (ev_bnd (ev_lft h2) h3)
end
theorem zip_self : ∀ xs : List PyData, zipD xs xs = xs.map fun x => .tuple [x, x]
  | [] => rfl
  | x :: xs => by
    show PyData.tuple [x, x] :: zipD xs xs = _
    rw [zip_self xs]
    rfl
theorem comp_same {self : Den} {d : PyData} : ∀ (xs acc : List PyData), (∀ x ∈ xs, self [.fz x, .fz x] = .ok (.fz (.bool true), [.fz x, .fz x])) → okLen (acc.length + xs.length) = true →
    compL (hTup 2 (hCons (hName 2) (hCons (hName 3) hNil))) yesT (frz (dFn self (aCons (ofD (dName 2)) (aCons (ofD (dName 3)) aNil)))) [2, 3] (xs.map fun x => .tuple [x, x]) acc [.fz d, .fz d, .no, .no] = .ok (acc ++ List.replicate xs.length (.bool true), [.fz d, .fz d, .no, .no])
  | [], acc, _, _ => by
    simp [compL]
  | x :: xs, acc, h, hl => by
    have hx := h x (by simp)
    have e : (frz (dFn self (aCons (ofD (dName 2)) (aCons (ofD (dName 3)) aNil)))) [.fz d, .fz d, .fz x, .fz x] = .ok (.bool true, [.fz d, .fz d, .fz x, .fz x]) := by
      refine ev_frz (r := .fz (.bool true)) (ev_bnd (a := [.fz x, .fz x]) (ρ1 := [.fz d, .fz d, .fz x, .fz x]) rfl ?_)
      show (match self [.fz x, .fz x] with
        | .st => .st
        | .ex e => if [Ar.fz x, Ar.fz x].any Ar.isTp then .st else .ex e
        | .ok (r, es) => .ok (r, putBack [.fz d, .fz d, .fz x, .fz x] es none) : Rs (Rv × Ev)) = _
      rw [hx]
      rfl
    have hl2 : okLen (acc.length + 1) = true := by
      unfold okLen at hl ⊢
      simp only [List.length_cons] at hl
      have := of_decide_eq_true hl
      exact decide_eq_true (by omega)
    show (match (frz (dFn self (aCons (ofD (dName 2)) (aCons (ofD (dName 3)) aNil)))) [.fz d, .fz d, .fz x, .fz x] with
        | .ok (y, ρ3) => if okLen (acc.length + 1) then compL (hTup 2 (hCons (hName 2) (hCons (hName 3) hNil))) yesT (frz (dFn self (aCons (ofD (dName 2)) (aCons (ofD (dName 3)) aNil)))) [2, 3] (xs.map fun x => .tuple [x, x]) (acc ++ [y]) (wipeE ρ3 [2, 3]) else .st
        | _ => .st) = _
    rw [e]
    simp only [hl2, if_true]
    have ih := comp_same (self := self) (d := d) xs (acc ++ [.bool true]) (fun y hy => h y (by simp [hy])) (by
      have : (acc ++ [PyData.bool true]).length + xs.length = acc.length + (x :: xs).length := by simp; omega
      rw [this]; exact hl)
    refine Eq.trans ih ?_
    simp [List.replicate_succ]
theorem bools_rep : ∀ n : Nat, bools (List.replicate n (.bool true)) = some (List.replicate n true)
  | 0 => rfl
  | n + 1 => by
    show (bools (List.replicate n (.bool true))).map (true :: ·) = _
    rw [bools_rep n]
    rfl
theorem all_rep (n : Nat) : allD [.list (List.replicate n (.bool true))] = some (.fz (.bool true)) := by
  show (bools (List.replicate n (.bool true))).bind (fun bs => fB (bs.all id)) = _
  rw [bools_rep]
  show fB ((List.replicate n true).all id) = _
  have : (List.replicate n true).all id = true := by simp
  rw [this]
  rfl
theorem same_seq {self : Den} {d : PyData} {xs : List PyData} (hd : d = .list xs ∨ d = .tuple xs) (hl : okLen xs.length = true) (h : ∀ x ∈ xs, self [.fz x, .fz x] = .ok (.fz (.bool true), [.fz x, .fz x])) : runF 2 4 (bSame self) [.fz d, .fz d] = .ok (.fz (.bool true), [.fz d, .fz d]) := by
  have key : bSame self [.fz d, .fz d, .no, .no] = .ok (.rt (.fz (.bool true)), [.fz d, .fz d, .no, .no]) := by
    unfold bSame
    have cm : dComp (iZp (dCons (dName 0) (dCons (dName 1) dNil))) (hTup 2 (hCons (hName 2) (hCons (hName 3) hNil))) yesT (frz (dFn self (aCons (ofD (dName 2)) (aCons (ofD (dName 3)) aNil)))) [2, 3] [.fz d, .fz d, .no, .no] = .ok (.ol (List.replicate xs.length (.bool true)), [.fz d, .fz d, .no, .no]) := by
      refine ev_bnd (a := xs.map fun x => .tuple [x, x]) (ρ1 := [.fz d, .fz d, .no, .no]) ?_ ?_
      · refine ev_bnd (a := [d, d]) (ρ1 := [.fz d, .fz d, .no, .no]) rfl (ev_lft ?_)
        rcases hd with rfl | rfl
        · show some (zipD xs xs) = _
          rw [zip_self]
        · show some (zipD xs xs) = _
          rw [zip_self]
      · have c := comp_same (self := self) (d := d) xs [] h (by simpa using hl)
        show (match compL _ _ _ _ _ [] [.fz d, .fz d, .no, .no] with
          | .ok (ys, ρ2) => Rs.ok (Rv.ol ys, restE [.fz d, .fz d, .no, .no] ρ2 [2, 3])
          | _ => Rs.st) = _
        rw [c]
        rfl
    have body : sRet (ofD (dAnd (frz (dBin eqD (dLenP 0) (dLenP 1))) (frz (dCall allD (dCons (frz (dComp (iZp (dCons (dName 0) (dCons (dName 1) dNil))) (hTup 2 (hCons (hName 2) (hCons (hName 3) hNil))) yesT (frz (dFn self (aCons (ofD (dName 2)) (aCons (ofD (dName 3)) aNil)))) [2, 3])) dNil))))) [.fz d, .fz d, .no, .no] = .ok (.rt (.fz (.bool true)), [.fz d, .fz d, .no, .no]) := by
      refine ev_ret (ev_ofD (ev_and (x := .bool true) (ρ1 := [.fz d, .fz d, .no, .no]) (ev_frz (r := .fz (.bool true)) (ev_bin (x := .int xs.length) (y := .int xs.length) (ρ1 := [.fz d, .fz d, .no, .no]) ?_ ?_ (eqD_int _))) rfl (ev_frz (r := .fz (.bool true)) (ev_call (ev_cons (ev_frz cm) ev_nil) (all_rep _)))))
      · rcases hd with rfl | rfl <;> rfl
      · rcases hd with rfl | rfl <;> rfl
    refine ev_seqR (ev_if (b := true) (ρ1 := [.fz d, .fz d, .no, .no]) ?_ ?_)
    · rcases hd with rfl | rfl <;> rfl
    · refine ev_seq (ρ1 := [.fz d, .fz d, .no, .no]) ?_ body
      rcases hd with rfl | rfl <;> rfl
  unfold runF
  show (match bSame self [.fz d, .fz d, .no, .no] with
    | .st => .st
    | .ex e => .ex e
    | .ok (.nx, ρ') => .ok (.fz .none, back [.fz d, .fz d] ρ')
    | .ok (.rt r, ρ') => .ok (r, back [.fz d, .fz d] ρ')
    | .ok (_, _) => .st : Rs (Rv × List En)) = _
  rw [key]
  rfl
theorem same_refl : ∀ (k : Nat) (d : PyData), pln k d = true → denSame (k + 1) [.fz d, .fz d] = .ok (.fz (.bool true), [.fz d, .fz d])
  | k, .none, _ => by
    show runF 2 4 (bSame (denSame k)) _ = _
    rfl
  | k, .bool b, _ => by
    show runF 2 4 (bSame (denSame k)) _ = _
    cases b <;> rfl
  | k, .int n, _ => by
    have key : bSame (denSame k) [.fz (.int n), .fz (.int n), .no, .no] = .ok (.rt (.fz (.bool true)), [.fz (.int n), .fz (.int n), .no, .no]) := by
      unfold bSame
      refine ev_seq (ρ1 := [.fz (.int n), .fz (.int n), .no, .no]) rfl ?_
      refine ev_seq (ρ1 := [.fz (.int n), .fz (.int n), .no, .no]) rfl ?_
      refine ev_ret (ev_ofD (ev_and (x := .bool true) (ρ1 := [.fz (.int n), .fz (.int n), .no, .no]) rfl rfl (ev_and (x := .bool true) (ρ1 := [.fz (.int n), .fz (.int n), .no, .no]) rfl rfl (ev_frz (r := .fz (.bool true)) (ev_bin rfl rfl (eqD_int n))))))
    show (match bSame (denSame k) [.fz (.int n), .fz (.int n), .no, .no] with
      | .st => .st
      | .ex e => .ex e
      | .ok (.nx, ρ') => .ok (.fz .none, back [.fz (.int n), .fz (.int n)] ρ')
      | .ok (.rt r, ρ') => .ok (r, back [.fz (.int n), .fz (.int n)] ρ')
      | .ok (_, _) => .st : Rs (Rv × List En)) = _
    rw [key]
    rfl
  | k + 1, .list xs, h => by
    unfold pln at h
    rw [Bool.and_eq_true, List.all_eq_true] at h
    exact same_seq (.inl rfl) h.1 fun x hx => same_refl k x (h.2 x hx)
  | k + 1, .tuple xs, h => by
    unfold pln at h
    rw [Bool.and_eq_true, List.all_eq_true] at h
    exact same_seq (.inr rfl) h.1 fun x hx => same_refl k x (h.2 x hx)
  | 0, .list xs, h => by cases h
  | 0, .tuple xs, h => by cases h
  | 0, .str _, h => by cases h
  | k + 1, .str _, h => by cases h
  | 0, .dict _, h => by cases h
  | k + 1, .dict _, h => by cases h
end Gx

namespace K00
open PySem PySem.Spec L2 Gx
open PyProof.Rows hiding St
def top (i : Nat) : Stmt := PySem.Challenge.pw_hintring_k00_errors_made_by_hand.main.body.getD i (.Pass ⟨0, 0, 0, 0⟩)
abbrev a_NoPlace : Addr := 31
abbrev a_NoMoment : Addr := 51
abbrev a_NoDeed : Addr := 71
abbrev a_NoVersion : Addr := 91
abbrev a_NoPoint : Addr := 111
abbrev a_NoEpoch : Addr := 131
abbrev a_NothingDone : Addr := 144
abbrev a_BadLine : Addr := 164
abbrev a_CanNot : Addr := 177
abbrev a_TooMany : Addr := 190
abbrev a_Unfit : Addr := 203
abbrev nums : List Addr := [a_NoPlace, a_NoMoment, a_NoDeed, a_NoVersion, a_NoPoint, a_NoEpoch, a_BadLine]
abbrev is_LookupError : List (Addr × Bool) := [(a_NoPlace, true), (a_NoMoment, true), (a_NoDeed, true), (a_NoVersion, true), (a_NoPoint, true), (a_NoEpoch, true), (a_NothingDone, true), (a_BadLine, false), (a_CanNot, false), (a_TooMany, false), (a_Unfit, false)]
abbrev is_ValueError : List (Addr × Bool) := [(a_NoPlace, false), (a_NoMoment, false), (a_NoDeed, false), (a_NoVersion, false), (a_NoPoint, false), (a_NoEpoch, false), (a_NothingDone, false), (a_BadLine, true), (a_CanNot, true), (a_TooMany, true), (a_Unfit, true)]
abbrev is_TypeError : List (Addr × Bool) := [(a_NoPlace, false), (a_NoMoment, false), (a_NoDeed, false), (a_NoVersion, false), (a_NoPoint, false), (a_NoEpoch, false), (a_NothingDone, false), (a_BadLine, false), (a_CanNot, false), (a_TooMany, false), (a_Unfit, false)]
abbrev is_KeyError : List (Addr × Bool) := [(a_NoPlace, false), (a_NoMoment, false), (a_NoDeed, false), (a_NoVersion, false), (a_NoPoint, false), (a_NoEpoch, false), (a_NothingDone, false), (a_BadLine, false), (a_CanNot, false), (a_TooMany, false), (a_Unfit, false)]
abbrev is_IndexError : List (Addr × Bool) := [(a_NoPlace, false), (a_NoMoment, false), (a_NoDeed, false), (a_NoVersion, false), (a_NoPoint, false), (a_NoEpoch, false), (a_NothingDone, false), (a_BadLine, false), (a_CanNot, false), (a_TooMany, false), (a_Unfit, false)]
abbrev is_RuntimeError : List (Addr × Bool) := [(a_NoPlace, false), (a_NoMoment, false), (a_NoDeed, false), (a_NoVersion, false), (a_NoPoint, false), (a_NoEpoch, false), (a_NothingDone, false), (a_BadLine, false), (a_CanNot, false), (a_TooMany, false), (a_Unfit, false)]
abbrev is_AttributeError : List (Addr × Bool) := [(a_NoPlace, false), (a_NoMoment, false), (a_NoDeed, false), (a_NoVersion, false), (a_NoPoint, false), (a_NoEpoch, false), (a_NothingDone, false), (a_BadLine, false), (a_CanNot, false), (a_TooMany, false), (a_Unfit, false)]
abbrev is_Exception : List (Addr × Bool) := [(a_NoPlace, true), (a_NoMoment, true), (a_NoDeed, true), (a_NoVersion, true), (a_NoPoint, true), (a_NoEpoch, true), (a_NothingDone, true), (a_BadLine, true), (a_CanNot, true), (a_TooMany, true), (a_Unfit, true)]
abbrev is_NoPlace : List (Addr × Bool) := [(a_NoPlace, true), (a_NoMoment, false), (a_NoDeed, false), (a_NoVersion, false), (a_NoPoint, false), (a_NoEpoch, false), (a_NothingDone, false), (a_BadLine, false), (a_CanNot, false), (a_TooMany, false), (a_Unfit, false)]
abbrev is_NoMoment : List (Addr × Bool) := [(a_NoPlace, false), (a_NoMoment, true), (a_NoDeed, false), (a_NoVersion, false), (a_NoPoint, false), (a_NoEpoch, false), (a_NothingDone, false), (a_BadLine, false), (a_CanNot, false), (a_TooMany, false), (a_Unfit, false)]
abbrev is_NoDeed : List (Addr × Bool) := [(a_NoPlace, false), (a_NoMoment, false), (a_NoDeed, true), (a_NoVersion, false), (a_NoPoint, false), (a_NoEpoch, false), (a_NothingDone, false), (a_BadLine, false), (a_CanNot, false), (a_TooMany, false), (a_Unfit, false)]
abbrev is_NoVersion : List (Addr × Bool) := [(a_NoPlace, false), (a_NoMoment, false), (a_NoDeed, false), (a_NoVersion, true), (a_NoPoint, false), (a_NoEpoch, false), (a_NothingDone, false), (a_BadLine, false), (a_CanNot, false), (a_TooMany, false), (a_Unfit, false)]
abbrev is_NoPoint : List (Addr × Bool) := [(a_NoPlace, false), (a_NoMoment, false), (a_NoDeed, false), (a_NoVersion, false), (a_NoPoint, true), (a_NoEpoch, false), (a_NothingDone, false), (a_BadLine, false), (a_CanNot, false), (a_TooMany, false), (a_Unfit, false)]
abbrev is_NoEpoch : List (Addr × Bool) := [(a_NoPlace, false), (a_NoMoment, false), (a_NoDeed, false), (a_NoVersion, false), (a_NoPoint, false), (a_NoEpoch, true), (a_NothingDone, false), (a_BadLine, false), (a_CanNot, false), (a_TooMany, false), (a_Unfit, false)]
abbrev is_NothingDone : List (Addr × Bool) := [(a_NoPlace, false), (a_NoMoment, false), (a_NoDeed, false), (a_NoVersion, false), (a_NoPoint, false), (a_NoEpoch, false), (a_NothingDone, true), (a_BadLine, false), (a_CanNot, false), (a_TooMany, false), (a_Unfit, false)]
abbrev is_BadLine : List (Addr × Bool) := [(a_NoPlace, false), (a_NoMoment, false), (a_NoDeed, false), (a_NoVersion, false), (a_NoPoint, false), (a_NoEpoch, false), (a_NothingDone, false), (a_BadLine, true), (a_CanNot, false), (a_TooMany, false), (a_Unfit, false)]
abbrev is_CanNot : List (Addr × Bool) := [(a_NoPlace, false), (a_NoMoment, false), (a_NoDeed, false), (a_NoVersion, false), (a_NoPoint, false), (a_NoEpoch, false), (a_NothingDone, false), (a_BadLine, false), (a_CanNot, true), (a_TooMany, false), (a_Unfit, false)]
abbrev is_TooMany : List (Addr × Bool) := [(a_NoPlace, false), (a_NoMoment, false), (a_NoDeed, false), (a_NoVersion, false), (a_NoPoint, false), (a_NoEpoch, false), (a_NothingDone, false), (a_BadLine, false), (a_CanNot, false), (a_TooMany, true), (a_Unfit, false)]
abbrev is_Unfit : List (Addr × Bool) := [(a_NoPlace, false), (a_NoMoment, false), (a_NoDeed, false), (a_NoVersion, false), (a_NoPoint, false), (a_NoEpoch, false), (a_NothingDone, false), (a_BadLine, false), (a_CanNot, false), (a_TooMany, false), (a_Unfit, true)]
structure Bt (mg : Str → Option Value) : Prop where
  AttributeError : mg "AttributeError" = none
  Exception : mg "Exception" = none
  IndexError : mg "IndexError" = none
  KeyError : mg "KeyError" = none
  LookupError : mg "LookupError" = none
  RuntimeError : mg "RuntimeError" = none
  TypeError : mg "TypeError" = none
  ValueError : mg "ValueError" = none
  abs : mg "abs" = none
  all : mg "all" = none
  bool : mg "bool" = none
  enumerate : mg "enumerate" = none
  int : mg "int" = none
  isinstance : mg "isinstance" = none
  len : mg "len" = none
  list : mg "list" = none
  range : mg "range" = none
  str : mg "str" = none
  tuple : mg "tuple" = none
  zip : mg "zip" = none
abbrev s_box : Stmt := top 13
theorem sc_box : FnScope ["script", "k", "cell"] ["script", "k"] (defScope s_box) := ⟨rfl, rfl, rfl, by decide +kernel, rfl, by decide +kernel, by decide +kernel⟩
def b_box : Dn Fl := (sSeq (sSet 2 (ofD (dIf (dCmpT ltD (dName 1) (dLenP 0)) (dPeek 0 (dName 1)) (dC (.int 0)))))
  (sRet (dLst (dCons (frz (dBin mulD (frz (dCall absD (dCons (dName 2) dNil))) (frz (dCall intD (dCons (frz (dBin geD (frz (dCall absD (dCons (dName 2) dNil))) (frz (dBin powD (dC (.int 10)) (dC (.int 18)))))) dNil))))) (dCons (frz (dBin addD (frz (dBin addD (frz (dBin modD (frz (dCall intD (dCons (dName 2) dNil))) (dC (.int 2305843009213693951)))) (frz (dBin mulD (dC (.int 39373)) (dName 1))))) (dC (.int 1940000)))) (dCons (dC (.int 0)) dNil))))))
def den_box : Den := runF 2 3 b_box
abbrev s_take : Stmt := top 14
theorem sc_take : FnScope ["tin", "below_so", "once_so", "wide_so", "twice_so", "drawn"] ["tin", "below_so"] (defScope s_take) := ⟨rfl, rfl, rfl, by decide +kernel, rfl, by decide +kernel, by decide +kernel⟩
def b_take : Dn Fl := (sSeq (sIf (dCmpT gtD (dPeek 0 (dC (.int 0))) (dC (.int 0))) (sSeq (sSet 5 (dBin modD (frz (dCall intD (dCons (dPeek 0 (dC (.int 0))) dNil))) (dName 1)))
  (sSeq (sSetIx 0 (dC (.int 0)) (frz (dBin fdivD (dPeek 0 (dC (.int 0))) (dName 1))))
  (sRet (dMove 5)))) sNx)
  (sSeq (sSetIx 0 (dC (.int 2)) (frz (dBin addD (dPeek 0 (dC (.int 2))) (dC (.int 1)))))
  (sSeq (sSet 2 (dBin modD (frz (dCall intD (dCons (frz (dBin mulD (frz (dBin addD (dPeek 0 (dC (.int 1))) (frz (dBin mulD (dC (.int 48271)) (dPeek 0 (dC (.int 2))))))) (frz (dBin addD (dC (.int 39373)) (dPeek 0 (dC (.int 2))))))) dNil))) (dC (.int 2147483647))))
  (sSeq (sSet 3 (dBin addD (frz (dBin modD (frz (dCall intD (dCons (dName 2) dNil))) (dC (.int 40009)))) (dC (.int 7))))
  (sSeq (sSet 4 (dBin modD (frz (dCall intD (dCons (frz (dBin mulD (frz (dBin addD (frz (dBin addD (dName 2) (dPeek 0 (dC (.int 2))))) (frz (dBin fdivD (dPeek 0 (dC (.int 1))) (dC (.int 1000003)))))) (dName 3))) dNil))) (dC (.int 2147483629))))
  (sRet (dBin modD (frz (dCall intD (dCons (frz (dBin fdivD (frz (dBin modD (frz (dCall intD (dCons (frz (dBin addD (frz (dBin mulD (dName 4) (dC (.int 48271)))) (dName 2))) dNil))) (dC (.int 2147483587)))) (dC (.int 64)))) dNil))) (dName 1))))))))
def den_take : Den := runF 2 6 b_take
abbrev s_cells : Stmt := top 15
theorem sc_cells : FnScope ["script", "most_so", "cells_so", "k", "cell", "at_so"] ["script", "most_so"] (defScope s_cells) := ⟨rfl, rfl, rfl, by decide +kernel, rfl, by decide +kernel, by decide +kernel⟩
def b_cells : Dn Fl := (sSeq (sSet 2 (dOr (dCall listD (dCons (frz (dSlP 0 dOff (dOn (dName 1)))) dNil)) (dLst (dCons (dC (.int 0)) dNil))))
  (sSeq (sFor (iEn (dCons (frz (dSlP 0 (dOn (dName 1)) (dOn (dC (.int 63))))) dNil)) (hTup 2 (hCons (hName 3) (hCons (hName 4) hNil))) (sSeq (sSet 5 (dBin modD (frz (dCall intD (dCons (dName 3) dNil))) (dName 1)))
  (sSetIx 2 (dName 5) (frz (dBin addD (dPeek 2 (dName 5)) (frz (dBin mulD (dName 4) (frz (dBin addD (dName 3) (dC (.int 2)))))))))))
  (sRet (dMove 2))))
def den_cells : Den := runF 2 6 b_cells
abbrev s_of : Stmt := top 16
theorem sc_of : FnScope ["tin", "goods_so"] ["tin", "goods_so"] (defScope s_of) := ⟨rfl, rfl, rfl, by decide +kernel, rfl, by decide +kernel, by decide +kernel⟩
def b_of : Dn Fl := (sRet (ofD (dPeek 1 (frz (dFn (den_take) (aLend 0 (aCons (ofD (dLenP 1)) aNil)))))))
def den_of : Den := runF 2 2 b_of
abbrev s_same : Stmt := top 17
theorem sc_same : FnScope ["got", "due", "mine", "its"] ["got", "due"] (defScope s_same) := ⟨rfl, rfl, rfl, by decide +kernel, rfl, by decide +kernel, by decide +kernel⟩
def b_same (self : Den) : Dn Fl := (sSeq (sIf (dTru (dUn (isi2D .lst .tup) (dName 1))) (sSeq (sIf (dOrT (dCmpT neD (dUn (isiD .lst) (dName 0)) (dUn (isiD .lst) (dName 1))) (dCmpT neD (dUn (isiD .tup) (dName 0)) (dUn (isiD .tup) (dName 1)))) (sRet (ofD (dC (.bool false)))) sNx)
  (sRet (ofD (dAnd (frz (dBin eqD (dLenP 0) (dLenP 1))) (frz (dCall allD (dCons (frz (dComp (iZp (dCons (dName 0) (dCons (dName 1) dNil))) (hTup 2 (hCons (hName 2) (hCons (hName 3) hNil))) yesT (frz (dFn self (aCons (ofD (dName 2)) (aCons (ofD (dName 3)) aNil)))) [2, 3])) dNil))))))) sNx)
  (sSeq (sIf (dOrT (dCmpT isND (dName 1) (dC .none)) (dTru (dUn (isi2D .bl .str) (dName 1)))) (sRet (ofD (dAnd (frz (dBin eqD (dName 0) (dName 1))) (dAnd (frz (dBin eqD (dUn (isiD .bl) (dName 0)) (dUn (isiD .bl) (dName 1)))) (frz (dBin eqD (frz (dBin isND (dName 0) (dC .none))) (frz (dBin isND (dName 1) (dC .none))))))))) sNx)
  (sRet (ofD (dAnd (dUn (isiD .int) (dName 0)) (dAnd (dNot (dUn (isiD .bl) (dName 0))) (frz (dBin eqD (dName 0) (dName 1)))))))))
def den_same : Nat → Den
  | 0 => fun _ => .st
  | n + 1 => runF 2 4 (b_same (den_same n))
abbrev s_under : Stmt := top 18
theorem sc_under : FnScope ["error_so", "near", "far"] ["error_so"] (defScope s_under) := ⟨rfl, rfl, rfl, by decide +kernel, rfl, by decide +kernel, by decide +kernel⟩
def b_under : Dn Fl := (sSeq (sSet 1 (dLst (dCons (dUn (isXD is_LookupError) (dName 0)) (dCons (dUn (isXD is_ValueError) (dName 0)) (dCons (dUn (isXD is_TypeError) (dName 0)) dNil)))))
  (sSeq (sSet 2 (dLst (dCons (dUn (isXD is_KeyError) (dName 0)) (dCons (dUn (isXD is_IndexError) (dName 0)) dNil))))
  (sRet (dBin addD (frz (dBin addD (dName 1) (dName 2))) (frz (dLst (dCons (dUn (isXD is_RuntimeError) (dName 0)) (dCons (dUn (isXD is_AttributeError) (dName 0)) (dCons (dUn (isXD is_Exception) (dName 0)) dNil)))))))))
def den_under : Den := runF 1 3 b_under
abbrev s_which : Stmt := top 19
theorem sc_which : FnScope ["error_so", "found"] ["error_so"] (defScope s_which) := ⟨rfl, rfl, rfl, by decide +kernel, rfl, by decide +kernel, by decide +kernel⟩
def b_which : Dn Fl := (sSeq (sSet 1 (dLst (dCons (dUn (isXD is_BadLine) (dName 0)) (dCons (dUn (isXD is_CanNot) (dName 0)) (dCons (dUn (isXD is_NoDeed) (dName 0)) (dCons (dUn (isXD is_NoEpoch) (dName 0)) dNil))))))
  (sSeq (sSet 1 (dBin addD (dName 1) (frz (dLst (dCons (dUn (isXD is_NoMoment) (dName 0)) (dCons (dUn (isXD is_NoPlace) (dName 0)) (dCons (dUn (isXD is_NoPoint) (dName 0)) (dCons (dUn (isXD is_NoVersion) (dName 0)) dNil))))))))
  (sRet (dBin addD (dName 1) (frz (dLst (dCons (dUn (isXD is_NothingDone) (dName 0)) (dCons (dUn (isXD is_TooMany) (dName 0)) (dCons (dUn (isXD is_Unfit) (dName 0)) dNil)))))))))
def den_which : Den := runF 1 2 b_which
abbrev s_made_right : Stmt := top 20
theorem sc_made_right : FnScope ["number_so", "made_so", "kept", "got", "due_so", "value_so", "look_so", "at_so", "own", "k"] ["number_so"] (defScope s_made_right) := ⟨rfl, rfl, rfl, by decide +kernel, rfl, by decide +kernel, by decide +kernel⟩
def b_made_right : Dn Fl := (sSeq (sPar [5, 6] (dCons (frz (dBin addD (frz (dBin addD (frz (dLst (dCons (dC (.bool false)) (dCons (dC (.bool true)) dNil)))) (frz (dBin mulD (frz (dLst (dCons (dC (.bool false)) dNil))) (dC (.int 5)))))) (frz (dLst (dCons (dC (.bool true)) dNil))))) (dCons (frz (dBin addD (frz (dBin addD (frz (dLst (dCons (dC (.bool true)) dNil))) (frz (dBin mulD (frz (dLst (dCons (dC (.bool false)) dNil))) (dC (.int 6)))))) (frz (dLst (dCons (dC (.bool true)) dNil))))) dNil)))
  (sSeq (sSet 1 (dLst (dCons (dMk a_BadLine (dName 0)) (dCons (ret (exD0 a_CanNot)) (dCons (dMk a_NoDeed (dName 0)) (dCons (dMk a_NoEpoch (dName 0)) (dCons (dMk a_NoMoment (dName 0)) (dCons (dMk a_NoPlace (dName 0)) (dCons (dMk a_NoPoint (dName 0)) (dCons (dMk a_NoVersion (dName 0)) (dCons (ret (exD0 a_NothingDone)) (dCons (ret (exD0 a_TooMany)) (dCons (ret (exD0 a_Unfit)) dNil)))))))))))))
  (sSeq (sSet 2 (dLst (dCons (dUn (numD nums) (dPeek 1 (dC (.int 0)))) (dCons (dUn (numD nums) (dPeek 1 (dC (.int 2)))) (dCons (dUn (numD nums) (dPeek 1 (dC (.int 3)))) (dCons (dUn (numD nums) (dPeek 1 (dC (.int 4)))) (dCons (dUn (numD nums) (dPeek 1 (dC (.int 5)))) (dCons (dUn (numD nums) (dPeek 1 (dC (.int 6)))) (dCons (dUn (numD nums) (dPeek 1 (dC (.int 7)))) dNil)))))))))
  (sSeq (sSet 2 (dBin addD (dName 2) (frz (dLst (dCons (dUn (numD nums) (dMk a_BadLine (dName 0))) (dCons (dUn (numD nums) (dMk a_NoDeed (dName 0))) (dCons (dUn (numD nums) (dMk a_NoEpoch (dName 0))) (dCons (dUn (numD nums) (dMk a_NoMoment (dName 0))) dNil))))))))
  (sSeq (sSet 3 (dLst (dCons (frz (dBin addD (dName 2) (frz (dLst (dCons (dUn (numD nums) (dMk a_NoPlace (dName 0))) (dCons (dUn (numD nums) (dMk a_NoPoint (dName 0))) (dCons (dUn (numD nums) (dMk a_NoVersion (dName 0))) dNil))))))) dNil)))
  (sSeq (sSet 4 (dLst (dCons (frz (dBin mulD (frz (dLst (dCons (dName 0) dNil))) (dC (.int 14)))) dNil)))
  (sSeq (sFor (iEn (dCons (dName 1) dNil)) (hTup 2 (hCons (hName 7) (hCons (hName 8) hNil))) (sSeq (sSet 3 (dBin addD (dName 3) (frz (dLst (dCons (frz (dFn (den_under) (aCons (ofD (dName 8)) aNil))) (dCons (frz (dFn (den_which) (aCons (ofD (dName 8)) aNil))) dNil))))))
  (sSet 4 (dBin addD (dName 4) (frz (dLst (dCons (dIf (dChT leD leD (dC (.int 2)) (dName 7) (dC (.int 8))) (dName 6) (dName 5)) (dCons (frz (dComp (iRg1 (dCons (dC (.int 11)) dNil)) (hName 9) yesT (frz (dBin eqD (dName 9) (dName 7))) [9])) dNil))))))))
  (sRet (dFn (den_same 6) (aCons (ofD (dName 3)) (aCons (ofD (dName 4)) aNil)))))))))))
def den_made_right : Den := runF 1 10 b_made_right
abbrev s_right : Stmt := top 21
theorem sc_right : FnScope ["tin"] ["tin"] (defScope s_right) := ⟨rfl, rfl, rfl, by decide +kernel, rfl, by decide +kernel, by decide +kernel⟩
def b_right : Dn Fl := (sRet (dFn (den_made_right) (aCons (dBin mulD (frz (dBin subD (frz (dFn (den_take) (aLend 0 (aCons (ofD (dC (.int 3))) aNil)))) (dC (.int 1)))) (frz (dFn (den_of) (aLend 0 (aCons (dLst (dCons (dC (.int 0)) (dCons (dC (.int 1)) (dCons (dC (.int 7)) (dCons (frz (dBin powD (dC (.int 10)) (dC (.int 9)))) (dCons (frz (dFn (den_take) (aLend 0 (aCons (dBin powD (dC (.int 10)) (dC (.int 6))) aNil)))) dNil)))))) aNil))))) aNil)))
def den_right : Den := runF 1 1 b_right
abbrev s_law : Stmt := top 22
theorem sc_law : FnScope ["script", "cells", "nth_so", "own"] ["script"] (defScope s_law) := ⟨rfl, rfl, rfl, by decide +kernel, rfl, by decide +kernel, by decide +kernel⟩
def b_law : Dn Fl := (sSeq (sIf (dNotT (dTru (frz (dCall allD (dCons (frz (dComp (iSeq (dTup (dCons (dC (.int 0)) (dCons (dUn negD (dC (.int 1))) (dCons (frz (dBin powD (dC (.int 10)) (dC (.int 9)))) dNil))))) (hName 3) yesT (frz (dFn (den_made_right) (aCons (ofD (dName 3)) aNil))) [3])) dNil))))) (sRet (ofD (dC (.bool false)))) sNx)
  (sSeq (sSet 1 (dFn (den_cells) (aLend 0 (aCons (ofD (dC (.int 2))) aNil))))
  (sRet (dCall allD (dCons (frz (dComp (iRg1 (dCons (dLenP 1) dNil)) (hName 2) yesT (frz (dFn (den_right) (aCons (dFn (den_box) (aCons (ofD (dName 1)) (aCons (ofD (dName 2)) aNil))) aNil))) [2])) dNil)))))
def den_law : Den := runF 1 4 b_law
structure Txt (K : PySem.W.Frag) (mg : Str → Option Value) : Prop where
  bt : Bt mg
  d_box : DefAt K mg "_law_box" s_box ["script", "k"]
  d_take : DefAt K mg "_law_take" s_take ["tin", "below_so"]
  d_cells : DefAt K mg "_law_cells" s_cells ["script", "most_so"]
  d_of : DefAt K mg "_law_of" s_of ["tin", "goods_so"]
  d_same : DefAt K mg "_law_same" s_same ["got", "due"]
  d_under : DefAt K mg "_law_under" s_under ["error_so"]
  d_which : DefAt K mg "_law_which" s_which ["error_so"]
  d_made_right : DefAt K mg "_law_made_right" s_made_right ["number_so"]
  d_right : DefAt K mg "_law_right" s_right ["tin"]
  d_law : DefAt K mg "law" s_law ["script"]
  nums : ∀ C ∈ nums, XCl K C ∧ PySem.W.findIn K (Value.ref C) "number" = some none
  g_NoPlace : mg "NoPlace" = some (.ref a_NoPlace)
  m_NoPlace : MkAt K mg a_NoPlace
  g_NoMoment : mg "NoMoment" = some (.ref a_NoMoment)
  m_NoMoment : MkAt K mg a_NoMoment
  g_NoDeed : mg "NoDeed" = some (.ref a_NoDeed)
  m_NoDeed : MkAt K mg a_NoDeed
  g_NoVersion : mg "NoVersion" = some (.ref a_NoVersion)
  m_NoVersion : MkAt K mg a_NoVersion
  g_NoPoint : mg "NoPoint" = some (.ref a_NoPoint)
  m_NoPoint : MkAt K mg a_NoPoint
  g_NoEpoch : mg "NoEpoch" = some (.ref a_NoEpoch)
  m_NoEpoch : MkAt K mg a_NoEpoch
  g_NothingDone : mg "NothingDone" = some (.ref a_NothingDone)
  m_NothingDone : ExcBaseFacts "LookupError" "LookupError.__new__" "LookupError.__init__" bmLE ∧ PySem.W.excIn K a_NothingDone bmLE "LookupError.__new__" = true ∧ PySem.W.keepIn K (Value.ref a_NothingDone) = true
  g_BadLine : mg "BadLine" = some (.ref a_BadLine)
  m_BadLine : MkAt K mg a_BadLine
  g_CanNot : mg "CanNot" = some (.ref a_CanNot)
  m_CanNot : ExcBaseFacts "ValueError" "ValueError.__new__" "ValueError.__init__" bmVE ∧ PySem.W.excIn K a_CanNot bmVE "ValueError.__new__" = true ∧ PySem.W.keepIn K (Value.ref a_CanNot) = true
  g_TooMany : mg "TooMany" = some (.ref a_TooMany)
  m_TooMany : ExcBaseFacts "ValueError" "ValueError.__new__" "ValueError.__init__" bmVE ∧ PySem.W.excIn K a_TooMany bmVE "ValueError.__new__" = true ∧ PySem.W.keepIn K (Value.ref a_TooMany) = true
  g_Unfit : mg "Unfit" = some (.ref a_Unfit)
  m_Unfit : ExcBaseFacts "ValueError" "ValueError.__new__" "ValueError.__init__" bmVE ∧ PySem.W.excIn K a_Unfit bmVE "ValueError.__new__" = true ∧ PySem.W.keepIn K (Value.ref a_Unfit) = true
  is_LookupError : ∀ q ∈ is_LookupError, XCl K q.1 ∧ PySem.W.kitOne K (.ref q.1) (.type "LookupError") = some q.2
  is_ValueError : ∀ q ∈ is_ValueError, XCl K q.1 ∧ PySem.W.kitOne K (.ref q.1) (.type "ValueError") = some q.2
  is_TypeError : ∀ q ∈ is_TypeError, XCl K q.1 ∧ PySem.W.kitOne K (.ref q.1) (.type "TypeError") = some q.2
  is_KeyError : ∀ q ∈ is_KeyError, XCl K q.1 ∧ PySem.W.kitOne K (.ref q.1) (.type "KeyError") = some q.2
  is_IndexError : ∀ q ∈ is_IndexError, XCl K q.1 ∧ PySem.W.kitOne K (.ref q.1) (.type "IndexError") = some q.2
  is_RuntimeError : ∀ q ∈ is_RuntimeError, XCl K q.1 ∧ PySem.W.kitOne K (.ref q.1) (.type "RuntimeError") = some q.2
  is_AttributeError : ∀ q ∈ is_AttributeError, XCl K q.1 ∧ PySem.W.kitOne K (.ref q.1) (.type "AttributeError") = some q.2
  is_Exception : ∀ q ∈ is_Exception, XCl K q.1 ∧ PySem.W.kitOne K (.ref q.1) (.type "Exception") = some q.2
  is_NoPlace : ∀ q ∈ is_NoPlace, XCl K q.1 ∧ PySem.W.kitOne K (.ref q.1) (.ref a_NoPlace) = some q.2
  is_NoMoment : ∀ q ∈ is_NoMoment, XCl K q.1 ∧ PySem.W.kitOne K (.ref q.1) (.ref a_NoMoment) = some q.2
  is_NoDeed : ∀ q ∈ is_NoDeed, XCl K q.1 ∧ PySem.W.kitOne K (.ref q.1) (.ref a_NoDeed) = some q.2
  is_NoVersion : ∀ q ∈ is_NoVersion, XCl K q.1 ∧ PySem.W.kitOne K (.ref q.1) (.ref a_NoVersion) = some q.2
  is_NoPoint : ∀ q ∈ is_NoPoint, XCl K q.1 ∧ PySem.W.kitOne K (.ref q.1) (.ref a_NoPoint) = some q.2
  is_NoEpoch : ∀ q ∈ is_NoEpoch, XCl K q.1 ∧ PySem.W.kitOne K (.ref q.1) (.ref a_NoEpoch) = some q.2
  is_NothingDone : ∀ q ∈ is_NothingDone, XCl K q.1 ∧ PySem.W.kitOne K (.ref q.1) (.ref a_NothingDone) = some q.2
  is_BadLine : ∀ q ∈ is_BadLine, XCl K q.1 ∧ PySem.W.kitOne K (.ref q.1) (.ref a_BadLine) = some q.2
  is_CanNot : ∀ q ∈ is_CanNot, XCl K q.1 ∧ PySem.W.kitOne K (.ref q.1) (.ref a_CanNot) = some q.2
  is_TooMany : ∀ q ∈ is_TooMany, XCl K q.1 ∧ PySem.W.kitOne K (.ref q.1) (.ref a_TooMany) = some q.2
  is_Unfit : ∀ q ∈ is_Unfit, XCl K q.1 ∧ PySem.W.kitOne K (.ref q.1) (.ref a_Unfit) = some q.2
section
variable {P : Program} {w : World} {K : PySem.W.Frag} {mg : Str → Option Value} {base : Heap}
theorem ok_box (T : Txt K mg) (f : Addr) (fd : FuncData) (Fn : Fun K "_law_box" "_law_box" s_box f fd) : FnOk P w K mg base (L2.CX P w) 5 f fd ["script", "k"] (spD K mg 2 den_box) := ok_def (k := 4) Fn sc_box fun cdv A outer s H E hr => have B := T.bt; (gss_cons (gs_set 2 sc_box.nd (toE (g_if (g_cmpT op_ltD (g_name 1) (g_lenP 0 (by rfl) B.len) (nomark _)) (g_peek 0 (g_name 1)) g_int)))
    (gss_one (gs_ret (g_lst (gs_cons (toD (g_bin op_mulD (toD (g_callB call_absD (by rfl) B.abs PyProof.Rows.Boot.abs (gs_cons (g_name 2) gs_nil))) (toD (g_callTy call_intD (by rfl) B.int PyProof.Rows.Boot.int (gs_cons (toD (g_cmp op_geD (toD (g_callB call_absD (by rfl) B.abs PyProof.Rows.Boot.abs (gs_cons (g_name 2) gs_nil))) (toD (g_bin op_powD g_int g_int)) (nomark _))) gs_nil))))) (gs_cons (toD (g_bin op_addD (toD (g_bin op_addD (toD (g_bin op_modD (toD (g_callTy call_intD (by rfl) B.int PyProof.Rows.Boot.int (gs_cons (g_name 2) gs_nil))) g_int)) (toD (g_bin op_mulD g_int (g_name 1))))) g_int)) (gs_cons g_int gs_nil)))))))
theorem cal_box (T : Txt K mg) : Cal P w K mg base 5 "_law_box" 2 den_box := calOf T.d_box (ok_box T)
theorem ok_take (T : Txt K mg) (f : Addr) (fd : FuncData) (Fn : Fun K "_law_take" "_law_take" s_take f fd) : FnOk P w K mg base (L2.CX P w) 5 f fd ["tin", "below_so"] (spD K mg 2 den_take) := ok_def (k := 4) Fn sc_take fun cdv A outer s H E hr => have B := T.bt; (gss_cons (gs_if (g_cmpT op_gtD (g_peek 0 g_int) g_int (nomark _)) (gss_cons (gs_set 5 sc_take.nd (g_bin op_modD (toD (g_callTy call_intD (by rfl) B.int PyProof.Rows.Boot.int (gs_cons (g_peek 0 g_int) gs_nil))) (g_name 1)))
    (gss_cons (gs_setIx 0 (toD (g_bin op_fdivD (g_peek 0 g_int) (g_name 1))) g_int)
    (gss_one (gs_ret (g_move 5))))) gss_nil)
    (gss_cons (gs_setIx 0 (toD (g_bin op_addD (g_peek 0 g_int) g_int)) g_int)
    (gss_cons (gs_set 2 sc_take.nd (g_bin op_modD (toD (g_callTy call_intD (by rfl) B.int PyProof.Rows.Boot.int (gs_cons (toD (g_bin op_mulD (toD (g_bin op_addD (g_peek 0 g_int) (toD (g_bin op_mulD g_int (g_peek 0 g_int))))) (toD (g_bin op_addD g_int (g_peek 0 g_int))))) gs_nil))) g_int))
    (gss_cons (gs_set 3 sc_take.nd (g_bin op_addD (toD (g_bin op_modD (toD (g_callTy call_intD (by rfl) B.int PyProof.Rows.Boot.int (gs_cons (g_name 2) gs_nil))) g_int)) g_int))
    (gss_cons (gs_set 4 sc_take.nd (g_bin op_modD (toD (g_callTy call_intD (by rfl) B.int PyProof.Rows.Boot.int (gs_cons (toD (g_bin op_mulD (toD (g_bin op_addD (toD (g_bin op_addD (g_name 2) (g_peek 0 g_int))) (toD (g_bin op_fdivD (g_peek 0 g_int) g_int)))) (g_name 3))) gs_nil))) g_int))
    (gss_one (gs_ret (g_bin op_modD (toD (g_callTy call_intD (by rfl) B.int PyProof.Rows.Boot.int (gs_cons (toD (g_bin op_fdivD (toD (g_bin op_modD (toD (g_callTy call_intD (by rfl) B.int PyProof.Rows.Boot.int (gs_cons (toD (g_bin op_addD (toD (g_bin op_mulD (g_name 4) g_int)) (g_name 2))) gs_nil))) g_int)) g_int)) gs_nil))) (g_name 1)))))))))
theorem cal_take (T : Txt K mg) : Cal P w K mg base 5 "_law_take" 2 den_take := calOf T.d_take (ok_take T)
theorem ok_cells (T : Txt K mg) (f : Addr) (fd : FuncData) (Fn : Fun K "_law_cells" "_law_cells" s_cells f fd) : FnOk P w K mg base (L2.CX P w) 5 f fd ["script", "most_so"] (spD K mg 2 den_cells) := ok_def (k := 4) Fn sc_cells fun cdv A outer s H E hr => have B := T.bt; (gss_cons (gs_set 2 sc_cells.nd (g_or (g_callTy call_listDD (by rfl) B.list PyProof.Rows.Boot.list (gs_cons (toD (g_slP 0 go_none (go_some (g_name 1)))) gs_nil)) (g_oneE (g_lst (gs_cons g_int gs_nil)))))
    (gss_cons (gs_for (passes_of rfl) rfl (gi_enum (by rfl) B.enumerate (gs_cons (toD (g_slP 0 (go_some (g_name 1)) (go_some g_int))) gs_nil)) (gg_tup rfl (ggs_cons (gg_name 3 sc_cells.nd) (ggs_cons (gg_name 4 sc_cells.nd) ggs_nil))) (gss_cons (gs_set 5 sc_cells.nd (g_bin op_modD (toD (g_callTy call_intD (by rfl) B.int PyProof.Rows.Boot.int (gs_cons (g_name 3) gs_nil))) (g_name 1)))
    (gss_one (gs_setIx 2 (toD (g_bin op_addD (g_peek 2 (g_name 5)) (toD (g_bin op_mulD (g_name 4) (toD (g_bin op_addD (g_name 3) g_int)))))) (g_name 5)))))
    (gss_one (gs_ret (g_move 2)))))
theorem cal_cells (T : Txt K mg) : Cal P w K mg base 5 "_law_cells" 2 den_cells := calOf T.d_cells (ok_cells T)
theorem ok_of (T : Txt K mg) (f : Addr) (fd : FuncData) (Fn : Fun K "_law_of" "_law_of" s_of f fd) : FnOk P w K mg base (L2.CX P w) 6 f fd ["tin", "goods_so"] (spD K mg 2 den_of) := ok_def (k := 5) Fn sc_of fun cdv A outer s H E hr => have B := T.bt; (gss_one (gs_ret (toE (g_peek 1 (toD (g_call (cal_take T) hr (by decide) (by rfl) (passes_call (takes_of rfl rfl rfl rfl) (fun _ _ _ _ h => h)) (ga_lend 0 (ga_cons (toE (g_lenP 1 (by rfl) B.len)) ga_nil)) (arl_lend (arl_cons arl_nil))))))))
theorem cal_of (T : Txt K mg) : Cal P w K mg base 6 "_law_of" 2 den_of := calOf T.d_of (ok_of T)
theorem cal_same (T : Txt K mg) : ∀ n : Nat, Cal P w K mg base (5 + n) "_law_same" 2 (den_same n)
  | 0 => calOf T.d_same fun f fd Fn => ok_none
  | n + 1 => calOf T.d_same fun f fd Fn => ok_def (k := 5 + n) Fn sc_same fun cdv A outer s H E hr => have cs := cal_same T n; have B := T.bt; (gss_cons (gs_if (g_tru (g_isi2 .lst .tup (by rfl) B.isinstance (by rfl) B.list PyProof.Rows.Boot.list (by rfl) B.tuple PyProof.Rows.Boot.tuple (g_name 1))) (gss_cons (gs_if (g_wT (g_orT (g_cmpT (op_neDD (room_u hr)) (g_isi .lst (by rfl) B.isinstance (by rfl) B.list PyProof.Rows.Boot.list (g_name 0)) (g_isi .lst (by rfl) B.isinstance (by rfl) B.list PyProof.Rows.Boot.list (g_name 1)) (nomark _)) (g_or1 (g_cmpT (op_neDD (room_u hr)) (g_isi .tup (by rfl) B.isinstance (by rfl) B.tuple PyProof.Rows.Boot.tuple (g_name 0)) (g_isi .tup (by rfl) B.isinstance (by rfl) B.tuple PyProof.Rows.Boot.tuple (g_name 1)) (nomark _))))) (gss_one (gs_ret (toE g_bl))) gss_nil)
    (gss_one (gs_ret (toE (g_and (toD (g_cmp (op_eqDD (room_u hr)) (g_lenP 0 (by rfl) B.len) (g_lenP 1 (by rfl) B.len) (nomark _))) (g_one (toD (g_callB (call_allD rfl) (by rfl) B.all PyProof.Rows.Boot.all (gs_cons (toD (g_comp rfl sc_same.nd (gi_zip (by rfl) B.zip (gs_cons (g_name 0) (gs_cons (g_name 1) gs_nil))) (own := [("mine", 2), ("its", 3)]) (blkOk_by (by kernel_rfl)) (by decide) (fun s H C cl fp => (gg_tup rfl (ggs_cons (gg_name 2 sc_same.nd) (ggs_cons (gg_name 3 sc_same.nd) ggs_nil)))) (fun s H C cl fp => gt_yes) (fun s H C cl fp => (toD (g_call cs hr (by omega) (by rfl) passL (ga_cons (toE (g_name 2)) (ga_cons (toE (g_name 3)) ga_nil)) (arl_cons (arl_cons arl_nil))))))) gs_nil))))))))) gss_nil)
    (gss_cons (gs_if (g_wT (g_orT (g_cmpT op_isND (g_name 1) g_non (nomark _)) (g_or1 (g_tru (g_isi2 .bl .str (by rfl) B.isinstance (by rfl) B.bool PyProof.Rows.Boot.bool (by rfl) B.str PyProof.Rows.Boot.str (g_name 1)))))) (gss_one (gs_ret (toE (g_and (toD (g_cmp (op_eqDD (room_u hr)) (g_name 0) (g_name 1) (nomark _))) (g_and (toD (g_cmp (op_eqDD (room_u hr)) (g_isi .bl (by rfl) B.isinstance (by rfl) B.bool PyProof.Rows.Boot.bool (g_name 0)) (g_isi .bl (by rfl) B.isinstance (by rfl) B.bool PyProof.Rows.Boot.bool (g_name 1)) (nomark _))) (g_one (toD (g_cmp (op_eqDD (room_u hr)) (toD (g_cmp op_isND (g_name 0) g_non (nomark _))) (toD (g_cmp op_isND (g_name 1) g_non (nomark _))) (nomark _))))))))) gss_nil)
    (gss_one (gs_ret (toE (g_and (g_isi .int (by rfl) B.isinstance (by rfl) B.int PyProof.Rows.Boot.int (g_name 0)) (g_and (g_not (g_isi .bl (by rfl) B.isinstance (by rfl) B.bool PyProof.Rows.Boot.bool (g_name 0))) (g_one (toD (g_cmp (op_eqDD (room_u hr)) (g_name 0) (g_name 1) (nomark _)))))))))))
theorem ok_under (T : Txt K mg) (f : Addr) (fd : FuncData) (Fn : Fun K "_law_under" "_law_under" s_under f fd) : FnOk P w K mg base (L2.CX P w) 5 f fd ["error_so"] (spD K mg 1 den_under) := ok_def (k := 4) Fn sc_under fun cdv A outer s H E hr => have B := T.bt; (gss_cons (gs_set 1 sc_under.nd (g_lst (gs_cons (g_isXB is_LookupError T.is_LookupError (by rfl) B.isinstance (by rfl) B.LookupError PyProof.Rows.Boot.LookupError (g_name 0)) (gs_cons (g_isXB is_ValueError T.is_ValueError (by rfl) B.isinstance (by rfl) B.ValueError PyProof.Rows.Boot.ValueError (g_name 0)) (gs_cons (g_isXB is_TypeError T.is_TypeError (by rfl) B.isinstance (by rfl) B.TypeError PyProof.Rows.Boot.TypeError (g_name 0)) gs_nil)))))
    (gss_cons (gs_set 2 sc_under.nd (g_lst (gs_cons (g_isXB is_KeyError T.is_KeyError (by rfl) B.isinstance (by rfl) B.KeyError PyProof.Rows.Boot.KeyError (g_name 0)) (gs_cons (g_isXB is_IndexError T.is_IndexError (by rfl) B.isinstance (by rfl) B.IndexError PyProof.Rows.Boot.IndexError (g_name 0)) gs_nil))))
    (gss_one (gs_ret (g_bin op_addD (toD (g_bin op_addD (g_name 1) (g_name 2))) (toD (g_lst (gs_cons (g_isXB is_RuntimeError T.is_RuntimeError (by rfl) B.isinstance (by rfl) B.RuntimeError PyProof.Rows.Boot.RuntimeError (g_name 0)) (gs_cons (g_isXB is_AttributeError T.is_AttributeError (by rfl) B.isinstance (by rfl) B.AttributeError PyProof.Rows.Boot.AttributeError (g_name 0)) (gs_cons (g_isXB is_Exception T.is_Exception (by rfl) B.isinstance (by rfl) B.Exception PyProof.Rows.Boot.Exception (g_name 0)) gs_nil))))))))))
theorem cal_under (T : Txt K mg) : Cal P w K mg base 5 "_law_under" 1 den_under := calOf T.d_under (ok_under T)
theorem ok_which (T : Txt K mg) (f : Addr) (fd : FuncData) (Fn : Fun K "_law_which" "_law_which" s_which f fd) : FnOk P w K mg base (L2.CX P w) 5 f fd ["error_so"] (spD K mg 1 den_which) := ok_def (k := 4) Fn sc_which fun cdv A outer s H E hr => have B := T.bt; (gss_cons (gs_set 1 sc_which.nd (g_lst (gs_cons (g_isXO is_BadLine T.is_BadLine (by rfl) B.isinstance (by rfl) T.g_BadLine (g_name 0)) (gs_cons (g_isXO is_CanNot T.is_CanNot (by rfl) B.isinstance (by rfl) T.g_CanNot (g_name 0)) (gs_cons (g_isXO is_NoDeed T.is_NoDeed (by rfl) B.isinstance (by rfl) T.g_NoDeed (g_name 0)) (gs_cons (g_isXO is_NoEpoch T.is_NoEpoch (by rfl) B.isinstance (by rfl) T.g_NoEpoch (g_name 0)) gs_nil))))))
    (gss_cons (gs_set 1 sc_which.nd (g_bin op_addD (g_name 1) (toD (g_lst (gs_cons (g_isXO is_NoMoment T.is_NoMoment (by rfl) B.isinstance (by rfl) T.g_NoMoment (g_name 0)) (gs_cons (g_isXO is_NoPlace T.is_NoPlace (by rfl) B.isinstance (by rfl) T.g_NoPlace (g_name 0)) (gs_cons (g_isXO is_NoPoint T.is_NoPoint (by rfl) B.isinstance (by rfl) T.g_NoPoint (g_name 0)) (gs_cons (g_isXO is_NoVersion T.is_NoVersion (by rfl) B.isinstance (by rfl) T.g_NoVersion (g_name 0)) gs_nil))))))))
    (gss_one (gs_ret (g_bin op_addD (g_name 1) (toD (g_lst (gs_cons (g_isXO is_NothingDone T.is_NothingDone (by rfl) B.isinstance (by rfl) T.g_NothingDone (g_name 0)) (gs_cons (g_isXO is_TooMany T.is_TooMany (by rfl) B.isinstance (by rfl) T.g_TooMany (g_name 0)) (gs_cons (g_isXO is_Unfit T.is_Unfit (by rfl) B.isinstance (by rfl) T.g_Unfit (g_name 0)) gs_nil))))))))))
theorem cal_which (T : Txt K mg) : Cal P w K mg base 5 "_law_which" 1 den_which := calOf T.d_which (ok_which T)
theorem ok_made_right (T : Txt K mg) (f : Addr) (fd : FuncData) (Fn : Fun K "_law_made_right" "_law_made_right" s_made_right f fd) : FnOk P w K mg base (L2.CX P w) 12 f fd ["number_so"] (spD K mg 1 den_made_right) := ok_def (k := 11) Fn sc_made_right fun cdv A outer s H E hr => have B := T.bt; (gss_cons (gs_par 5 6 rfl sc_made_right.nd rfl rfl (by decide) rfl rfl (gs_cons (toD (g_bin op_addD (toD (g_bin op_addD (toD (g_lst (gs_cons g_bl (gs_cons g_bl gs_nil)))) (toD (g_bin op_mulD (toD (g_lst (gs_cons g_bl gs_nil))) g_int)))) (toD (g_lst (gs_cons g_bl gs_nil))))) (gs_cons (toD (g_bin op_addD (toD (g_bin op_addD (toD (g_lst (gs_cons g_bl gs_nil))) (toD (g_bin op_mulD (toD (g_lst (gs_cons g_bl gs_nil))) g_int)))) (toD (g_lst (gs_cons g_bl gs_nil))))) gs_nil)) rfl)
    (gss_cons (gs_set 1 sc_made_right.nd (g_lst (gs_cons (mkX_at T.m_BadLine hr (by decide) (passes_call (takes_of rfl rfl rfl rfl) (fun _ _ _ _ h => False.elim h)) (by rfl) T.g_BadLine (g_name 0)) (gs_cons (g_mk0 T.m_CanNot.1 T.m_CanNot.2.1 T.m_CanNot.2.2 (by rfl) T.g_CanNot) (gs_cons (mkX_at T.m_NoDeed hr (by decide) (passes_call (takes_of rfl rfl rfl rfl) (fun _ _ _ _ h => False.elim h)) (by rfl) T.g_NoDeed (g_name 0)) (gs_cons (mkX_at T.m_NoEpoch hr (by decide) (passes_call (takes_of rfl rfl rfl rfl) (fun _ _ _ _ h => False.elim h)) (by rfl) T.g_NoEpoch (g_name 0)) (gs_cons (mkX_at T.m_NoMoment hr (by decide) (passes_call (takes_of rfl rfl rfl rfl) (fun _ _ _ _ h => False.elim h)) (by rfl) T.g_NoMoment (g_name 0)) (gs_cons (mkX_at T.m_NoPlace hr (by decide) (passes_call (takes_of rfl rfl rfl rfl) (fun _ _ _ _ h => False.elim h)) (by rfl) T.g_NoPlace (g_name 0)) (gs_cons (mkX_at T.m_NoPoint hr (by decide) (passes_call (takes_of rfl rfl rfl rfl) (fun _ _ _ _ h => False.elim h)) (by rfl) T.g_NoPoint (g_name 0)) (gs_cons (mkX_at T.m_NoVersion hr (by decide) (passes_call (takes_of rfl rfl rfl rfl) (fun _ _ _ _ h => False.elim h)) (by rfl) T.g_NoVersion (g_name 0)) (gs_cons (g_mk0 T.m_NothingDone.1 T.m_NothingDone.2.1 T.m_NothingDone.2.2 (by rfl) T.g_NothingDone) (gs_cons (g_mk0 T.m_TooMany.1 T.m_TooMany.2.1 T.m_TooMany.2.2 (by rfl) T.g_TooMany) (gs_cons (g_mk0 T.m_Unfit.1 T.m_Unfit.2.1 T.m_Unfit.2.2 (by rfl) T.g_Unfit) gs_nil)))))))))))))
    (gss_cons (gs_set 2 sc_made_right.nd (g_lst (gs_cons (g_num nums T.nums (g_peek 1 g_int)) (gs_cons (g_num nums T.nums (g_peek 1 g_int)) (gs_cons (g_num nums T.nums (g_peek 1 g_int)) (gs_cons (g_num nums T.nums (g_peek 1 g_int)) (gs_cons (g_num nums T.nums (g_peek 1 g_int)) (gs_cons (g_num nums T.nums (g_peek 1 g_int)) (gs_cons (g_num nums T.nums (g_peek 1 g_int)) gs_nil)))))))))
    (gss_cons (gs_set 2 sc_made_right.nd (g_bin op_addD (g_name 2) (toD (g_lst (gs_cons (g_num nums T.nums (mkK_at T.m_BadLine hr (by decide) (passes_call (takes_of rfl rfl rfl rfl) (fun _ _ _ _ h => False.elim h)) (by rfl) T.g_BadLine (g_name 0))) (gs_cons (g_num nums T.nums (mkK_at T.m_NoDeed hr (by decide) (passes_call (takes_of rfl rfl rfl rfl) (fun _ _ _ _ h => False.elim h)) (by rfl) T.g_NoDeed (g_name 0))) (gs_cons (g_num nums T.nums (mkK_at T.m_NoEpoch hr (by decide) (passes_call (takes_of rfl rfl rfl rfl) (fun _ _ _ _ h => False.elim h)) (by rfl) T.g_NoEpoch (g_name 0))) (gs_cons (g_num nums T.nums (mkK_at T.m_NoMoment hr (by decide) (passes_call (takes_of rfl rfl rfl rfl) (fun _ _ _ _ h => False.elim h)) (by rfl) T.g_NoMoment (g_name 0))) gs_nil))))))))
    (gss_cons (gs_set 3 sc_made_right.nd (g_lst (gs_cons (toD (g_bin op_addD (g_name 2) (toD (g_lst (gs_cons (g_num nums T.nums (mkK_at T.m_NoPlace hr (by decide) (passes_call (takes_of rfl rfl rfl rfl) (fun _ _ _ _ h => False.elim h)) (by rfl) T.g_NoPlace (g_name 0))) (gs_cons (g_num nums T.nums (mkK_at T.m_NoPoint hr (by decide) (passes_call (takes_of rfl rfl rfl rfl) (fun _ _ _ _ h => False.elim h)) (by rfl) T.g_NoPoint (g_name 0))) (gs_cons (g_num nums T.nums (mkK_at T.m_NoVersion hr (by decide) (passes_call (takes_of rfl rfl rfl rfl) (fun _ _ _ _ h => False.elim h)) (by rfl) T.g_NoVersion (g_name 0))) gs_nil))))))) gs_nil)))
    (gss_cons (gs_set 4 sc_made_right.nd (g_lst (gs_cons (toD (g_bin op_mulD (toD (g_lst (gs_cons (g_name 0) gs_nil))) g_int)) gs_nil)))
    (gss_cons (gs_for (passes_of rfl) rfl (gi_enum (by rfl) B.enumerate (gs_cons (g_name 1) gs_nil)) (gg_tup rfl (ggs_cons (gg_name 7 sc_made_right.nd) (ggs_cons (gg_name 8 sc_made_right.nd) ggs_nil))) (gss_cons (gs_set 3 sc_made_right.nd (g_bin op_addD (g_name 3) (toD (g_lst (gs_cons (toD (g_call (cal_under T) hr (by decide) (by rfl) (passes_call (takes_of rfl rfl rfl rfl) (fun _ _ _ _ h => h)) (ga_cons (toE (g_name 8)) ga_nil) (arl_cons arl_nil))) (gs_cons (toD (g_call (cal_which T) hr (by decide) (by rfl) (passes_call (takes_of rfl rfl rfl rfl) (fun _ _ _ _ h => h)) (ga_cons (toE (g_name 8)) ga_nil) (arl_cons arl_nil))) gs_nil))))))
    (gss_one (gs_set 4 sc_made_right.nd (g_bin op_addD (g_name 4) (toD (g_lst (gs_cons (g_if (g_chainT op_leD op_leD ci_bool g_int (g_name 7) g_int) (g_name 6) (g_name 5)) (gs_cons (toD (g_comp rfl sc_made_right.nd (gi_range1 (by rfl) B.range (gs_cons g_int gs_nil)) (own := [("k", 9)]) (blkOk_by (by kernel_rfl)) (by decide) (fun s H C cl fp => (gg_name 9 sc_made_right.nd)) (fun s H C cl fp => gt_yes) (fun s H C cl fp => (toD (g_cmp (op_eqDD (room_u hr)) (g_name 9) (g_name 7) (nomark _)))))) gs_nil)))))))))
    (gss_one (gs_ret (g_call (cal_same T 6) hr (by decide) (by rfl) (passes_call (takes_of rfl rfl rfl rfl) (fun _ _ _ _ h => h)) (ga_cons (toE (g_name 3)) (ga_cons (toE (g_name 4)) ga_nil)) (arl_cons (arl_cons arl_nil))))))))))))
theorem cal_made_right (T : Txt K mg) : Cal P w K mg base 12 "_law_made_right" 1 den_made_right := calOf T.d_made_right (ok_made_right T)
theorem ok_right (T : Txt K mg) (f : Addr) (fd : FuncData) (Fn : Fun K "_law_right" "_law_right" s_right f fd) : FnOk P w K mg base (L2.CX P w) 13 f fd ["tin"] (spD K mg 1 den_right) := ok_def (k := 12) Fn sc_right fun cdv A outer s H E hr => have B := T.bt; (gss_one (gs_ret (g_call (cal_made_right T) hr (by decide) (by rfl) (passes_call (takes_of rfl rfl rfl rfl) (fun _ _ _ _ h => h)) (ga_cons (g_bin op_mulD (toD (g_bin op_subD (toD (g_call (cal_take T) hr (by decide) (by rfl) (passes_call (takes_of rfl rfl rfl rfl) (fun _ _ _ _ h => h)) (ga_lend 0 (ga_cons (toE g_int) ga_nil)) (arl_lend (arl_cons arl_nil)))) g_int)) (toD (g_call (cal_of T) hr (by decide) (by rfl) (passes_call (takes_of rfl rfl rfl rfl) (fun _ _ _ _ h => h)) (ga_lend 0 (ga_cons (g_lst (gs_cons g_int (gs_cons g_int (gs_cons g_int (gs_cons (toD (g_bin op_powD g_int g_int)) (gs_cons (toD (g_call (cal_take T) hr (by decide) (by rfl) (passes_call (takes_of rfl rfl rfl rfl) (fun _ _ _ _ h => h)) (ga_lend 0 (ga_cons (g_bin op_powD g_int g_int) ga_nil)) (arl_lend (arl_cons arl_nil)))) gs_nil)))))) ga_nil)) (arl_lend (arl_cons arl_nil))))) ga_nil) (arl_cons arl_nil))))
theorem cal_right (T : Txt K mg) : Cal P w K mg base 13 "_law_right" 1 den_right := calOf T.d_right (ok_right T)
theorem ok_law (T : Txt K mg) (f : Addr) (fd : FuncData) (Fn : Fun K "law" "law" s_law f fd) : FnOk P w K mg base (L2.CX P w) 14 f fd ["script"] (spD K mg 1 den_law) := ok_def (k := 13) Fn sc_law fun cdv A outer s H E hr => have B := T.bt; (gss_cons (gs_if (g_notT (g_tru (toD (g_callB (call_allD rfl) (by rfl) B.all PyProof.Rows.Boot.all (gs_cons (toD (g_comp rfl sc_law.nd (gi_seq (g_tup (gs_cons g_int (gs_cons (g_un un_negD g_int) (gs_cons (toD (g_bin op_powD g_int g_int)) gs_nil))))) (own := [("own", 3)]) (blkOk_by (by kernel_rfl)) (by decide) (fun s H C cl fp => (gg_name 3 sc_law.nd)) (fun s H C cl fp => gt_yes) (fun s H C cl fp => (toD (g_call (cal_made_right T) hr (by decide) (by rfl) passL (ga_cons (toE (g_name 3)) ga_nil) (arl_cons arl_nil)))))) gs_nil))))) (gss_one (gs_ret (toE g_bl))) gss_nil)
    (gss_cons (gs_set 1 sc_law.nd (g_call (cal_cells T) hr (by decide) (by rfl) (passes_call (takes_of rfl rfl rfl rfl) (fun _ _ _ _ h => h)) (ga_lend 0 (ga_cons (toE g_int) ga_nil)) (arl_lend (arl_cons arl_nil))))
    (gss_one (gs_ret (g_callB (call_allD rfl) (by rfl) B.all PyProof.Rows.Boot.all (gs_cons (toD (g_comp rfl sc_law.nd (gi_range1 (by rfl) B.range (gs_cons (g_lenP 1 (by rfl) B.len) gs_nil)) (own := [("nth_so", 2)]) (blkOk_by (by kernel_rfl)) (by decide) (fun s H C cl fp => (gg_name 2 sc_law.nd)) (fun s H C cl fp => gt_yes) (fun s H C cl fp => (toD (g_call (cal_right T) hr (by decide) (by rfl) passL (ga_cons (g_call (cal_box T) hr (by decide) (by rfl) passL (ga_cons (toE (g_name 1)) (ga_cons (toE (g_name 2)) ga_nil)) (arl_cons (arl_cons arl_nil))) ga_nil) (arl_cons arl_nil)))))) gs_nil))))))
theorem cal_law (T : Txt K mg) : Cal P w K mg base 14 "law" 1 den_law := calOf T.d_law (ok_law T)
end
end K00

set_option maxHeartbeats 0
namespace K00
open PySem PySem.Spec L2 Gx
open PyProof.Rows hiding St
def lookD : PyData := .list [.bool true, .bool false, .bool false, .bool false, .bool false, .bool false, .bool false, .bool true]
def valueD : PyData := .list [.bool false, .bool true, .bool false, .bool false, .bool false, .bool false, .bool false, .bool true]
def whD (k : Nat) : PyData := .list ((List.range 11).map fun j => .bool (j == k))
def dueAt (k : Nat) : PyData := if 2 ≤ k ∧ k ≤ 8 then lookD else valueD
def gotD (n : Int) : List PyData := .list (List.replicate 14 (.int n)) :: (List.range 11).flatMap fun k => [dueAt k, whD k]
def madeD (n : Int) : List PyData := [exD1 a_BadLine n, exD0 a_CanNot, exD1 a_NoDeed n, exD1 a_NoEpoch n, exD1 a_NoMoment n, exD1 a_NoPlace n, exD1 a_NoPoint n, exD1 a_NoVersion n, exD0 a_NothingDone, exD0 a_TooMany, exD0 a_Unfit]
def ρ6 (n : Int) : Ev := [.fz (.int n), .ol (madeD n), .fz (.list (List.replicate 11 (.int n))), .ol [.list (List.replicate 14 (.int n))], .ol [.list (List.replicate 14 (.int n))], .fz valueD, .fz lookD, .no, .no, .no]
def ρ7 (n : Int) : Ev := [.fz (.int n), .fz (.list (madeD n)), .fz (.list (List.replicate 11 (.int n))), .ol (gotD n), .ol (gotD n), .fz valueD, .fz lookD, .fz (.int 10), .fz (exD0 a_Unfit), .no]
def loop7 : Dn Fl := (sFor (iEn (dCons (dName 1) dNil)) (hTup 2 (hCons (hName 7) (hCons (hName 8) hNil))) (sSeq (sSet 3 (dBin addD (dName 3) (frz (dLst (dCons (frz (dFn (den_under) (aCons (ofD (dName 8)) aNil))) (dCons (frz (dFn (den_which) (aCons (ofD (dName 8)) aNil))) dNil))))))
  (sSet 4 (dBin addD (dName 4) (frz (dLst (dCons (dIf (dChT leD leD (dC (.int 2)) (dName 7) (dC (.int 8))) (dName 6) (dName 5)) (dCons (frz (dComp (iRg1 (dCons (dC (.int 11)) dNil)) (hName 9) yesT (frz (dBin eqD (dName 9) (dName 7))) [9])) dNil))))))))
theorem loop7_ev (n : Int) : loop7 (ρ6 n) = .ok (.nx, ρ7 n) := by kernel_rfl
end K00

set_option maxHeartbeats 0
namespace K00
open PySem PySem.Spec L2 Gx
open PyProof.Rows hiding St
theorem den_same_eq : ∀ n : Nat, den_same n = denSame n
  | 0 => rfl
  | n + 1 => by
    show runF 2 4 (b_same (den_same n)) = runF 2 4 (bSame (denSame n))
    rw [den_same_eq n]
    rfl
theorem got_pln (n : Int) : pln 5 (.list (gotD n)) = true := by kernel_rfl
def last7 : Dn Fl := sRet (dFn (den_same 6) (aCons (ofD (dName 3)) (aCons (ofD (dName 4)) aNil)))
def ρ8 (n : Int) : Ev := [.fz (.int n), .fz (.list (madeD n)), .fz (.list (List.replicate 11 (.int n))), .fz (.list (gotD n)), .fz (.list (gotD n)), .fz valueD, .fz lookD, .fz (.int 10), .fz (exD0 a_Unfit), .no]
theorem args7 (n : Int) : (aCons (ofD (dName 3)) (aCons (ofD (dName 4)) aNil)) (ρ7 n) = .ok ([.fz (.list (gotD n)), .fz (.list (gotD n))], ρ8 n) := by kernel_rfl
theorem last7_ev (n : Int) : last7 (ρ7 n) = .ok (.rt (.fz (.bool true)), ρ8 n) :=
  ev_ret (ev_fn (args7 n) rfl (es := [.fz (.list (gotD n)), .fz (.list (gotD n))]) rfl (by rw [den_same_eq]; exact same_refl 5 _ (got_pln n)))
theorem made_body (n : Int) (ok : okN n = true) : b_made_right (.fz (.int n) :: List.replicate 9 .no) = .ok (.rt (.fz (.bool true)), ρ8 n) := by
  unfold b_made_right
  refine ev_seq (ρ1 := _) (by rfl) ?_
  refine ev_seq (ρ1 := _) (ev_set (ev_lst (ev_cons (ev_mk ok rfl) (ev_cons rfl (ev_cons (ev_mk ok rfl) (ev_cons (ev_mk ok rfl) (ev_cons (ev_mk ok rfl) (ev_cons (ev_mk ok rfl) (ev_cons (ev_mk ok rfl) (ev_cons (ev_mk ok rfl) (ev_cons rfl (ev_cons rfl (ev_cons rfl ev_nil))))))))))) (by rfl)) (by rfl)) ?_
  refine ev_seq (ρ1 := _) (by rfl) ?_
  refine ev_seq (ρ1 := _) (ev_set (ev_bin rfl (ev_frz (ev_lst (ev_cons (ev_un (ev_mk ok rfl) rfl) (ev_cons (ev_un (ev_mk ok rfl) rfl) (ev_cons (ev_un (ev_mk ok rfl) rfl) (ev_cons (ev_un (ev_mk ok rfl) rfl) ev_nil)))) (by rfl))) rfl) (by rfl)) ?_
  refine ev_seq (ρ1 := _) (ev_set (ev_lst (ev_cons (ev_frz (ev_bin rfl (ev_frz (ev_lst (ev_cons (ev_un (ev_mk ok rfl) rfl) (ev_cons (ev_un (ev_mk ok rfl) rfl) (ev_cons (ev_un (ev_mk ok rfl) rfl) ev_nil))) (by rfl))) rfl)) ev_nil) (by rfl)) (by rfl)) ?_
  refine ev_seq (ρ1 := ρ6 n) (by kernel_rfl) ?_
  exact ev_seq (loop7_ev n) (last7_ev n)
theorem made_ev (n : Int) (ok : okN n = true) : den_made_right [.fz (.int n)] = .ok (.fz (.bool true), [.fz (.int n)]) := by
  exact ev_run (n := 1) (N := 10) (as := [.fz (.int n)]) (made_body n ok)
end K00

set_option maxHeartbeats 0
namespace K00
open PySem PySem.Spec L2 Gx
open PyProof.Rows hiding St
def tinD (a s c : Int) : List PyData := [.int a, .int s, .int c]
theorem take_ev (a s c b : Int) (ha : 0 ≤ a) (hb : 0 < b) (hb2 : b < 1073741824) (hc : 0 ≤ c) (hc2 : c < 1000000) : ∃ d a' c' : Int, den_take [.bl (tinD a s c), .fz (.int b)] = .ok (.fz (.int d), [.bl (tinD a' s c'), .fz (.int b)]) ∧ 0 ≤ d ∧ d < b ∧ 0 ≤ a' ∧ (c' = c ∨ c' = c + 1) := by
  by_cases h0 : 0 < a
  · refine ⟨a % b, a / b, c, ?_, Int.emod_nonneg _ (by omega), Int.emod_lt_of_pos _ hb, Int.ediv_nonneg ha (by omega), .inl rfl⟩
    refine Eq.trans (ev_run (n := 2) (N := 6) (as := [.bl (tinD a s c), .fz (.int b)]) (r := .fz (.int (a % b))) (ρ1 := [.bl (tinD (a / b) s c), .fz (.int b), .no, .no, .no, .fz (.int (a % b))]) ?_) rfl
    show b_take [.bl (tinD a s c), .fz (.int b), .no, .no, .no, .no] = _
    refine ev_seqR (ev_if (b := true) (ρ1 := [.bl (tinD a s c), .fz (.int b), .no, .no, .no, .no]) (ev_cmpT (x := .int a) (y := .int 0) rfl rfl (by show fB (decide (0 < a)) = _; rw [decide_eq_true h0])) ?_)
    refine ev_seq (ev_set (ev_bin (ev_frz (ev_call (ev_cons (ev_peek rfl rfl rfl) ev_nil) rfl)) rfl (modD_ev hb)) rfl) ?_
    refine ev_seq (ev_setIx (ev_frz (ev_bin (ev_peek rfl rfl rfl) rfl (fdivD_ev hb hb2))) rfl rfl rfl) ?_
    rfl
  · let c1 := c + 1
    let once := ((s + 48271 * c1) * (39373 + c1)) % 2147483647
    let wide := once % 40009 + 7
    let twice := ((once + c1 + s / 1000003) * wide) % 2147483629
    let d := ((twice * 48271 + once) % 2147483587 / 64) % b
    have o1 : 0 ≤ once := Int.emod_nonneg _ (by decide)
    have o2 : once < 2147483647 := Int.emod_lt_of_pos _ (by decide)
    have w1 : 7 ≤ wide := by have := Int.emod_nonneg once (b := 40009) (by decide); omega
    have w2 : wide < 50000 := by have := Int.emod_lt_of_pos once (b := 40009) (by decide); omega
    have hw1 : w64 (39373 + c1) = true := w64_of (by omega) (by omega)
    have hw2 : w64 wide = true := w64_of (by omega) (by omega)
    refine ⟨d, a, c1, ?_, Int.emod_nonneg _ (by omega), Int.emod_lt_of_pos _ hb, ha, .inr rfl⟩
    refine Eq.trans (ev_run (n := 2) (N := 6) (as := [.bl (tinD a s c), .fz (.int b)]) (r := .fz (.int d)) (ρ1 := [.bl (tinD a s c1), .fz (.int b), .fz (.int once), .fz (.int wide), .fz (.int twice), .no]) ?_) rfl
    show b_take [.bl (tinD a s c), .fz (.int b), .no, .no, .no, .no] = _
    refine ev_seq (ev_if (b := false) (ρ1 := [.bl (tinD a s c), .fz (.int b), .no, .no, .no, .no]) (ev_cmpT (x := .int a) (y := .int 0) rfl rfl (by show fB (decide (0 < a)) = _; rw [decide_eq_false h0])) rfl) ?_
    refine ev_seq (ev_setIx (ev_frz (ev_bin (ev_peek rfl rfl rfl) rfl rfl)) rfl rfl rfl) ?_
    refine ev_seq (ev_set (ev_bin (ev_frz (ev_call (ev_cons (ev_frz (ev_bin (ev_frz (ev_bin (ev_peek rfl rfl rfl) (ev_frz (ev_bin rfl (ev_peek rfl rfl rfl) (mulD_l (by rfl)))) rfl)) (ev_frz (ev_bin rfl (ev_peek rfl rfl rfl) rfl)) (mulD_r hw1))) ev_nil) rfl)) rfl (modD_ev (by decide))) rfl) ?_
    refine ev_seq (ev_set (ev_bin (ev_frz (ev_bin (ev_frz (ev_call (ev_cons rfl ev_nil) rfl)) rfl (modD_ev (by decide)))) rfl rfl) rfl) ?_
    refine ev_seq (ev_set (ev_bin (ev_frz (ev_call (ev_cons (ev_frz (ev_bin (ev_frz (ev_bin (ev_frz (ev_bin rfl (ev_peek rfl rfl rfl) rfl)) (ev_frz (ev_bin (ev_peek rfl rfl rfl) rfl (fdivD_ev (by decide) (by decide)))) rfl)) rfl (mulD_r hw2))) ev_nil) rfl)) rfl (modD_ev (by decide))) rfl) ?_
    refine Eq.trans (ev_ret (ev_bin (ev_frz (ev_call (ev_cons (ev_frz (ev_bin (ev_frz (ev_bin (ev_frz (ev_call (ev_cons (ev_frz (ev_bin (ev_frz (ev_bin rfl rfl (mulD_r (by rfl)))) rfl rfl)) ev_nil) rfl)) rfl (modD_ev (by decide)))) rfl (fdivD_ev (by decide) (by decide)))) ev_nil) rfl)) rfl (modD_ev hb))) rfl
end K00

set_option maxHeartbeats 0
namespace K00
open PySem PySem.Spec L2 Gx
open PyProof.Rows hiding St
theorem atI_in {xs : List PyData} {d : Int} (h0 : 0 ≤ d) (h1 : d < xs.length) : ∃ x, x ∈ xs ∧ atI xs d = some x := by
  have hj : ixN xs.length d = some d.toNat := by
    unfold ixN
    rw [if_pos h0, if_pos h1]
  have hl : d.toNat < xs.length := by omega
  refine ⟨xs[d.toNat], List.getElem_mem hl, ?_⟩
  unfold atI
  rw [hj]
  exact List.getElem?_eq_getElem hl
theorem of_ev (a s c : Int) (goods : List PyData) (ha : 0 ≤ a) (hb : 0 < goods.length) (hb2 : goods.length < 1000) (hc : 0 ≤ c) (hc2 : c < 1000000) : ∃ (x : PyData) (a' c' : Int), x ∈ goods ∧ den_of [.bl (tinD a s c), .bl goods] = .ok (.fz x, [.bl (tinD a' s c'), .bl goods]) ∧ 0 ≤ a' ∧ (c' = c ∨ c' = c + 1) := by
  obtain ⟨d, a', c', e, h0, h1, h2, h3⟩ := take_ev a s c goods.length ha (by omega) (by omega) hc hc2
  obtain ⟨x, hx, ex⟩ := atI_in h0 h1
  refine ⟨x, a', c', hx, ?_, h2, h3⟩
  refine Eq.trans (ev_run (n := 2) (N := 2) (as := [.bl (tinD a s c), .bl goods]) (r := .fz x) (ρ1 := [.bl (tinD a' s c'), .bl goods]) ?_) rfl
  show b_of [.bl (tinD a s c), .bl goods] = _
  refine ev_ret (ev_ofD (ev_peek rfl (Eq.trans (ev_frz (ev_fnL (ev_lendB rfl (ev_aconsF (d := .int goods.length) rfl rfl)) rfl rfl e)) rfl) ex))
theorem right_ev (a s c : Int) (ha : 0 ≤ a) (hc : 0 ≤ c) (hc2 : c < 1000) : ∃ a' c' : Int, den_right [.bl (tinD a s c)] = .ok (.fz (.bool true), [.bl (tinD a' s c')]) := by
  obtain ⟨d1, a1, c1, e1, p1, q1, ha1, hc1⟩ := take_ev a s c 3 ha (by omega) (by omega) hc (by omega)
  obtain ⟨d2, a2, c2, e2, p2, q2, ha2, hc2'⟩ := take_ev a1 s c1 1000000 ha1 (by omega) (by omega) (by omega) (by omega)
  obtain ⟨x, a3, c3, hx, e3, ha3, hc3⟩ := of_ev a2 s c2 [.int 0, .int 1, .int 7, .int 1000000000, .int d2] ha2 (by show 0 < 5; omega) (by show 5 < 1000; omega) (by omega) (by omega)
  obtain ⟨y, rfl, y1, y2⟩ : ∃ y : Int, x = .int y ∧ 0 ≤ y ∧ y ≤ 1000000000 := by
    simp at hx
    rcases hx with rfl | rfl | rfl | rfl | rfl
    · exact ⟨_, rfl, by omega, by omega⟩
    · exact ⟨_, rfl, by omega, by omega⟩
    · exact ⟨_, rfl, by omega, by omega⟩
    · exact ⟨_, rfl, by omega, by omega⟩
    · exact ⟨_, rfl, by omega, by omega⟩
  have hok : okN ((d1 - 1) * y) = true := by
    unfold okN
    apply decide_eq_true
    have hd : d1 = 0 ∨ d1 = 1 ∨ d1 = 2 := by omega
    rcases hd with rfl | rfl | rfl <;> omega
  have m := made_ev ((d1 - 1) * y) hok
  refine ⟨a3, c3, ?_⟩
  refine Eq.trans (ev_run (n := 1) (N := 1) (as := [.bl (tinD a s c)]) (r := .fz (.bool true)) (ρ1 := [.bl (tinD a3 s c3)]) ?_) rfl
  show b_right [.bl (tinD a s c)] = _
  have L : (frz (dBin subD (frz (dFn (den_take) (aLend 0 (aCons (ofD (dC (.int 3))) aNil)))) (dC (.int 1)))) [.bl (tinD a s c)] = .ok (.int (d1 - 1), [.bl (tinD a1 s c1)]) :=
    ev_frz (r := .fz (.int (d1 - 1))) (ev_bin (Eq.trans (ev_frz (ev_fnL (ev_lendB rfl (ev_aconsF (d := .int 3) rfl rfl)) rfl rfl e1)) rfl) rfl rfl)
  have T2 : (frz (dFn (den_take) (aLend 0 (aCons (dBin powD (dC (.int 10)) (dC (.int 6))) aNil)))) [.bl (tinD a1 s c1)] = .ok (.int d2, [.bl (tinD a2 s c2)]) :=
    Eq.trans (ev_frz (ev_fnL (ρ1 := [.bl (tinD a1 s c1)]) (ev_lendB rfl (ev_aconsF (d := .int 1000000) (ρ1 := [.bl (tinD a1 s c1)]) (by rfl) rfl)) rfl rfl e2)) rfl
  have R : (frz (dFn (den_of) (aLend 0 (aCons (dLst (dCons (dC (.int 0)) (dCons (dC (.int 1)) (dCons (dC (.int 7)) (dCons (frz (dBin powD (dC (.int 10)) (dC (.int 9)))) (dCons (frz (dFn (den_take) (aLend 0 (aCons (dBin powD (dC (.int 10)) (dC (.int 6))) aNil)))) dNil)))))) aNil)))) [.bl (tinD a1 s c1)] = .ok (.int y, [.bl (tinD a3 s c3)]) :=
    Eq.trans (ev_frz (ev_fnL (ev_lendB rfl (ev_aconsO (xs := [.int 0, .int 1, .int 7, .int 1000000000, .int d2]) (ev_lst (ev_cons rfl (ev_cons rfl (ev_cons rfl (ev_cons (by rfl) (ev_cons T2 ev_nil))))) rfl) rfl)) rfl rfl e3)) rfl
  exact ev_ret (ev_fn (ev_aconsF (d := .int ((d1 - 1) * y)) (ev_bin L R (mulD_l (w64_of (by omega) (by omega)))) rfl) rfl rfl m)
end K00

set_option maxHeartbeats 0
namespace K00
open PySem PySem.Spec L2 Gx
open PyProof.Rows hiding St
theorem box_ev (cs : List PyData) (k : Nat) (z : Int) (hk : cs[k]? = some (.int z)) (hk2 : k < 1000) (hl : cs.length < 1000) : ∃ a s : Int, den_box [.fz (.list cs), .fz (.int k)] = .ok (.ol (tinD a s 0), [.fz (.list cs), .fz (.int k)]) ∧ 0 ≤ a := by
  have hkl : k < cs.length := (List.getElem?_eq_some_iff.mp hk).1
  let az : Int := if z < 0 then -z else z
  let t : Bool := decide (1000000000000000000 ≤ az)
  let a : Int := az * (if t = true then 1 else 0)
  let s : Int := z % 2305843009213693951 + 39373 * k + 1940000
  have haz : 0 ≤ az := by
    show 0 ≤ if z < 0 then -z else z
    split <;> omega
  have ha : 0 ≤ a := by
    show 0 ≤ az * (if t = true then 1 else 0)
    split <;> omega
  have hw : w64 (if t = true then 1 else 0) = true := by
    cases t <;> rfl
  have hat : atI cs k = some (.int z) := by
    unfold atI ixN
    rw [if_pos (by omega), if_pos (by omega)]
    show cs[(k : Int).toNat]? = _
    rw [Int.toNat_natCast]
    exact hk
  refine ⟨a, s, ?_, ha⟩
  let ρ1 : Ev := [.fz (.list cs), .fz (.int k), .fz (.int z)]
  refine Eq.trans (ev_run (n := 2) (N := 3) (as := [.fz (.list cs), .fz (.int k)]) (r := .ol (tinD a s 0)) (ρ1 := ρ1) ?_) rfl
  show b_box [.fz (.list cs), .fz (.int k), .no] = _
  refine ev_seq (ρ1 := ρ1) (Eq.trans (ev_set (r := .fz (.int z)) (ρ1 := [.fz (.list cs), .fz (.int k), .no]) (ev_ofD (ev_bnd (a := true) (ρ1 := [.fz (.list cs), .fz (.int k), .no]) (ev_cmpT (x := .int k) (y := .int cs.length) rfl rfl ?_) ?_)) rfl) rfl) ?_
  · show fB (decide ((k : Int) < cs.length)) = _
    rw [decide_eq_true (by omega)]
  · show dPeek 0 (dName 1) [.fz (.list cs), .fz (.int k), .no] = .ok (.int z, [.fz (.list cs), .fz (.int k), .no])
    exact ev_peek rfl rfl hat
  have A : (frz (dCall absD (dCons (dName 2) dNil))) ρ1 = .ok (.int az, ρ1) := ev_frz (r := .fz (.int az)) (ev_call (ev_cons rfl ev_nil) rfl)
  have B : (frz (dCall intD (dCons (frz (dBin geD (frz (dCall absD (dCons (dName 2) dNil))) (frz (dBin powD (dC (.int 10)) (dC (.int 18)))))) dNil))) ρ1 = .ok (.int (if t = true then 1 else 0), ρ1) :=
    ev_frz (r := .fz (.int (if t = true then 1 else 0))) (ev_call (xs := [.bool t]) (ev_cons (ev_frz (r := .fz (.bool t)) (ev_bin A (y := .int 1000000000000000000) (ρ2 := ρ1) (by rfl) rfl)) ev_nil) rfl)
  have C : (frz (dBin addD (frz (dBin addD (frz (dBin modD (frz (dCall intD (dCons (dName 2) dNil))) (dC (.int 2305843009213693951)))) (frz (dBin mulD (dC (.int 39373)) (dName 1))))) (dC (.int 1940000)))) ρ1 = .ok (.int s, ρ1) :=
    ev_frz (r := .fz (.int s)) (ev_bin (ev_frz (ev_bin (ev_frz (ev_bin (ev_frz (ev_call (ev_cons rfl ev_nil) rfl)) rfl (modD_ev (by decide)))) (ev_frz (ev_bin rfl rfl (mulD_l (by rfl)))) rfl)) rfl rfl)
  exact ev_ret (ev_lst (ev_cons (ev_frz (r := .fz (.int a)) (ev_bin A B (mulD_r hw))) (ev_cons C (ev_cons rfl ev_nil))) rfl)
end K00

set_option maxHeartbeats 0
namespace K00
open PySem PySem.Spec L2 Gx
open PyProof.Rows hiding St
def cTgt : PyData → Ev → Option Ev := hTup 2 (hCons (hName 3) (hCons (hName 4) hNil))
def cBody : Dn Fl := sSeq (sSet 5 (dBin modD (frz (dCall intD (dCons (dName 3) dNil))) (dName 1)))
  (sSetIx 2 (dName 5) (frz (dBin addD (dPeek 2 (dName 5)) (frz (dBin mulD (dName 4) (frz (dBin addD (dName 3) (dC (.int 2)))))))))
def cEnv (ns : List Int) (p q : Int) (e3 e4 e5 : En) : Ev := [.sc ns, .fz (.int 2), .ol [.int p, .int q], e3, e4, e5]
theorem cbody_ev (ns : List Int) (p q : Int) (i : Nat) (z : Int) (e5 : En) (hi : i < 1000) (he : isBl (some e5) = false) : ∃ p' q' d, cBody (cEnv ns p q (.fz (.int i)) (.fz (.int z)) e5) = .ok (.nx, cEnv ns p' q' (.fz (.int i)) (.fz (.int z)) (.fz d)) := by
  have hw : w64 ((i : Int) + 2) = true := w64_of (by omega) (by omega)
  rcases (show (i : Int) % 2 = 0 ∨ (i : Int) % 2 = 1 by omega) with h | h
  · refine ⟨p + z * (i + 2), q, .int 0, ?_⟩
    refine ev_seq (ρ1 := cEnv ns p q (.fz (.int i)) (.fz (.int z)) (.fz (.int 0))) (Eq.trans (ev_set (r := .fz (.int 0)) (ρ1 := cEnv ns p q (.fz (.int i)) (.fz (.int z)) e5) (ev_bin (ev_frz (ev_call (ev_cons rfl ev_nil) rfl)) rfl (by show modD (.int i) (.int 2) = _; rw [modD_ev (by decide), h])) he) rfl) ?_
    exact Eq.trans (ev_setIx (ev_frz (ev_bin (ev_peek rfl rfl rfl) (ev_frz (ev_bin rfl (ev_frz (ev_bin rfl rfl rfl)) (mulD_r hw))) rfl)) rfl rfl rfl) rfl
  · refine ⟨p, q + z * (i + 2), .int 1, ?_⟩
    refine ev_seq (ρ1 := cEnv ns p q (.fz (.int i)) (.fz (.int z)) (.fz (.int 1))) (Eq.trans (ev_set (r := .fz (.int 1)) (ρ1 := cEnv ns p q (.fz (.int i)) (.fz (.int z)) e5) (ev_bin (ev_frz (ev_call (ev_cons rfl ev_nil) rfl)) rfl (by show modD (.int i) (.int 2) = _; rw [modD_ev (by decide), h])) he) rfl) ?_
    exact Eq.trans (ev_setIx (ev_frz (ev_bin (ev_peek rfl rfl rfl) (ev_frz (ev_bin rfl (ev_frz (ev_bin rfl rfl rfl)) (mulD_r hw))) rfl)) rfl rfl rfl) rfl
def okE (e3 e4 e5 : En) : Prop := (e3 = .no ∧ e4 = .no ∧ e5 = .no) ∨ ∃ a b c, e3 = .fz a ∧ e4 = .fz b ∧ e5 = .fz c
theorem cloop_ev (ns : List Int) : ∀ (l : List Int) (i : Nat) (p q : Int) (e3 e4 e5 : En), okE e3 e4 e5 → i + l.length < 1000 → ∃ p' q' f3 f4 f5, loopF cTgt cBody (enumD i (l.map .int)) (cEnv ns p q e3 e4 e5) = .ok (.nx, cEnv ns p' q' f3 f4 f5)
  | [], i, p, q, e3, e4, e5, _, _ => ⟨p, q, e3, e4, e5, rfl⟩
  | z :: l, i, p, q, e3, e4, e5, he, hl => by
    simp only [List.length_cons] at hl
    have ht : cTgt (.tuple [.int (i : Nat), .int z]) (cEnv ns p q e3 e4 e5) = some (cEnv ns p q (.fz (.int i)) (.fz (.int z)) e5) ∧ isBl (some e5) = false := by
      rcases he with ⟨rfl, rfl, rfl⟩ | ⟨a, b, c, rfl, rfl, rfl⟩
      · exact ⟨rfl, rfl⟩
      · exact ⟨rfl, rfl⟩
    obtain ⟨p1, q1, d, e⟩ := cbody_ev ns p q i z e5 (by omega) ht.2
    obtain ⟨p', q', f3, f4, f5, ih⟩ := cloop_ev ns l (i + 1) p1 q1 (.fz (.int i)) (.fz (.int z)) (.fz d) (.inr ⟨_, _, _, rfl, rfl, rfl⟩) (by omega)
    refine ⟨p', q', f3, f4, f5, ?_⟩
    show (match cTgt (.tuple [.int (i : Nat), .int z]) (cEnv ns p q e3 e4 e5) with
      | none => .st
      | some ρ1 => match cBody ρ1 with
        | .st => .st
        | .ex e => .ex e
        | .ok (.nx, ρ2) => loopF cTgt cBody (enumD (i + 1) (l.map .int)) ρ2
        | .ok (.ct, ρ2) => loopF cTgt cBody (enumD (i + 1) (l.map .int)) ρ2
        | .ok (.bk, ρ2) => .ok (.nx, ρ2)
        | .ok (.rt r, ρ2) => .ok (.rt r, ρ2) : Rs (Fl × Ev)) = _
    rw [ht.1]
    simp only [e]
    exact ih
theorem cut2 (xs : List PyData) : Gx.cutD xs none (some 2) = xs.take 2 := by
  unfold Gx.cutD
  rw [HT.sIx_none, show HT.sIx xs.length xs.length (some 2) = min 2 xs.length from HT.sIx_nat _ _ 2, List.drop_zero, Nat.sub_zero]
  by_cases h : 2 ≤ xs.length
  · rw [Nat.min_eq_left h]
  · rw [Nat.min_eq_right (by omega), List.take_length, List.take_of_length_le (by omega)]
theorem cut63 (x y : PyData) (xs : List PyData) (h : xs.length + 2 ≤ 63) : Gx.cutD (x :: y :: xs) (some 2) (some 63) = xs := by
  unfold Gx.cutD
  rw [show HT.sIx (x :: y :: xs).length 0 (some 2) = min 2 (x :: y :: xs).length from HT.sIx_nat _ _ 2, show HT.sIx (x :: y :: xs).length (x :: y :: xs).length (some 63) = min 63 (x :: y :: xs).length from HT.sIx_nat _ _ 63]
  simp only [List.length_cons]
  rw [show min 2 (xs.length + 1 + 1) = 2 by omega, show min 63 (xs.length + 1 + 1) = xs.length + 1 + 1 by omega]
  show List.take (xs.length + 1 + 1 - 2) xs = xs
  exact List.take_of_length_le (by omega)
theorem cells_ev (ns : List Int) (hl : ns.length ≤ 63) : ∃ cs : List Int, (cs.length = 1 ∨ cs.length = 2) ∧ den_cells [.sc ns, .fz (.int 2)] = .ok (.ol (cs.map .int), [.sc ns, .fz (.int 2)]) := by
  match ns, hl with
  | [], _ => exact ⟨[0], .inl rfl, by kernel_rfl⟩
  | [x], _ => exact ⟨[x], .inl rfl, by kernel_rfl⟩
  | x :: y :: rest, hl =>
    simp only [List.length_cons] at hl
    obtain ⟨p', q', f3, f4, f5, hlp⟩ := cloop_ev (x :: y :: rest) rest 0 x y .no .no .no (.inl ⟨rfl, rfl, rfl⟩) (by omega)
    refine ⟨[p', q'], .inr rfl, ?_⟩
    refine Eq.trans (ev_run (n := 2) (N := 6) (as := [.sc (x :: y :: rest), .fz (.int 2)]) (r := .ol [.int p', .int q']) (ρ1 := [.sc (x :: y :: rest), .fz (.int 2), .no, f3, f4, f5]) ?_) rfl
    show b_cells [.sc (x :: y :: rest), .fz (.int 2), .no, .no, .no, .no] = _
    have s1 : (dSlP 0 dOff (dOn (dName 1))) [.sc (x :: y :: rest), .fz (.int 2), .no, .no, .no, .no] = .ok (.ol [.int x, .int y], [.sc (x :: y :: rest), .fz (.int 2), .no, .no, .no, .no]) := by
      have e : Gx.cutD ((x :: y :: rest).map .int) none (some 2) = [.int x, .int y] := by rw [cut2]; rfl
      rw [← e]
      rfl
    have s2 : (dSlP 0 (dOn (dName 1)) (dOn (dC (.int 63)))) (cEnv (x :: y :: rest) x y .no .no .no) = .ok (.ol (rest.map .int), cEnv (x :: y :: rest) x y .no .no .no) := by
      have e : Gx.cutD ((x :: y :: rest).map .int) (some 2) (some 63) = rest.map .int := cut63 _ _ _ (by simpa using hl)
      rw [← e]
      rfl
    refine ev_seq (ρ1 := cEnv (x :: y :: rest) x y .no .no .no) (Eq.trans (ev_set (r := .ol [.int x, .int y]) (ρ1 := [.sc (x :: y :: rest), .fz (.int 2), .no, .no, .no, .no]) (ev_bnd (ev_call (ev_cons (ev_frz s1) ev_nil) rfl) (ev_bnd (ev_lft rfl) rfl)) rfl) rfl) ?_
    refine ev_seq (ρ1 := cEnv (x :: y :: rest) p' q' f3 f4 f5) (ev_bnd (a := enumD 0 (rest.map .int)) (ρ1 := cEnv (x :: y :: rest) x y .no .no .no) (ev_bnd (ev_cons (ev_frz s2) ev_nil) (ev_lft rfl)) hlp) ?_
    rfl
end K00

set_option maxHeartbeats 0
namespace K00
open PySem PySem.Spec L2 Gx
open PyProof.Rows hiding St
def lElem : Dn PyData := frz (dFn (den_right) (aCons (dFn (den_box) (aCons (ofD (dName 1)) (aCons (ofD (dName 2)) aNil))) aNil))
theorem lelem_ev (ns : List Int) (cs : List Int) (k : Nat) (E1 e3 : En) (hE : E1 = .ol (cs.map .int) ∨ E1 = .fz (.list (cs.map .int))) (hk : k < cs.length) (hl : cs.length < 1000) : lElem [.sc ns, E1, .fz (.int k), e3] = .ok (.bool true, [.sc ns, .fz (.list (cs.map .int)), .fz (.int k), e3]) := by
  obtain ⟨a, s, hb, ha⟩ := box_ev (cs.map .int) k cs[k] (by rw [List.getElem?_map, List.getElem?_eq_getElem hk]; rfl) (by omega) (by simpa using hl)
  obtain ⟨a', c', hr⟩ := right_ev a s 0 ha (by omega) (by omega)
  let ρ2 : Ev := [.sc ns, .fz (.list (cs.map .int)), .fz (.int k), e3]
  have h1 : (ofD (dName 1)) [.sc ns, E1, .fz (.int k), e3] = .ok (.fz (.list (cs.map .int)), ρ2) := by
    rcases hE with rfl | rfl <;> rfl
  exact ev_frz (r := .fz (.bool true)) (ev_fn (ev_aconsO (xs := tinD a s 0) (ev_fn (ρ1 := ρ2) (ev_aconsF h1 (ev_aconsF (d := .int k) rfl rfl)) rfl rfl hb) rfl) rfl rfl hr)
theorem law1 (ns : List Int) : (sIf (dNotT (dTru (frz (dCall allD (dCons (frz (dComp (iSeq (dTup (dCons (dC (.int 0)) (dCons (dUn negD (dC (.int 1))) (dCons (frz (dBin powD (dC (.int 10)) (dC (.int 9)))) dNil))))) (hName 3) yesT (frz (dFn (den_made_right) (aCons (ofD (dName 3)) aNil))) [3])) dNil))))) (sRet (ofD (dC (.bool false)))) sNx) [.sc ns, .no, .no, .no] = .ok (.nx, [.sc ns, .no, .no, .no]) := by kernel_rfl
theorem law_ev (ns : List Int) (hl : ns.length ≤ 63) : den_law [.sc ns] = .ok (.fz (.bool true), [.sc ns]) := by
  obtain ⟨cs, hc, hcs⟩ := cells_ev ns hl
  refine Eq.trans (ev_run (n := 1) (N := 4) (as := [.sc ns]) (r := .fz (.bool true)) (ρ1 := [.sc ns, .fz (.list (cs.map .int)), .no, .no]) ?_) rfl
  show b_law [.sc ns, .no, .no, .no] = _
  refine ev_seq (law1 ns) ?_
  refine ev_seq (ρ1 := [.sc ns, .ol (cs.map .int), .no, .no]) (Eq.trans (ev_set (r := .ol (cs.map .int)) (ρ1 := [.sc ns, .no, .no, .no]) (ev_fn (ev_lendS rfl (ev_aconsF (d := .int 2) rfl rfl)) rfl rfl hcs) rfl) rfl) ?_
  have go : ∃ ys, allD [.list ys] = some (.fz (.bool true)) ∧ dComp (iRg1 (dCons (dLenP 1) dNil)) (hName 2) yesT lElem [2] [.sc ns, .ol (cs.map .int), .no, .no] = .ok (.ol ys, [.sc ns, .fz (.list (cs.map .int)), .no, .no]) := by
    match cs, hc with
    | [x], _ =>
      refine ⟨[.bool true], rfl, ?_⟩
      refine Eq.trans (ev_comp (ds := [.int 0]) (ρ1 := [.sc ns, .ol [.int x], .no, .no]) (by kernel_rfl) rfl (ev_ccons (ρ1 := [.sc ns, .ol [.int x], .fz (.int 0), .no]) (ρ2 := [.sc ns, .ol [.int x], .fz (.int 0), .no]) rfl rfl (lelem_ev ns [x] 0 _ _ (.inl rfl) (by show 0 < 1; omega) (by show 1 < 1000; omega)) rfl ev_cnil)) rfl
    | [x, y], _ =>
      refine ⟨[.bool true, .bool true], rfl, ?_⟩
      refine Eq.trans (ev_comp (ds := [.int 0, .int 1]) (ρ1 := [.sc ns, .ol [.int x, .int y], .no, .no]) (by kernel_rfl) rfl (ev_ccons (ρ1 := [.sc ns, .ol [.int x, .int y], .fz (.int 0), .no]) (ρ2 := [.sc ns, .ol [.int x, .int y], .fz (.int 0), .no]) rfl rfl (lelem_ev ns [x, y] 0 _ _ (.inl rfl) (by show 0 < 2; omega) (by show 2 < 1000; omega)) rfl
        (ev_ccons (ρ1 := [.sc ns, .fz (.list [.int x, .int y]), .fz (.int 1), .no]) (ρ2 := [.sc ns, .fz (.list [.int x, .int y]), .fz (.int 1), .no]) rfl rfl (lelem_ev ns [x, y] 1 _ _ (.inr rfl) (by show 1 < 2; omega) (by show 2 < 1000; omega)) rfl ev_cnil))) rfl
    | [], h => simp at h
    | _ :: _ :: _ :: _, h => simp at h
  obtain ⟨ys, hy, hcomp⟩ := go
  exact ev_ret (ev_call (ev_cons (ev_frz hcomp) ev_nil) hy)
end K00

set_option maxHeartbeats 0
namespace K00
open PySem PySem.Spec L2 Gx
open PyProof.Rows hiding St
def noneB (K : PySem.W.Frag) (x : Str) : Bool := decide (PySem.W.nsIn K mainGlobals x = some none)
def nsB (K : PySem.W.Frag) (x : Str) (C : Addr) : Bool := decide (PySem.W.nsIn K mainGlobals x = some (some (.ref C)))
def xclB (K : PySem.W.Frag) (C : Addr) : Bool := (PySem.W.clsIn K C).isSome && (decide (PySem.W.findIn K (Value.ref C) "__getattribute__" = some (some (Value.builtin "BaseException.__getattribute__"))) && (decide (PySem.W.findIn K (Value.ref C) "__getattr__" = some none) && (decide (PySem.W.subIn K (Value.ref C) (Value.type "BaseException") = some true) && (PySem.W.hasDictIn K C && (decide (PySem.W.findIn K (Value.ref C) "__class__" = some (some (Value.builtin "object.__class__"))) && (decide (PySem.W.specialIn K (Value.builtin "object.__class__") "__get__" = some (some (Value.builtin "getset_descriptor.__get__"))) && (decide (PySem.W.takesIn K (Value.builtin "object.__class__") = some true) && decide (PySem.W.mroIn K C (Value.type "object") = some true))))))))
theorem xcl_of {K : PySem.W.Frag} {C : Addr} (h : xclB K C = true) : XCl K C := by
  unfold xclB at h
  simp only [Bool.and_eq_true, decide_eq_true_eq] at h
  obtain ⟨h1, h2, h3, h4, h5, h6, h7, h8, h9⟩ := h
  exact ⟨h1, h2, h3, h4, h5, h6, h7, h8, h9⟩
def kitB (K : PySem.W.Frag) (u : Value) (l : List (Addr × Bool)) : Bool := l.all fun q => decide (PySem.W.kitOne K (.ref q.1) u = some q.2)
def hiB (K : PySem.W.Frag) (B I : String) : Bool := match PySem.W.findCls K (Value.type B) (Value.type "type") "__init__" with
  | some (PySem.W.CFound.val v) => decide (v = Value.builtin I)
  | _ => false
theorem hi_of {K : PySem.W.Frag} {B I : String} (h : hiB K B I = true) : PySem.W.findCls K (Value.type B) (Value.type "type") "__init__" = some (PySem.W.CFound.val (Value.builtin I)) := by
  unfold hiB at h
  cases e : PySem.W.findCls K (Value.type B) (Value.type "type") "__init__" with
  | none => rw [e] at h; cases h
  | some f =>
    rw [e] at h
    cases f with
    | val v => rw [of_decide_eq_true h]
    | get _ _ _ _ => cases h
def ownB (K : PySem.W.Frag) (C f : Addr) (bm : List Value) : Bool := PySem.W.excOver K C bm && (decide (PySem.W.findIn K (Value.ref C) "__setattr__" = some (some (Value.builtin "object.__setattr__"))) && (PySem.W.keepIn K (Value.ref C) && (decide (PySem.W.findIn K (Value.ref C) "__init__" = some (some (.ref f))) && (decide (PySem.W.typeIn K (.ref f) = some (.type "function")) && (PySem.W.keepIn K (.ref f) && decide (PySem.W.findIn K (Value.ref C) "number" = some none))))))
abbrev nms : List Str := ["AttributeError", "Exception", "IndexError", "KeyError", "LookupError", "RuntimeError", "TypeError", "ValueError", "abs", "all", "bool", "enumerate", "int", "isinstance", "len", "list", "range", "str", "tuple", "zip"]
abbrev cls : List (Str × Addr) := [("NoPlace", a_NoPlace), ("NoMoment", a_NoMoment), ("NoDeed", a_NoDeed), ("NoVersion", a_NoVersion), ("NoPoint", a_NoPoint), ("NoEpoch", a_NoEpoch), ("NothingDone", a_NothingDone), ("BadLine", a_BadLine), ("CanNot", a_CanNot), ("TooMany", a_TooMany), ("Unfit", a_Unfit)]
def chk (K : PySem.W.Frag) : Bool := (nms.all (noneB K)) && ((cls.all fun q => nsB K q.1 q.2 && xclB K q.2) && (hiB K "LookupError" "LookupError.__init__" && (hiB K "ValueError" "ValueError.__init__" && (kitB K (.type "LookupError") is_LookupError && (kitB K (.type "ValueError") is_ValueError && (kitB K (.type "TypeError") is_TypeError && (kitB K (.type "KeyError") is_KeyError && (kitB K (.type "IndexError") is_IndexError && (kitB K (.type "RuntimeError") is_RuntimeError && (kitB K (.type "AttributeError") is_AttributeError && (kitB K (.type "Exception") is_Exception && (kitB K (.ref a_NoPlace) is_NoPlace && (kitB K (.ref a_NoMoment) is_NoMoment && (kitB K (.ref a_NoDeed) is_NoDeed && (kitB K (.ref a_NoVersion) is_NoVersion && (kitB K (.ref a_NoPoint) is_NoPoint && (kitB K (.ref a_NoEpoch) is_NoEpoch && (kitB K (.ref a_NothingDone) is_NothingDone && (kitB K (.ref a_BadLine) is_BadLine && (kitB K (.ref a_CanNot) is_CanNot && (kitB K (.ref a_TooMany) is_TooMany && (kitB K (.ref a_Unfit) is_Unfit && ((PySem.W.excIn K a_NothingDone bmLE "LookupError.__new__" && PySem.W.keepIn K (Value.ref a_NothingDone)) && ((PySem.W.excIn K a_CanNot bmVE "ValueError.__new__" && PySem.W.keepIn K (Value.ref a_CanNot)) && ((PySem.W.excIn K a_TooMany bmVE "ValueError.__new__" && PySem.W.keepIn K (Value.ref a_TooMany)) && ((PySem.W.excIn K a_Unfit bmVE "ValueError.__new__" && PySem.W.keepIn K (Value.ref a_Unfit))))))))))))))))))))))))))))
theorem kit_of {K : PySem.W.Frag} {u : Value} {l : List (Addr × Bool)} (hx : ∀ q ∈ l, XCl K q.1) (h : kitB K u l = true) : ∀ q ∈ l, XCl K q.1 ∧ PySem.W.kitOne K (.ref q.1) u = some q.2 := fun q hq => ⟨hx q hq, of_decide_eq_true (List.all_eq_true.mp h q hq)⟩
theorem def_mk {K : PySem.W.Frag} {h : Heap} {mg : Str → Option Value} {x : Str} {st : Stmt} {ps : List Str} {f : Addr} {od an : Option Addr} {sl : Array (Option Value)} {oc kV dc pm cd ct : Value} (X : K.In h) (G : h.Ns mainGlobals mg) (a : PySem.W.nsIn K mainGlobals x = some (some (.ref f)))
    (l : K.lookup f = some ⟨oc, od, .func (PySem.W.fnOf x x (defArgs st) (defBody st) (defScope st) .none kV dc pm an cd ct), sl⟩) (c : PySem.W.codeIn K cd x = true) (k : PySem.W.keepIn K (.ref f) = true)
    (hb : ∀ (kV doc pm : Value) (an : Option Addr) (cdv ct : Value) (us : List Value), us.length = ps.length → bindArgs (PySem.W.fnOf x x (defArgs st) (defBody st) (defScope st) Value.none kV doc pm an cdv ct) { pos := us } = pure (ps.zip us)) : DefAt K mg x st ps :=
  have F := fun_mk l c k
  ⟨f, _, F, PySem.W.mg_of X G a, F.binds hb⟩
theorem own_mkLE {K : PySem.W.Frag} {mg : Str → Option Value} {C f N : Addr} {nm q qual tx : Str} {bs : List Value} {sn : List Str} {sub : List Value} {ab : Bool} {col : Option Bool} {dd od an : Option Addr} {k0 k1 k2 k3 k5 : Option Value} {sl : Array (Option Value)} {oc kV dc pm cd ct : Value} {p1 p2 p3 p4 p5 p6 p7 p8 p9 p10 p11 p12 p13 p14 p15 : Pos}
    (i0 : PySem.W.findIn K (Value.ref C) "__init__" = some (some (.ref f))) (xL : K.lookup C = some (excClassObj nm q C N bs bmLE true sn sub ab col dd k0 k1 k2 k3 k5 "LookupError.__new__")) (l : K.lookup f = some ⟨oc, od, .func (PySem.W.fnOf "__init__" qual (defArgs (iSt "LookupError" tx p1 p2 p3 p4 p5 p6 p7 p8 p9 p10 p11 p12 p13 p14 p15)) (defBody (iSt "LookupError" tx p1 p2 p3 p4 p5 p6 p7 p8 p9 p10 p11 p12 p13 p14 p15)) (defScope (iSt "LookupError" tx p1 p2 p3 p4 p5 p6 p7 p8 p9 p10 p11 p12 p13 p14 p15)) .none kV dc pm an cd ct), sl⟩) (c : PySem.W.codeIn K cd qual = true)
    (o : ownB K C f bmLE = true) (hi : hiB K "LookupError" "LookupError.__init__" = true) (hm : mg "LookupError" = none) (hx : tx.length ≤ 100) (hl : (p4.endLine == p10.line) = true) : MkAt K mg C ∧ PySem.W.findIn K (Value.ref C) "number" = some none := by
  unfold ownB at o
  simp only [Bool.and_eq_true, decide_eq_true_eq] at o
  obtain ⟨o1, o2, o3, o4, o5, o6, o7⟩ := o
  exact ⟨mkAtLE (fun_mk l c o6) ⟨⟨nm, q, N, bs, _, sn, sub, ab, col, dd, k0, k1, k2, k3, k5, xL, fun _ => rfl⟩, o1, o2, o3⟩ hx o7 (hi_of hi) hm hl o4 o5, o7⟩
theorem own_mkVE {K : PySem.W.Frag} {mg : Str → Option Value} {C f N : Addr} {nm q qual tx : Str} {bs : List Value} {sn : List Str} {sub : List Value} {ab : Bool} {col : Option Bool} {dd od an : Option Addr} {k0 k1 k2 k3 k5 : Option Value} {sl : Array (Option Value)} {oc kV dc pm cd ct : Value} {p1 p2 p3 p4 p5 p6 p7 p8 p9 p10 p11 p12 p13 p14 p15 : Pos}
    (i0 : PySem.W.findIn K (Value.ref C) "__init__" = some (some (.ref f))) (xL : K.lookup C = some (excClassObj nm q C N bs bmVE true sn sub ab col dd k0 k1 k2 k3 k5 "ValueError.__new__")) (l : K.lookup f = some ⟨oc, od, .func (PySem.W.fnOf "__init__" qual (defArgs (iSt "ValueError" tx p1 p2 p3 p4 p5 p6 p7 p8 p9 p10 p11 p12 p13 p14 p15)) (defBody (iSt "ValueError" tx p1 p2 p3 p4 p5 p6 p7 p8 p9 p10 p11 p12 p13 p14 p15)) (defScope (iSt "ValueError" tx p1 p2 p3 p4 p5 p6 p7 p8 p9 p10 p11 p12 p13 p14 p15)) .none kV dc pm an cd ct), sl⟩) (c : PySem.W.codeIn K cd qual = true)
    (o : ownB K C f bmVE = true) (hi : hiB K "ValueError" "ValueError.__init__" = true) (hm : mg "ValueError" = none) (hx : tx.length ≤ 100) (hl : (p4.endLine == p10.line) = true) : MkAt K mg C ∧ PySem.W.findIn K (Value.ref C) "number" = some none := by
  unfold ownB at o
  simp only [Bool.and_eq_true, decide_eq_true_eq] at o
  obtain ⟨o1, o2, o3, o4, o5, o6, o7⟩ := o
  exact ⟨mkAtVE (fun_mk l c o6) ⟨⟨nm, q, N, bs, _, sn, sub, ab, col, dd, k0, k1, k2, k3, k5, xL, fun _ => rfl⟩, o1, o2, o3⟩ hx o7 (hi_of hi) hm hl o4 o5, o7⟩
theorem txt_mk {K : PySem.W.Frag} {h : Heap} {mg : Str → Option Value} (X : K.In h) (G : h.Ns mainGlobals mg) (c : chk K = true)
    (ad_box : DefAt K mg "_law_box" s_box ["script", "k"]) (ad_take : DefAt K mg "_law_take" s_take ["tin", "below_so"]) (ad_cells : DefAt K mg "_law_cells" s_cells ["script", "most_so"]) (ad_of : DefAt K mg "_law_of" s_of ["tin", "goods_so"]) (ad_same : DefAt K mg "_law_same" s_same ["got", "due"]) (ad_under : DefAt K mg "_law_under" s_under ["error_so"]) (ad_which : DefAt K mg "_law_which" s_which ["error_so"]) (ad_made_right : DefAt K mg "_law_made_right" s_made_right ["number_so"]) (ad_right : DefAt K mg "_law_right" s_right ["tin"]) (ad_law : DefAt K mg "law" s_law ["script"]) (o_NoPlace : MkAt K mg a_NoPlace ∧ PySem.W.findIn K (Value.ref a_NoPlace) "number" = some none) (o_NoMoment : MkAt K mg a_NoMoment ∧ PySem.W.findIn K (Value.ref a_NoMoment) "number" = some none) (o_NoDeed : MkAt K mg a_NoDeed ∧ PySem.W.findIn K (Value.ref a_NoDeed) "number" = some none) (o_NoVersion : MkAt K mg a_NoVersion ∧ PySem.W.findIn K (Value.ref a_NoVersion) "number" = some none) (o_NoPoint : MkAt K mg a_NoPoint ∧ PySem.W.findIn K (Value.ref a_NoPoint) "number" = some none) (o_NoEpoch : MkAt K mg a_NoEpoch ∧ PySem.W.findIn K (Value.ref a_NoEpoch) "number" = some none) (o_BadLine : MkAt K mg a_BadLine ∧ PySem.W.findIn K (Value.ref a_BadLine) "number" = some none) : Txt K mg := by
  unfold chk at c
  simp only [Bool.and_eq_true] at c
  obtain ⟨c1, c2, c3, c4, t_LookupError, t_ValueError, t_TypeError, t_KeyError, t_IndexError, t_RuntimeError, t_AttributeError, t_Exception, t_NoPlace, t_NoMoment, t_NoDeed, t_NoVersion, t_NoPoint, t_NoEpoch, t_NothingDone, t_BadLine, t_CanNot, t_TooMany, t_Unfit, z_NothingDone, z_CanNot, z_TooMany, z_Unfit⟩ := c
  have nn : ∀ x ∈ nms, mg x = none := fun x hx => PySem.W.mg_none_of X G (of_decide_eq_true (List.all_eq_true.mp c1 x hx))
  have cc : ∀ q ∈ cls, mg q.1 = some (.ref q.2) ∧ XCl K q.2 := fun q hq => by
    have z := List.all_eq_true.mp c2 q hq
    rw [Bool.and_eq_true] at z
    exact ⟨PySem.W.mg_of X G (of_decide_eq_true z.1), xcl_of z.2⟩
  have x_NoPlace := cc ("NoPlace", a_NoPlace) (by simp)
  have x_NoMoment := cc ("NoMoment", a_NoMoment) (by simp)
  have x_NoDeed := cc ("NoDeed", a_NoDeed) (by simp)
  have x_NoVersion := cc ("NoVersion", a_NoVersion) (by simp)
  have x_NoPoint := cc ("NoPoint", a_NoPoint) (by simp)
  have x_NoEpoch := cc ("NoEpoch", a_NoEpoch) (by simp)
  have x_NothingDone := cc ("NothingDone", a_NothingDone) (by simp)
  have x_BadLine := cc ("BadLine", a_BadLine) (by simp)
  have x_CanNot := cc ("CanNot", a_CanNot) (by simp)
  have x_TooMany := cc ("TooMany", a_TooMany) (by simp)
  have x_Unfit := cc ("Unfit", a_Unfit) (by simp)
  have xx : ∀ C ∈ [a_NoPlace, a_NoMoment, a_NoDeed, a_NoVersion, a_NoPoint, a_NoEpoch, a_NothingDone, a_BadLine, a_CanNot, a_TooMany, a_Unfit], XCl K C := by
    intro C hC
    simp only [List.mem_cons, List.not_mem_nil, or_false] at hC
    rcases hC with rfl | rfl | rfl | rfl | rfl | rfl | rfl | rfl | rfl | rfl | rfl
    · exact x_NoPlace.2
    · exact x_NoMoment.2
    · exact x_NoDeed.2
    · exact x_NoVersion.2
    · exact x_NoPoint.2
    · exact x_NoEpoch.2
    · exact x_NothingDone.2
    · exact x_BadLine.2
    · exact x_CanNot.2
    · exact x_TooMany.2
    · exact x_Unfit.2
  have y_LookupError : ∀ q ∈ is_LookupError, XCl K q.1 := fun q hq => xx q.1 (by simp only [List.mem_cons, List.not_mem_nil, or_false] at hq; rcases hq with rfl | rfl | rfl | rfl | rfl | rfl | rfl | rfl | rfl | rfl | rfl <;> simp)
  have y_ValueError : ∀ q ∈ is_ValueError, XCl K q.1 := fun q hq => xx q.1 (by simp only [List.mem_cons, List.not_mem_nil, or_false] at hq; rcases hq with rfl | rfl | rfl | rfl | rfl | rfl | rfl | rfl | rfl | rfl | rfl <;> simp)
  have y_TypeError : ∀ q ∈ is_TypeError, XCl K q.1 := fun q hq => xx q.1 (by simp only [List.mem_cons, List.not_mem_nil, or_false] at hq; rcases hq with rfl | rfl | rfl | rfl | rfl | rfl | rfl | rfl | rfl | rfl | rfl <;> simp)
  have y_KeyError : ∀ q ∈ is_KeyError, XCl K q.1 := fun q hq => xx q.1 (by simp only [List.mem_cons, List.not_mem_nil, or_false] at hq; rcases hq with rfl | rfl | rfl | rfl | rfl | rfl | rfl | rfl | rfl | rfl | rfl <;> simp)
  have y_IndexError : ∀ q ∈ is_IndexError, XCl K q.1 := fun q hq => xx q.1 (by simp only [List.mem_cons, List.not_mem_nil, or_false] at hq; rcases hq with rfl | rfl | rfl | rfl | rfl | rfl | rfl | rfl | rfl | rfl | rfl <;> simp)
  have y_RuntimeError : ∀ q ∈ is_RuntimeError, XCl K q.1 := fun q hq => xx q.1 (by simp only [List.mem_cons, List.not_mem_nil, or_false] at hq; rcases hq with rfl | rfl | rfl | rfl | rfl | rfl | rfl | rfl | rfl | rfl | rfl <;> simp)
  have y_AttributeError : ∀ q ∈ is_AttributeError, XCl K q.1 := fun q hq => xx q.1 (by simp only [List.mem_cons, List.not_mem_nil, or_false] at hq; rcases hq with rfl | rfl | rfl | rfl | rfl | rfl | rfl | rfl | rfl | rfl | rfl <;> simp)
  have y_Exception : ∀ q ∈ is_Exception, XCl K q.1 := fun q hq => xx q.1 (by simp only [List.mem_cons, List.not_mem_nil, or_false] at hq; rcases hq with rfl | rfl | rfl | rfl | rfl | rfl | rfl | rfl | rfl | rfl | rfl <;> simp)
  have y_NoPlace : ∀ q ∈ is_NoPlace, XCl K q.1 := fun q hq => xx q.1 (by simp only [List.mem_cons, List.not_mem_nil, or_false] at hq; rcases hq with rfl | rfl | rfl | rfl | rfl | rfl | rfl | rfl | rfl | rfl | rfl <;> simp)
  have y_NoMoment : ∀ q ∈ is_NoMoment, XCl K q.1 := fun q hq => xx q.1 (by simp only [List.mem_cons, List.not_mem_nil, or_false] at hq; rcases hq with rfl | rfl | rfl | rfl | rfl | rfl | rfl | rfl | rfl | rfl | rfl <;> simp)
  have y_NoDeed : ∀ q ∈ is_NoDeed, XCl K q.1 := fun q hq => xx q.1 (by simp only [List.mem_cons, List.not_mem_nil, or_false] at hq; rcases hq with rfl | rfl | rfl | rfl | rfl | rfl | rfl | rfl | rfl | rfl | rfl <;> simp)
  have y_NoVersion : ∀ q ∈ is_NoVersion, XCl K q.1 := fun q hq => xx q.1 (by simp only [List.mem_cons, List.not_mem_nil, or_false] at hq; rcases hq with rfl | rfl | rfl | rfl | rfl | rfl | rfl | rfl | rfl | rfl | rfl <;> simp)
  have y_NoPoint : ∀ q ∈ is_NoPoint, XCl K q.1 := fun q hq => xx q.1 (by simp only [List.mem_cons, List.not_mem_nil, or_false] at hq; rcases hq with rfl | rfl | rfl | rfl | rfl | rfl | rfl | rfl | rfl | rfl | rfl <;> simp)
  have y_NoEpoch : ∀ q ∈ is_NoEpoch, XCl K q.1 := fun q hq => xx q.1 (by simp only [List.mem_cons, List.not_mem_nil, or_false] at hq; rcases hq with rfl | rfl | rfl | rfl | rfl | rfl | rfl | rfl | rfl | rfl | rfl <;> simp)
  have y_NothingDone : ∀ q ∈ is_NothingDone, XCl K q.1 := fun q hq => xx q.1 (by simp only [List.mem_cons, List.not_mem_nil, or_false] at hq; rcases hq with rfl | rfl | rfl | rfl | rfl | rfl | rfl | rfl | rfl | rfl | rfl <;> simp)
  have y_BadLine : ∀ q ∈ is_BadLine, XCl K q.1 := fun q hq => xx q.1 (by simp only [List.mem_cons, List.not_mem_nil, or_false] at hq; rcases hq with rfl | rfl | rfl | rfl | rfl | rfl | rfl | rfl | rfl | rfl | rfl <;> simp)
  have y_CanNot : ∀ q ∈ is_CanNot, XCl K q.1 := fun q hq => xx q.1 (by simp only [List.mem_cons, List.not_mem_nil, or_false] at hq; rcases hq with rfl | rfl | rfl | rfl | rfl | rfl | rfl | rfl | rfl | rfl | rfl <;> simp)
  have y_TooMany : ∀ q ∈ is_TooMany, XCl K q.1 := fun q hq => xx q.1 (by simp only [List.mem_cons, List.not_mem_nil, or_false] at hq; rcases hq with rfl | rfl | rfl | rfl | rfl | rfl | rfl | rfl | rfl | rfl | rfl <;> simp)
  have y_Unfit : ∀ q ∈ is_Unfit, XCl K q.1 := fun q hq => xx q.1 (by simp only [List.mem_cons, List.not_mem_nil, or_false] at hq; rcases hq with rfl | rfl | rfl | rfl | rfl | rfl | rfl | rfl | rfl | rfl | rfl <;> simp)
  exact {
    bt := ⟨nn "AttributeError" (by simp), nn "Exception" (by simp), nn "IndexError" (by simp), nn "KeyError" (by simp), nn "LookupError" (by simp), nn "RuntimeError" (by simp), nn "TypeError" (by simp), nn "ValueError" (by simp), nn "abs" (by simp), nn "all" (by simp), nn "bool" (by simp), nn "enumerate" (by simp), nn "int" (by simp), nn "isinstance" (by simp), nn "len" (by simp), nn "list" (by simp), nn "range" (by simp), nn "str" (by simp), nn "tuple" (by simp), nn "zip" (by simp)⟩
    d_box := ad_box
    d_take := ad_take
    d_cells := ad_cells
    d_of := ad_of
    d_same := ad_same
    d_under := ad_under
    d_which := ad_which
    d_made_right := ad_made_right
    d_right := ad_right
    d_law := ad_law
    nums := fun C hC => by
      simp only [List.mem_cons, List.not_mem_nil, or_false] at hC
      rcases hC with rfl | rfl | rfl | rfl | rfl | rfl | rfl
      · exact ⟨x_NoPlace.2, o_NoPlace.2⟩
      · exact ⟨x_NoMoment.2, o_NoMoment.2⟩
      · exact ⟨x_NoDeed.2, o_NoDeed.2⟩
      · exact ⟨x_NoVersion.2, o_NoVersion.2⟩
      · exact ⟨x_NoPoint.2, o_NoPoint.2⟩
      · exact ⟨x_NoEpoch.2, o_NoEpoch.2⟩
      · exact ⟨x_BadLine.2, o_BadLine.2⟩
    g_NoPlace := x_NoPlace.1
    m_NoPlace := o_NoPlace.1
    g_NoMoment := x_NoMoment.1
    m_NoMoment := o_NoMoment.1
    g_NoDeed := x_NoDeed.1
    m_NoDeed := o_NoDeed.1
    g_NoVersion := x_NoVersion.1
    m_NoVersion := o_NoVersion.1
    g_NoPoint := x_NoPoint.1
    m_NoPoint := o_NoPoint.1
    g_NoEpoch := x_NoEpoch.1
    m_NoEpoch := o_NoEpoch.1
    g_NothingDone := x_NothingDone.1
    m_NothingDone := ⟨F.excBase_LookupError, z_NothingDone.1, z_NothingDone.2⟩
    g_BadLine := x_BadLine.1
    m_BadLine := o_BadLine.1
    g_CanNot := x_CanNot.1
    m_CanNot := ⟨F.excBase_ValueError, z_CanNot.1, z_CanNot.2⟩
    g_TooMany := x_TooMany.1
    m_TooMany := ⟨F.excBase_ValueError, z_TooMany.1, z_TooMany.2⟩
    g_Unfit := x_Unfit.1
    m_Unfit := ⟨F.excBase_ValueError, z_Unfit.1, z_Unfit.2⟩
    is_LookupError := kit_of y_LookupError t_LookupError
    is_ValueError := kit_of y_ValueError t_ValueError
    is_TypeError := kit_of y_TypeError t_TypeError
    is_KeyError := kit_of y_KeyError t_KeyError
    is_IndexError := kit_of y_IndexError t_IndexError
    is_RuntimeError := kit_of y_RuntimeError t_RuntimeError
    is_AttributeError := kit_of y_AttributeError t_AttributeError
    is_Exception := kit_of y_Exception t_Exception
    is_NoPlace := kit_of y_NoPlace t_NoPlace
    is_NoMoment := kit_of y_NoMoment t_NoMoment
    is_NoDeed := kit_of y_NoDeed t_NoDeed
    is_NoVersion := kit_of y_NoVersion t_NoVersion
    is_NoPoint := kit_of y_NoPoint t_NoPoint
    is_NoEpoch := kit_of y_NoEpoch t_NoEpoch
    is_NothingDone := kit_of y_NothingDone t_NothingDone
    is_BadLine := kit_of y_BadLine t_BadLine
    is_CanNot := kit_of y_CanNot t_CanNot
    is_TooMany := kit_of y_TooMany t_TooMany
    is_Unfit := kit_of y_Unfit t_Unfit
  }
def spLaw (K : PySem.W.Frag) : Sp := fun vs H Q _ => ∃ (a : Addr) (ns : List Int), vs = [.ref a] ∧ SqL K H a (ns.map V.int) ∧ ns.length ≤ 63 ∧ ∀ H', Q (.bl true) H'
theorem law_sp {K : PySem.W.Frag} {mg : Str → Option Value} (vs : List V) (H : Hp) (Q : VK) (E : XK) (h : spLaw K vs H Q E) : spD K mg 1 den_law vs H Q E := by
  obtain ⟨a, ns, rfl, hs, hl, q⟩ := h
  refine ⟨rfl, [.sc ns], H, ⟨Same.refl H, fun i d e => ?_, fun i xs e => ?_, fun i ms e => ?_, fun i j p hi => ?_, rfl⟩, fun i xs e => ?_, ?_⟩
  · cases i <;> simp at e
  · cases i <;> simp at e
  · cases i with
    | zero => simp at e; subst e; exact ⟨a, rfl, hs⟩
    | succ i => simp at e
  · rcases hi with ⟨xs, e⟩ | ⟨xs, e⟩ <;> (cases i <;> simp at e)
  · cases i <;> simp at e
  · rw [law_ev ns hl]
    intro v F' H' S ro
    have ro' : Dq F' v (.bool true) := ro
    cases ro' with
    | bl _ => exact q H'
theorem fin {P : Program} {w : World} {K : PySem.W.Frag} {mg : Str → Option Value} {fa : Addr} (T : Txt K mg) (hfa : mg "law" = some (.ref fa)) : ∃ fd : FuncData, (∀ (s : Shared) (v : Value), BindsTo s fd ⟨[v], []⟩ [("script", v)]) ∧ ∀ base : Heap, FnOk P w K mg base (L2.CX P w) 14 fa fd ["script"] (spLaw K) := by
  obtain ⟨f, fd, Fn, hm, hb⟩ := T.d_law.ex
  have e := hfa.symm.trans hm
  cases e
  refine ⟨fd, fun s v => ?_, fun base => ?_⟩
  · obtain ⟨oc, od, kV, doc, pm, an, cdv, ct, osl, e, _, _⟩ := Fn.ex
    subst e
    exact .of_eq rfl
  · have F1 : FnOk P w K mg base (L2.CX P w) 14 fa fd ["script"] (spD K mg 1 den_law) := ok_law T fa fd Fn
    exact ⟨fun vs H Q E h => (by obtain ⟨a, ns, rfl, _⟩ := h; rfl), fun A outer s H args us vs Q E hr e hb hv h => F1.run A outer s H args us vs Q E hr e hb hv (law_sp vs H Q E h)⟩
end K00
open PySem PySem.W PyProof.Rows
theorem PySem.Challenge.cw_hintring_k00_errors_made_by_hand_holds : PySem.Challenge.rw_hintring_k00_errors_made_by_hand.Holds := by
  w_on; o_law; k_head; (case hw => w_witness2)
  k_fill
  refine L2.walk_of (l := PySem.Challenge.rw_hintring_k00_errors_made_by_hand) (n := 63) (k := 14) (x := "script") (CX := fun w => L2.CX PySem.Challenge.rw_hintring_k00_errors_made_by_hand.prog w) (sp := fun w => K00.spLaw _) rfl (by decide) rfl ⟨rfl, by decide, by decide⟩ (fun w h Y => PySem.W.kIn_of Y) ?F (fun _ _ a ns hl _ hS => ⟨a, ns, rfl, hS, hl, fun _ => rfl⟩) (fun _ _ _ _ _ ⟨_, _, _, _, _, _, _, _, _, _, _, _, z⟩ => z)
  case F =>
    intro w mg fa h KX G hmg
    have T := @K00.txt_mk _ _ _ KX G (by kernel_rfl)
      (by refine' K00.def_mk KX G ?za ?zl ?zc ?zk (fun _ _ _ _ _ _ us hl => match us, hl with | [_, _], _ => rfl); (case za => k_is); (case zl => k_is); (case zc => k_is); (case zk => k_is))
      (by refine' K00.def_mk KX G ?za ?zl ?zc ?zk (fun _ _ _ _ _ _ us hl => match us, hl with | [_, _], _ => rfl); (case za => k_is); (case zl => k_is); (case zc => k_is); (case zk => k_is))
      (by refine' K00.def_mk KX G ?za ?zl ?zc ?zk (fun _ _ _ _ _ _ us hl => match us, hl with | [_, _], _ => rfl); (case za => k_is); (case zl => k_is); (case zc => k_is); (case zk => k_is))
      (by refine' K00.def_mk KX G ?za ?zl ?zc ?zk (fun _ _ _ _ _ _ us hl => match us, hl with | [_, _], _ => rfl); (case za => k_is); (case zl => k_is); (case zc => k_is); (case zk => k_is))
      (by refine' K00.def_mk KX G ?za ?zl ?zc ?zk (fun _ _ _ _ _ _ us hl => match us, hl with | [_, _], _ => rfl); (case za => k_is); (case zl => k_is); (case zc => k_is); (case zk => k_is))
      (by refine' K00.def_mk KX G ?za ?zl ?zc ?zk (fun _ _ _ _ _ _ us hl => match us, hl with | [_], _ => rfl); (case za => k_is); (case zl => k_is); (case zc => k_is); (case zk => k_is))
      (by refine' K00.def_mk KX G ?za ?zl ?zc ?zk (fun _ _ _ _ _ _ us hl => match us, hl with | [_], _ => rfl); (case za => k_is); (case zl => k_is); (case zc => k_is); (case zk => k_is))
      (by refine' K00.def_mk KX G ?za ?zl ?zc ?zk (fun _ _ _ _ _ _ us hl => match us, hl with | [_], _ => rfl); (case za => k_is); (case zl => k_is); (case zc => k_is); (case zk => k_is))
      (by refine' K00.def_mk KX G ?za ?zl ?zc ?zk (fun _ _ _ _ _ _ us hl => match us, hl with | [_], _ => rfl); (case za => k_is); (case zl => k_is); (case zc => k_is); (case zk => k_is))
      (by refine' K00.def_mk KX G ?za ?zl ?zc ?zk (fun _ _ _ _ _ _ us hl => match us, hl with | [_], _ => rfl); (case za => k_is); (case zl => k_is); (case zc => k_is); (case zk => k_is))
      (by refine' K00.own_mkLE (p15 := ⟨0, 0, 0, 0⟩) ?zi0 ?zx ?zl ?zc ?zo ?zi ?zm ?zt ?zp; (case zi0 => k_is); (case zx => k_is); (case zl => k_is); (case zc => k_is); (case zo => kernel_rfl); (case zi => kernel_rfl); (case zm => exact PySem.W.mg_none_of KX G (by k_is)); (case zt => decide +kernel); (case zp => rfl))
      (by refine' K00.own_mkLE (p15 := ⟨0, 0, 0, 0⟩) ?zi0 ?zx ?zl ?zc ?zo ?zi ?zm ?zt ?zp; (case zi0 => k_is); (case zx => k_is); (case zl => k_is); (case zc => k_is); (case zo => kernel_rfl); (case zi => kernel_rfl); (case zm => exact PySem.W.mg_none_of KX G (by k_is)); (case zt => decide +kernel); (case zp => rfl))
      (by refine' K00.own_mkLE (p15 := ⟨0, 0, 0, 0⟩) ?zi0 ?zx ?zl ?zc ?zo ?zi ?zm ?zt ?zp; (case zi0 => k_is); (case zx => k_is); (case zl => k_is); (case zc => k_is); (case zo => kernel_rfl); (case zi => kernel_rfl); (case zm => exact PySem.W.mg_none_of KX G (by k_is)); (case zt => decide +kernel); (case zp => rfl))
      (by refine' K00.own_mkLE (p15 := ⟨0, 0, 0, 0⟩) ?zi0 ?zx ?zl ?zc ?zo ?zi ?zm ?zt ?zp; (case zi0 => k_is); (case zx => k_is); (case zl => k_is); (case zc => k_is); (case zo => kernel_rfl); (case zi => kernel_rfl); (case zm => exact PySem.W.mg_none_of KX G (by k_is)); (case zt => decide +kernel); (case zp => rfl))
      (by refine' K00.own_mkLE (p15 := ⟨0, 0, 0, 0⟩) ?zi0 ?zx ?zl ?zc ?zo ?zi ?zm ?zt ?zp; (case zi0 => k_is); (case zx => k_is); (case zl => k_is); (case zc => k_is); (case zo => kernel_rfl); (case zi => kernel_rfl); (case zm => exact PySem.W.mg_none_of KX G (by k_is)); (case zt => decide +kernel); (case zp => rfl))
      (by refine' K00.own_mkLE (p15 := ⟨0, 0, 0, 0⟩) ?zi0 ?zx ?zl ?zc ?zo ?zi ?zm ?zt ?zp; (case zi0 => k_is); (case zx => k_is); (case zl => k_is); (case zc => k_is); (case zo => kernel_rfl); (case zi => kernel_rfl); (case zm => exact PySem.W.mg_none_of KX G (by k_is)); (case zt => decide +kernel); (case zp => rfl))
      (by refine' K00.own_mkVE (p15 := ⟨0, 0, 0, 0⟩) ?zi0 ?zx ?zl ?zc ?zo ?zi ?zm ?zt ?zp; (case zi0 => k_is); (case zx => k_is); (case zl => k_is); (case zc => k_is); (case zo => kernel_rfl); (case zi => kernel_rfl); (case zm => exact PySem.W.mg_none_of KX G (by k_is)); (case zt => decide +kernel); (case zp => rfl))
    obtain ⟨fd, b, ok⟩ := K00.fin (P := PySem.Challenge.rw_hintring_k00_errors_made_by_hand.prog) (w := w) T hmg
    exact ⟨fd, b, fun base _ _ => ok base⟩
