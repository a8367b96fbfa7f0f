import PyProof.Rows.All
import Wide.All
import OpenK.AllK
import Wide.FinOn
import PySem.Challenge.RW_hintring_k80_whole_ranges_compared_and_m
import HandS.ForMost
import HandS.ForExc
import HandS.Flow
import HandS.ExcInit
import KE.KDictKeyed
import HandS.Conv
import HandS.TupAny
import HandS.IsInst
import HandS.Style
import HandS.Wide
import HandS.Zip
import HandS.Rev
import HandS.RevRange
import HandS.Defaults
import HandS.ExcIs
import HandS.ExcValue
import HandS.ExcField
import HandS.ExcOwn
import HandS.ExcSuper
import HandS.ExcBuiltin
import HandS.ForSpec
import KE.KExcIs
import HandS.FStr
import HandS.Deep
import HandS.WideBits
import KE.SortData
import HandS.TupLe
import HandS.SortOrd
import HandS.SortRule
import HandS.TupSets
import HandS.Strs
import KE.GoesMore
import HandS.TryMany
import HandS.TupMul
import HandS.TryOnly
import HandS.DictComp
import KE.DataMinMax
import PyProof.Rows.RowBridgeK
import HandS.SetKeys
import HandS.WordsDict
import HandS.More
import HandS.SortKw
import KE.KDictSum
import KE.KDictCopyH
import HandS.ListItems
import HandS.Small
set_option Elab.async false
set_option linter.all false
set_option maxRecDepth 100000
set_option maxHeartbeats 1000000
/-! G1: plain data in the place of heaps: what a slot stands for, steps, results, and how they are put together. -/
namespace Gx
open PySem PySem.Spec L2
open PyProof.Rows hiding St

structure Ex where
  cls : Str
  arg : Option Int
inductive Rs (α : Type) where
  | st
  | ex (e : Ex)
  | ok (a : α)
inductive Sc where
  | l (ns : List Int)
  | t (ns : List Int)
inductive Cn where
  | l (xs : List PyData)
  | d (ps : List (PyData × PyData))
  | k (ps : List (PyData × PyData))
inductive En where
  | no
  | fz (d : PyData)
  | oo (c : Cn)
  | bo (c : Cn)
  | sc (ns : Sc)
abbrev En.ol (xs : List PyData) : En := .oo (.l xs)
abbrev En.bl (xs : List PyData) : En := .bo (.l xs)
abbrev En.od (ps : List (PyData × PyData)) : En := .oo (.d ps)
abbrev En.bd (ps : List (PyData × PyData)) : En := .bo (.d ps)
abbrev Ev := List En
inductive Rv where
  | fz (d : PyData)
  | oo (c : Cn)
abbrev Rv.ol (xs : List PyData) : Rv := .oo (.l xs)
abbrev Rv.od (ps : List (PyData × PyData)) : Rv := .oo (.d ps)
abbrev En.ok' (ps : List (PyData × PyData)) : En := .oo (.k ps)
abbrev En.bk' (ps : List (PyData × PyData)) : En := .bo (.k ps)
abbrev Rv.ok' (ps : List (PyData × PyData)) : Rv := .oo (.k ps)
abbrev dicD (ps : List (PyData × PyData)) : PyData := .dict ((.none, .none) :: ps)
abbrev dikD (ps : List (PyData × PyData)) : PyData := .dict ((.bool false, .none) :: ps)
def Cn.v : Cn → PyData
  | .l xs => .list xs
  | .d ps => dicD ps
  | .k ps => dikD ps
def Rv.d : Rv → PyData
  | .fz d => d
  | .oo (.l xs) => .list xs
  | .oo (.d ps) => dicD ps
  | .oo (.k ps) => dikD ps
def Rv.en : Rv → En
  | .fz d => .fz d
  | .oo c => .oo c
theorem rv_d (c : Cn) : (Rv.oo c).d = c.v := by cases c <;> rfl
inductive Fl where
  | nx
  | rt (r : Rv)
  | bk
  | ct
abbrev Dn (α : Type) := Ev → Rs (α × Ev)
def ret {α : Type} (a : α) : Dn α := fun ρ => .ok (a, ρ)
def bnd {α β : Type} (f : Dn α) (g : α → Dn β) : Dn β := fun ρ => match f ρ with
  | .st => .st
  | .ex e => .ex e
  | .ok (a, ρ') => g a ρ'
def lft {α : Type} : Option α → Dn α
  | none => fun _ => .st
  | some a => fun ρ => .ok (a, ρ)

/-! ### data over a heap -/
abbrev exD0 (C : Addr) : PyData := .dict [(.int (C : Int), .none)]
abbrev exD1 (C : Addr) (n : Int) : PyData := .dict [(.int (C : Int), .int n)]
abbrev rngD (i j : Int) : PyData := .dict [(.bool true, .none), (.int i, .int j)]
def keyD : Key → PyData
  | .inl i => .int i
  | .inr x => .str x
mutual
def toK : PyData → Option NestedKey
  | .none => some .none
  | .int i => some (.num i)
  | .tuple ds => (toKs ds).map .tup
  | _ => none
def toKs : List PyData → Option (List NestedKey)
  | [] => some []
  | d :: ds => match toK d, toKs ds with
    | some k, some ks => some (k :: ks)
    | _, _ => none
end
def keyT : PyData → Option NestedKey
  | .tuple ds => (toK (.tuple ds)).bind fun k => if k.depth ≤ 8 then some k else none
  | _ => none
abbrev KRow := NestedKey × Addr × V
def KeyO (p : Addr) (rows : List KRow) : HO := .ext fun h => rows.length ≤ sizeLine ∧ (p == sysModules) = false ∧ ∃ (P : Program) (w : World) (xs : List (NestedKey × Addr × Value)),
  Paired (fun (r : KRow) (x : NestedKey × Addr × Value) => r.1 = x.1 ∧ r.2.1 = x.2.1 ∧ RelV r.2.2 x.2.2) rows xs ∧ ∃ o es ep, h.get? p = some o ∧ o.ExactDict ∧ o.data = .dict es ep ∧ es.toList = xs.map (entryOfKey (nestedKind P w)) ∧ (xs.map (·.1)).Nodup
mutual
inductive Dq (H : Hp) : V → PyData → Prop
  | non : Dq H .non .none
  | bl (b : Bool) : Dq H (.bl b) (.bool b)
  | int (i : Int) : Dq H (.int i) (.int i)
  | str (x : Str) : Dq H (.str x) (.str x)
  | lst {a : Addr} {xs : List V} {ds : List PyData} : H a = some (.lst xs) → DqAll H xs ds → Dq H (.ref a) (.list ds)
  | tup {a : Addr} {xs : List V} {ds : List PyData} : H a = some (.tup xs) → DqAll H xs ds → Dq H (.ref a) (.tuple ds)
  | ex0 {a C : Addr} : H a = some (exo a C none) → Dq H (.ref a) (exD0 C)
  | ex1 {a C d : Addr} {n : Int} : H a = some (exo a C (some d)) → H d = some (exd d [(("number" : Str), .int n)]) → Dq H (.ref a) (exD1 C n)
  | dic {a : Addr} {kvs : List (Key × V)} {ps : List (PyData × PyData)} : H a = some (.dK kvs) → DqKv H kvs ps → Dq H (.ref a) (.dict ((.none, .none) :: ps))
  | rng {a : Addr} {i j : Int} : H a = some (.rng i j) → Dq H (.ref a) (rngD i j)
  | dik {a : Addr} {rows : List KRow} {ps : List (PyData × PyData)} : H a = some (KeyO a rows) → DqRw H rows ps → Dq H (.ref a) (.dict ((.bool false, .none) :: ps))
inductive DqRw (H : Hp) : List KRow → List (PyData × PyData) → Prop
  | nil : DqRw H [] []
  | cons {k : NestedKey} {a : Addr} {v : V} {kd d : PyData} {rows : List KRow} {ps : List (PyData × PyData)} : keyT kd = some k → Dq H (.ref a) kd → Dq H v d → DqRw H rows ps → DqRw H ((k, a, v) :: rows) ((kd, d) :: ps)
inductive DqAll (H : Hp) : List V → List PyData → Prop
  | nil : DqAll H [] []
  | cons {v : V} {vs : List V} {d : PyData} {ds : List PyData} : Dq H v d → DqAll H vs ds → DqAll H (v :: vs) (d :: ds)
inductive DqKv (H : Hp) : List (Key × V) → List (PyData × PyData) → Prop
  | nil : DqKv H [] []
  | cons {k : Key} {v : V} {d : PyData} {kvs : List (Key × V)} {ps : List (PyData × PyData)} : Dq H v d → DqKv H kvs ps → DqKv H ((k, v) :: kvs) ((keyD k, d) :: ps)
end
mutual
def cln : PyData → Bool
  | .list ds => clns ds
  | .tuple ds => clns ds
  | .dict _ => false
  | _ => true
def clns : List PyData → Bool
  | [] => true
  | d :: ds => cln d && clns ds
end
mutual
theorem dq_dp {K : PySem.W.Frag} {H : Hp} : ∀ (d : PyData) (v : V), cln d = true → Dq H v d → Dp K H v d
  | .none, _, _, h => by cases h; exact .non
  | .bool b, _, _, h => by cases h; exact .bl b
  | .int i, _, _, h => by cases h; exact .int i
  | .str x, _, _, h => by cases h; exact .str x
  | .list ds, _, c, h => by
    cases h with
    | lst hs ha => exact .lst (.of hs) (dqs_dp ds _ (by unfold cln at c; exact c) ha)
  | .tuple ds, _, c, h => by
    cases h with
    | tup hs ha => exact .tup (.of hs) (dqs_dp ds _ (by unfold cln at c; exact c) ha)
  | .dict _, _, c, h => by unfold cln at c; cases c
theorem dqs_dp {K : PySem.W.Frag} {H : Hp} : ∀ (ds : List PyData) (vs : List V), clns ds = true → DqAll H vs ds → DpAll K H vs ds
  | [], _, _, h => by cases h; exact .nil
  | d :: ds, _, c, h => by
    cases h with
    | cons h1 h2 =>
      unfold clns at c
      rw [Bool.and_eq_true] at c
      exact .cons (dq_dp d _ c.1 h1) (dqs_dp ds _ c.2 h2)
end
theorem same_T {K : PySem.W.Frag} {H H' : Hp} {a : Addr} {xs : List V} (e : Same H H') (h : SqT K H a xs) : SqT K H' a xs := by
  rcases h with (h | ⟨o, h⟩) | h
  · exact .inl (.inl (e _ _ h))
  · exact .inl (.inr ⟨o, e _ _ h⟩)
  · exact .inr h
mutual
theorem dp_mono {H H' : Hp} (e : Same H H') : ∀ (d : PyData) (v : V), Dq H v d → Dq H' v d
  | .none, _, h => by cases h; exact .non
  | .bool b, _, h => by cases h; exact .bl b
  | .int i, _, h => by cases h; exact .int i
  | .str x, _, h => by cases h; exact .str x
  | .list ds, _, h => by
    cases h with
    | lst hs ha => exact .lst (e _ _ hs) (dps_mono e ds _ ha)
  | .tuple ds, _, h => by
    cases h with
    | tup hs ha => exact .tup (e _ _ hs) (dps_mono e ds _ ha)
  | .dict _, _, h => by
    cases h with
    | ex0 h1 => exact .ex0 (e _ _ h1)
    | ex1 h1 h2 => exact .ex1 (e _ _ h1) (e _ _ h2)
    | dic h1 h2 => exact .dic (e _ _ h1) (dpk_mono e _ _ h2)
    | rng h1 => exact .rng (e _ _ h1)
    | dik h1 h2 => exact .dik (e _ _ h1) (dpr_mono e _ _ h2)
theorem dpr_mono {H H' : Hp} (e : Same H H') : ∀ (ps : List (PyData × PyData)) (rows : List KRow), DqRw H rows ps → DqRw H' rows ps
  | [], _, h => by cases h; exact .nil
  | (kd, d) :: ps, _, h => by
    cases h with
    | cons h1 h2 h3 h4 => exact .cons h1 (dp_mono e kd _ h2) (dp_mono e d _ h3) (dpr_mono e ps _ h4)
theorem dps_mono {H H' : Hp} (e : Same H H') : ∀ (ds : List PyData) (vs : List V), DqAll H vs ds → DqAll H' vs ds
  | [], _, h => by cases h; exact .nil
  | d :: ds, _, h => by
    cases h with
    | cons h1 h2 => exact .cons (dp_mono e d _ h1) (dps_mono e ds _ h2)
theorem dpk_mono {H H' : Hp} (e : Same H H') : ∀ (ps : List (PyData × PyData)) (kvs : List (Key × V)), DqKv H kvs ps → DqKv H' kvs ps
  | [], _, h => by cases h; exact .nil
  | (_, d) :: ps, _, h => by
    cases h with
    | cons h1 h2 => exact .cons (dp_mono e d _ h1) (dpk_mono e ps _ h2)
end
theorem dps_len {H : Hp} : ∀ {vs : List V} {ds : List PyData}, DqAll H vs ds → vs.length = ds.length
  | [], _, h => by cases h; rfl
  | v :: vs, _, h => by
    cases h with
    | cons h1 h2 => simp [dps_len h2]
theorem dps_get {H : Hp} : ∀ {vs : List V} {ds : List PyData} {i : Nat} {d : PyData}, DqAll H vs ds → ds[i]? = some d → ∃ v, vs[i]? = some v ∧ Dq H v d
  | [], _, i, d, h, e => by cases h; simp at e
  | v :: vs, _, 0, d, h, e => by
    cases h with
    | cons h1 h2 =>
      simp at e
      subst e
      exact ⟨v, rfl, h1⟩
  | v :: vs, _, i + 1, d, h, e => by
    cases h with
    | cons h1 h2 =>
      obtain ⟨u, e1, e2⟩ := dps_get (i := i) h2 (by simpa using e)
      exact ⟨u, by simpa using e1, e2⟩
theorem dps_app {H : Hp} : ∀ {vs : List V} {ds : List PyData} {us : List V} {es : List PyData}, DqAll H vs ds → DqAll H us es → DqAll H (vs ++ us) (ds ++ es)
  | [], _, us, es, h, q => by cases h; exact q
  | v :: vs, _, us, es, h, q => by
    cases h with
    | cons h1 h2 => exact .cons h1 (dps_app h2 q)
theorem dps_one {H : Hp} {v : V} {d : PyData} (h : Dq H v d) : DqAll H [v] [d] := .cons h .nil
theorem dps_set {H : Hp} {v : V} {d : PyData} (q : Dq H v d) : ∀ {vs : List V} {ds : List PyData} (i : Nat), DqAll H vs ds → DqAll H (vs.set i v) (ds.set i d)
  | [], _, i, h => by cases h; exact .nil
  | u :: vs, _, 0, h => by
    cases h with
    | cons h1 h2 => exact .cons q h2
  | u :: vs, _, i + 1, h => by
    cases h with
    | cons h1 h2 => exact .cons h1 (dps_set q i h2)
theorem dps_take {H : Hp} : ∀ {vs : List V} {ds : List PyData} (n : Nat), DqAll H vs ds → DqAll H (vs.take n) (ds.take n)
  | _, _, 0, h => by simp; exact .nil
  | [], _, n + 1, h => by cases h; simp; exact .nil
  | v :: vs, _, n + 1, h => by
    cases h with
    | cons h1 h2 => exact .cons h1 (dps_take n h2)
theorem dps_drop {H : Hp} : ∀ {vs : List V} {ds : List PyData} (n : Nat), DqAll H vs ds → DqAll H (vs.drop n) (ds.drop n)
  | _, _, 0, h => by simpa using h
  | [], _, n + 1, h => by cases h; simp; exact .nil
  | v :: vs, _, n + 1, h => by
    cases h with
    | cons h1 h2 => simpa using dps_drop n h2
theorem dps_erase {H : Hp} : ∀ {vs : List V} {ds : List PyData} (i : Nat), DqAll H vs ds → DqAll H (vs.eraseIdx i) (ds.eraseIdx i)
  | [], _, i, h => by cases h; exact .nil
  | v :: vs, _, 0, h => by
    cases h with
    | cons h1 h2 => exact h2
  | v :: vs, _, i + 1, h => by
    cases h with
    | cons h1 h2 => exact .cons h1 (dps_erase i h2)
theorem dps_rep {H : Hp} {vs : List V} {ds : List PyData} (h : DqAll H vs ds) : ∀ n : Nat, DqAll H (List.replicate n vs).flatten (List.replicate n ds).flatten
  | 0 => .nil
  | n + 1 => by
    rw [List.replicate_succ, List.replicate_succ, List.flatten_cons, List.flatten_cons]
    exact dps_app h (dps_rep h n)

/-! ### whose a list is -/
def Cn.at (F : Hp) (p : Addr) (o : HO) : Cn → Prop
  | .l xs => ∃ vs, o = .lst vs ∧ DqAll F vs xs
  | .d ps => ∃ kvs, o = .dK kvs ∧ DqKv F kvs ps
  | .k ps => ∃ rows, o = KeyO p rows ∧ DqRw F rows ps
theorem cn_mono {F F' : Hp} (e : Same F F') {p : Addr} {o : HO} : ∀ {c : Cn}, c.at F p o → c.at F' p o
  | .l xs, ⟨vs, h1, h2⟩ => ⟨vs, h1, dps_mono e xs vs h2⟩
  | .d ps, ⟨kvs, h1, h2⟩ => ⟨kvs, h1, dpk_mono e ps kvs h2⟩
  | .k ps, ⟨rows, h1, h2⟩ => ⟨rows, h1, dpr_mono e ps rows h2⟩
theorem cn_dq {F : Hp} {p : Addr} {o : HO} (e : F p = some o) : ∀ {c : Cn}, c.at F p o → Dq F (.ref p) c.v
  | .l _, ⟨vs, h1, h2⟩ => by subst h1; exact .lst e h2
  | .d _, ⟨kvs, h1, h2⟩ => by subst h1; exact .dic e h2
  | .k _, ⟨rows, h1, h2⟩ => by subst h1; exact .dik e h2
def OwnL (ρ : Ev) (σ : St) (p : Addr) : Prop := ∃ (i : Nat) (c : Cn), ρ[i]? = some (.oo c) ∧ σ[i]? = some (some (.ref p))
def OwnB (ρ : Ev) (σ : St) (p : Addr) : Prop := ∃ (i : Nat) (c : Cn), ρ[i]? = some (.bo c) ∧ σ[i]? = some (some (.ref p))
def Own (ρ : Ev) (σ : St) (p : Addr) : Prop := OwnL ρ σ p ∨ OwnB ρ σ p
def IsOwn (ρ : Ev) (i : Nat) : Prop := (∃ c : Cn, ρ[i]? = some (.oo c)) ∨ ∃ c : Cn, ρ[i]? = some (.bo c)
theorem own_at {ρ : Ev} {σ : St} {p : Addr} {i : Nat} (h : IsOwn ρ i) (e : σ[i]? = some (some (.ref p))) : Own ρ σ p := by
  rcases h with ⟨xs, h⟩ | ⟨xs, h⟩
  · exact .inl ⟨i, xs, h, e⟩
  · exact .inr ⟨i, xs, h, e⟩
theorem own_ex {ρ : Ev} {σ : St} {p : Addr} (h : Own ρ σ p) : ∃ i : Nat, IsOwn ρ i ∧ σ[i]? = some (some (.ref p)) := by
  rcases h with ⟨i, xs, h, e⟩ | ⟨i, xs, h, e⟩
  · exact ⟨i, .inl ⟨xs, h⟩, e⟩
  · exact ⟨i, .inr ⟨xs, h⟩, e⟩

def Sc.at (K : PySem.W.Frag) (F : Hp) (a : Addr) : Sc → Prop
  | .l ns => SqL K F a (ns.map V.int)
  | .t ns => SqT K F a (ns.map V.int)
theorem sc_keep {K : PySem.W.Frag} {F H : Hp} (s : Same F H) {a : Addr} : ∀ {x : Sc}, x.at K F a → x.at K H a
  | .l _, h => s.seq h
  | .t _, h => same_T s h
structure Rel (K : PySem.W.Frag) (ρ : Ev) (σ : St) (F H : Hp) : Prop where
  sub : Same F H
  fz : ∀ (i : Nat) (d : PyData), ρ[i]? = some (.fz d) → ∃ v, σ[i]? = some (some v) ∧ Dq F v d
  cs : ∀ (i : Nat) (c : Cn), (ρ[i]? = some (.oo c) ∨ ρ[i]? = some (.bo c)) → ∃ p o, σ[i]? = some (some (.ref p)) ∧ H p = some o ∧ F p = none ∧ c.at F p o
  sc : ∀ (i : Nat) (ns : Sc), ρ[i]? = some (.sc ns) → ∃ a, σ[i]? = some (some (.ref a)) ∧ ns.at K F a
  sep : ∀ (i j : Nat) (p : Addr), IsOwn ρ i → IsOwn ρ j → σ[i]? = some (some (.ref p)) → σ[j]? = some (some (.ref p)) → i = j
  ln : ρ.length = σ.length
theorem Rel.ls {K : PySem.W.Frag} {ρ : Ev} {σ : St} {F H : Hp} (R : Rel K ρ σ F H) (i : Nat) (xs : List PyData) (h : ρ[i]? = some (.ol xs) ∨ ρ[i]? = some (.bl xs)) : ∃ p vs, σ[i]? = some (some (.ref p)) ∧ H p = some (.lst vs) ∧ F p = none ∧ DqAll F vs xs := by
  obtain ⟨p, o, h1, h2, h3, vs, rfl, h4⟩ := R.cs i (.l xs) h
  exact ⟨p, vs, h1, h2, h3, h4⟩
theorem Rel.ds {K : PySem.W.Frag} {ρ : Ev} {σ : St} {F H : Hp} (R : Rel K ρ σ F H) (i : Nat) (ps : List (PyData × PyData)) (h : ρ[i]? = some (.od ps) ∨ ρ[i]? = some (.bd ps)) : ∃ p kvs, σ[i]? = some (some (.ref p)) ∧ H p = some (.dK kvs) ∧ F p = none ∧ DqKv F kvs ps := by
  obtain ⟨p, o, h1, h2, h3, kvs, rfl, h4⟩ := R.cs i (.d ps) h
  exact ⟨p, kvs, h1, h2, h3, h4⟩
theorem Rel.own {K : PySem.W.Frag} {ρ : Ev} {σ : St} {F H : Hp} (R : Rel K ρ σ F H) {p : Addr} (h : Own ρ σ p) : (∃ o, H p = some o) ∧ F p = none := by
  obtain ⟨i, h, e⟩ := own_ex h
  obtain ⟨xs, hx⟩ : ∃ c, ρ[i]? = some (.oo c) ∨ ρ[i]? = some (.bo c) := by
    rcases h with ⟨xs, h⟩ | ⟨xs, h⟩
    · exact ⟨xs, .inl h⟩
    · exact ⟨xs, .inr h⟩
  obtain ⟨q, vs, e1, e2, e3, _⟩ := R.cs i xs hx
  rw [e] at e1
  cases e1
  exact ⟨⟨vs, e2⟩, e3⟩

structure Stp (K : PySem.W.Frag) (ρ : Ev) (σ : St) (F H : Hp) (ρ' : Ev) (σ' : St) (F' H' : Hp) : Prop where
  rel : Rel K ρ' σ' F' H'
  ff : Same F F'
  fr : ∀ a o, H a = some o → ¬ Own ρ σ a → H' a = some o
  oo : ∀ p, OwnL ρ' σ' p → OwnL ρ σ p ∨ H p = none
  bk : ∀ (i : Nat) (xs : Cn), ρ[i]? = some (.bo xs) → (∃ ys, ρ'[i]? = some (.bo ys)) ∧ σ'[i]? = σ[i]?
  kb : ∀ (i : Nat) (ys : Cn), ρ'[i]? = some (.bo ys) → ∃ xs, ρ[i]? = some (.bo xs)
  nw : ∀ a, F' a ≠ none → F a ≠ none ∨ OwnL ρ σ a ∨ H a = none
  ln : ρ'.length = ρ.length
  dm : ∀ a, H' a = none → H a = none
section
variable {K : PySem.W.Frag} {ρ ρ1 ρ2 : Ev} {σ σ1 σ2 : St} {F F1 F2 H H1 H2 : Hp}
theorem Stp.refl (R : Rel K ρ σ F H) : Stp K ρ σ F H ρ σ F H :=
  ⟨R, Same.refl F, fun _ _ h _ => h, fun _ h => .inl h, fun _ xs h => ⟨⟨xs, h⟩, rfl⟩, fun _ ys h => ⟨ys, h⟩, fun _ h => .inl h, rfl, fun _ h => h⟩
theorem Stp.ob (s : Stp K ρ σ F H ρ1 σ1 F1 H1) {p : Addr} (h : OwnB ρ1 σ1 p) : OwnB ρ σ p := by
  obtain ⟨i, ys, h1, h2⟩ := h
  obtain ⟨xs, h3⟩ := s.kb i ys h1
  exact ⟨i, xs, h3, by rw [← (s.bk i xs h3).2]; exact h2⟩
theorem Stp.bo (s : Stp K ρ σ F H ρ1 σ1 F1 H1) {p : Addr} (h : OwnB ρ σ p) : OwnB ρ1 σ1 p := by
  obtain ⟨i, ys, h1, h2⟩ := h
  obtain ⟨⟨xs, h3⟩, h4⟩ := s.bk i ys h1
  exact ⟨i, xs, h3, by rw [h4]; exact h2⟩
theorem Stp.nob (s : Stp K ρ σ F H ρ1 σ1 F1 H1) {a : Addr} {o : HO} (h : H a = some o) (n : ¬ Own ρ σ a) : ¬ Own ρ1 σ1 a := fun q => by
  rcases q with q | q
  · rcases s.oo a q with z | z
    · exact n (.inl z)
    · rw [h] at z
      cases z
  · exact n (.inr (s.ob q))
theorem Stp.trans (s : Stp K ρ σ F H ρ1 σ1 F1 H1) (t : Stp K ρ1 σ1 F1 H1 ρ2 σ2 F2 H2) : Stp K ρ σ F H ρ2 σ2 F2 H2 where
  rel := t.rel
  ff := s.ff.trans t.ff
  fr := fun a o h n => t.fr a o (s.fr a o h n) (s.nob h n)
  oo := fun p h => by
    rcases t.oo p h with z | z
    · exact s.oo p z
    · exact .inr (s.dm p z)
  bk := fun i xs h => by
    obtain ⟨⟨ys, h1⟩, h2⟩ := s.bk i xs h
    obtain ⟨h3, h4⟩ := t.bk i ys h1
    exact ⟨h3, h4.trans h2⟩
  kb := fun i ys h => by
    obtain ⟨xs, h1⟩ := t.kb i ys h
    exact s.kb i xs h1
  nw := fun a h => by
    rcases t.nw a h with z | z | z
    · exact s.nw a z
    · rcases s.oo a z with y | y
      · exact .inr (.inl y)
      · exact .inr (.inr y)
    · exact .inr (.inr (s.dm a z))
  ln := t.ln.trans s.ln
  dm := fun a h => s.dm a (t.dm a h)

structure Grow (F H F' H' : Hp) : Prop where
  ff : Same F F'
  hh : Same H H'
  sub : Same F' H'
  nw : ∀ a, F' a ≠ none → F a ≠ none ∨ H a = none
theorem Grow.refl (h : Same F H) : Grow F H F H := ⟨Same.refl F, Same.refl H, h, fun _ z => .inl z⟩
theorem Grow.trans (g : Grow F H F1 H1) (k : Grow F1 H1 F2 H2) : Grow F H F2 H2 :=
  ⟨g.ff.trans k.ff, g.hh.trans k.hh, k.sub, fun a z => by
    rcases k.nw a z with y | y
    · exact g.nw a y
    · exact .inr (g.hh.free y)⟩
theorem same_new {H : Hp} {p : Addr} {o : HO} (h : H p = none) : Same H (upd H p o) := fun b x e => by
  rw [upd_ne (ne_of_none e h)]
  exact e
theorem Grow.new {p : Addr} {o : HO} (s : Same F H) (h : H p = none) : Grow F H (upd F p o) (upd H p o) :=
  ⟨same_new (s.free h), same_new h, fun b x e => by
    by_cases q : b = p
    · subst q
      rw [upd_same] at e ⊢
      exact e
    · rw [upd_ne q] at e ⊢
      exact s b x e, fun a z => by
    by_cases q : a = p
    · subst q
      exact .inr h
    · rw [upd_ne q] at z
      exact .inl z⟩
theorem Grow.own {p : Addr} {o : HO} (s : Same F H) (h : H p = none) : Grow F H F (upd H p o) :=
  ⟨Same.refl F, same_new h, s.trans (same_new h), fun a z => .inl z⟩
theorem Grow.stp (R : Rel K ρ σ F H) (g : Grow F H F1 H1) : Stp K ρ σ F H ρ σ F1 H1 where
  rel := by
    refine ⟨g.sub, fun i d h => ?_, fun i xs h => ?_, fun i ns h => ?_, R.sep, R.ln⟩
    · obtain ⟨v, h1, h2⟩ := R.fz i d h
      exact ⟨v, h1, dp_mono g.ff d v h2⟩
    · obtain ⟨p, vs, h1, h2, h3, h4⟩ := R.cs i xs h
      refine ⟨p, vs, h1, g.hh _ _ h2, ?_, cn_mono g.ff h4⟩
      cases e : F1 p with
      | none => rfl
      | some o =>
        rcases g.nw p (by rw [e]; intro z; cases z) with z | z
        · exact absurd h3 z
        · rw [h2] at z
          cases z
    · obtain ⟨a, h1, h2⟩ := R.sc i ns h
      exact ⟨a, h1, sc_keep g.ff h2⟩
  ff := g.ff
  fr := fun a o h _ => g.hh a o h
  oo := fun _ h => .inl h
  bk := fun _ xs h => ⟨⟨xs, h⟩, rfl⟩
  kb := fun _ ys h => ⟨ys, h⟩
  nw := fun a h => by
    rcases g.nw a h with z | z
    · exact .inl z
    · exact .inr (.inr z)
  ln := rfl
  dm := fun a h => g.hh.free h
end

/-! ### results -/
def ROk (ρ : Ev) (σ : St) (H : Hp) (ρ' : Ev) (σ' : St) (F' H' : Hp) : Rv → V → Prop
  | .fz d, v => Dq F' v d
  | .oo c, v => ∃ p o, v = .ref p ∧ (OwnL ρ σ p ∨ H p = none) ∧ H' p = some o ∧ F' p = none ∧ c.at F' p o ∧ ¬ Own ρ' σ' p
def ArOk (H : Hp) (d : Option Addr) (H' : Hp) : Option Int → Prop
  | none => d = none
  | some n => ∃ dd, d = some dd ∧ H dd = none ∧ H' dd = some (.xd [("number", .int n)])
structure XP (mg : Str → Option Value) (ρ : Ev) (σ : St) (H : Hp) (e : Ex) (cls : Value) (d : Option Addr) (H' : Hp) : Prop where
  cl : mg e.cls = some cls
  fr : ∀ a o, H a = some o → ¬ Own ρ σ a → H' a = some o
  dm : ∀ a, H' a = none → H a = none
  ar : ArOk H d H' e.arg
def Out {α : Type} (mg : Str → Option Value) (E : XK) (ρ : Ev) (σ : St) (H : Hp) (m : Rs (α × Ev)) (P : α → Ev → Prop) : Prop :=
  match m with
  | .st => False
  | .ex e => ∀ cls d H', XP mg ρ σ H e cls d H' → E cls d H'
  | .ok (a, ρ') => P a ρ'
section
variable {α β : Type} {K : PySem.W.Frag} {mg : Str → Option Value} {E : XK} {ρ ρ1 : Ev} {σ σ1 : St} {F F1 H H1 : Hp}
theorem XP.after {e : Ex} {cls : Value} {d : Option Addr} {H' : Hp} (s : Stp K ρ σ F H ρ1 σ1 F1 H1) (x : XP mg ρ1 σ1 H1 e cls d H') : XP mg ρ σ H e cls d H' :=
  ⟨x.cl, fun a o h n => x.fr a o (s.fr a o h n) (s.nob h n), fun a h => s.dm a (x.dm a h), by
    have y := x.ar
    cases q : e.arg with
    | none => rw [q] at y; exact y
    | some n =>
      rw [q] at y
      obtain ⟨dd, h1, h2, h3⟩ := y
      exact ⟨dd, h1, s.dm dd h2, h3⟩⟩
theorem Out.mono {m : Rs (α × Ev)} {P P' : α → Ev → Prop} (h : Out mg E ρ σ H m P) (f : ∀ a ρ', P a ρ' → P' a ρ') : Out mg E ρ σ H m P' := by
  cases m with
  | st => exact h
  | ex e => exact h
  | ok a => exact f a.1 a.2 h
theorem out_bnd {f : Dn α} {g : α → Dn β} {P : β → Ev → Prop} (h : Out mg E ρ σ H (bnd f g ρ) P) :
    Out mg E ρ σ H (f ρ) (fun a ρ1 => ∀ σ1 F1 H1, Stp K ρ σ F H ρ1 σ1 F1 H1 → Out mg E ρ1 σ1 H1 (g a ρ1) P) := by
  unfold bnd at h
  cases e : f ρ with
  | st => rw [e] at h; exact h
  | ex x => rw [e] at h; exact h
  | ok a =>
    rw [e] at h
    intro σ1 F1 H1 s
    show Out mg E a.2 σ1 H1 (g a.1 a.2) P
    have h' : Out mg E ρ σ H (g a.1 a.2) P := h
    cases q : g a.1 a.2 with
    | st => rw [q] at h'; exact h'
    | ex x =>
      rw [q] at h'
      exact fun cls d H' xp => h' cls d H' (xp.after s)
    | ok b => rw [q] at h'; exact h'
theorem out_ret {a : α} {P : α → Ev → Prop} (h : Out mg E ρ σ H (ret a ρ) P) : P a ρ := h
theorem out_lft {o : Option α} {P : α → Ev → Prop} (h : Out mg E ρ σ H (lft o ρ) P) : ∃ a, o = some a ∧ P a ρ := by
  cases o with
  | none => exact (show False from h).elim
  | some a => exact ⟨a, rfl, h⟩
end

/-! ### readings -/
section
variable (K : PySem.W.Frag) (mg : Str → Option Value) (E : XK)
def tE (f : Dn Rv) : TE := fun σ H Q => ∃ ρ F, Rel K ρ σ F H ∧ Out mg E ρ σ H (f ρ) fun r ρ' => ∀ v F' H', Stp K ρ σ F H ρ' σ F' H' → ROk ρ σ H ρ' σ F' H' r v → Q v H'
def tD (f : Dn PyData) : TE := fun σ H Q => ∃ ρ F, Rel K ρ σ F H ∧ Out mg E ρ σ H (f ρ) fun d ρ' => ∀ v F' H', Stp K ρ σ F H ρ' σ F' H' → Dq F' v d → Q v H'
def tT (f : Dn Bool) : TT := fun σ H Q => ∃ ρ F, Rel K ρ σ F H ∧ Out mg E ρ σ H (f ρ) fun b ρ' => ∀ F' H', Stp K ρ σ F H ρ' σ F' H' → Q b H'
def tDs (f : Dn (List PyData)) : TA := fun σ H Q => ∃ ρ F, Rel K ρ σ F H ∧ Out mg E ρ σ H (f ρ) fun ds ρ' => ∀ vs F' H', Stp K ρ σ F H ρ' σ F' H' → DqAll F' vs ds → Q vs H'
def tS (f : Dn Fl) : TS := fun D σ H => ∃ ρ F, Rel K ρ σ F H ∧ Out mg E ρ σ H (f ρ) fun fl ρ' => match fl with
  | .nx => ∀ σ' F' H', Stp K ρ σ F H ρ' σ' F' H' → D.nx σ' H'
  | .bk => ∀ σ' F' H', Stp K ρ σ F H ρ' σ' F' H' → D.bk σ' H'
  | .ct => ∀ σ' F' H', Stp K ρ σ F H ρ' σ' F' H' → D.ct σ' H'
  | .rt r => ∀ σ' v F' H', Stp K ρ σ F H ρ' σ' F' H' → ROk ρ σ H ρ' σ' F' H' r v → D.rt v H'
end
theorem pe_wk {X : Cx} {e : Expr} {t t' : TE} (h : PE X e t) (w : ∀ σ H Q, t' σ H Q → t σ H Q) : PE X e t' := ⟨fun pins s σ H Q I q => h.run pins s σ H Q I (w σ H Q q)⟩
theorem pt_wk {X : Cx} {e : Expr} {t t' : TT} (h : PT X e t) (w : ∀ σ H Q, t' σ H Q → t σ H Q) : PT X e t' := ⟨fun pins s σ H Q I q => h.run pins s σ H Q I (w σ H Q q)⟩
theorem pw_wk {X : Cx} {e : Expr} {t t' : TT} (h : PW X e t) (w : ∀ σ H Q, t' σ H Q → t σ H Q) : PW X e t' := ⟨fun wh pins s σ H Q I q => h.run wh pins s σ H Q I (w σ H Q q)⟩
theorem pa_wk {X : Cx} {es : List Expr} {t t' : TA} (h : PA X es t) (w : ∀ σ H Q, t' σ H Q → t σ H Q) : PA X es t' := ⟨fun pos pins s σ H Q I q => h.run pos pins s σ H Q I (w σ H Q q)⟩
theorem ps_wk {X : Cx} {st : Stmt} {t t' : TS} (h : PS X st t) (w : ∀ D σ H, t' D σ H → t D σ H) : PS X st t' := ⟨fun pins s σ H D I q => h.run pins s σ H D I (w D σ H q)⟩
theorem pss_wk {X : Cx} {st : List Stmt} {t t' : TS} (h : PSs X st t) (w : ∀ D σ H, t' D σ H → t D σ H) : PSs X st t' := ⟨fun pins s σ H D I q => h.run pins s σ H D I (w D σ H q)⟩

theorem freeze {K : PySem.W.Frag} {ρ ρ' : Ev} {σ σ' : St} {F H F' H' : Hp} {p : Addr} {o : HO} (s : Stp K ρ σ F H ρ' σ' F' H') (h1 : OwnL ρ σ p ∨ H p = none) (h2 : H' p = some o) (h3 : F' p = none) (h4 : ¬ Own ρ' σ' p) :
    Stp K ρ σ F H ρ' σ' (upd F' p o) H' where
  rel := ⟨fun b x e => by
      by_cases q : b = p
      · subst q
        rw [upd_same] at e
        cases e
        exact h2
      · rw [upd_ne q] at e
        exact s.rel.sub b x e, fun i d h => by
      obtain ⟨v, e1, e2⟩ := s.rel.fz i d h
      exact ⟨v, e1, dp_mono (same_new h3) d v e2⟩, fun i xs h => by
      obtain ⟨q, ws, e1, e2, e3, e4⟩ := s.rel.cs i xs h
      have hi : IsOwn ρ' i := by
        rcases h with h | h
        · exact .inl ⟨xs, h⟩
        · exact .inr ⟨xs, h⟩
      have ne : q ≠ p := fun z => h4 (by rw [← z]; exact own_at hi e1)
      exact ⟨q, ws, e1, e2, by rw [upd_ne ne]; exact e3, cn_mono (same_new h3) e4⟩, fun i ns h => by
      obtain ⟨a, h1, h2⟩ := s.rel.sc i ns h
      exact ⟨a, h1, sc_keep (same_new h3) h2⟩, s.rel.sep, s.rel.ln⟩
  ff := s.ff.trans (same_new h3)
  fr := s.fr
  oo := s.oo
  bk := s.bk
  kb := s.kb
  nw := fun a h => by
    by_cases q : a = p
    · subst q
      exact .inr h1
    · rw [upd_ne q] at h
      exact s.nw a h
  ln := s.ln
  dm := s.dm
def frz (f : Dn Rv) : Dn PyData := bnd f fun r => ret r.d
theorem toD {X : Cx} {e : Expr} {K : PySem.W.Frag} {mg : Str → Option Value} {E : XK} {f : Dn Rv} (h : PE X e (tE K mg E f)) : PE X e (tD K mg E (frz f)) :=
  pe_wk h fun σ H Q ⟨ρ, F, R, q⟩ => ⟨ρ, F, R, (out_bnd (K := K) (F := F) q).mono fun r ρ1 k v F1 H1 s ro => by
    cases r with
    | fz d => exact out_ret (k _ _ _ s) v F1 H1 s ro
    | oo c =>
      obtain ⟨p, o, rfl, h1, h2, h3, h4, h5⟩ := ro
      have s2 := freeze s h1 h2 h3 h5
      have dq := cn_dq (p := p) upd_same (cn_mono (same_new h3) h4)
      rw [← rv_d] at dq
      exact out_ret (k _ _ _ s2) _ _ _ s2 dq⟩
def ofD (f : Dn PyData) : Dn Rv := bnd f fun d => ret (.fz d)
theorem toE {X : Cx} {e : Expr} {K : PySem.W.Frag} {mg : Str → Option Value} {E : XK} {f : Dn PyData} (h : PE X e (tD K mg E f)) : PE X e (tE K mg E (ofD f)) :=
  pe_wk h fun σ H Q ⟨ρ, F, R, q⟩ => ⟨ρ, F, R, (out_bnd (K := K) (F := F) q).mono fun d ρ1 k v F1 H1 s dp => out_ret (k _ _ _ s) v F1 H1 s dp⟩
end Gx

/-! G2: expressions over plain data. -/
namespace Gx
open PySem PySem.Spec L2
open PyProof.Rows hiding St

/-! ### slots -/
theorem set_get {α : Type} {l : List α} {i j : Nat} {e x : α} (h : (l.set i e)[j]? = some x) : (j = i ∧ x = e) ∨ (j ≠ i ∧ l[j]? = some x) := by
  by_cases q : j = i
  · subst q
    by_cases z : j < l.length
    · rw [List.getElem?_set_self z] at h
      exact .inl ⟨rfl, (Option.some.inj h).symm⟩
    · rw [List.getElem?_eq_none (by simpa using z)] at h
      cases h
  · rw [List.getElem?_set_ne (Ne.symm q)] at h
    exact .inr ⟨q, h⟩
section
variable {K : PySem.W.Frag} {ρ ρ1 : Ev} {σ σ1 : St} {F F1 H H1 : Hp} {i : Nat}
theorem own_set_fz {d : PyData} {v : V} {p : Addr} (h : OwnL (ρ1.set i (.fz d)) (σ1.set i (some v)) p) : OwnL ρ1 σ1 p := by
  obtain ⟨j, xs, h1, h2⟩ := h
  rcases set_get h1 with ⟨_, z⟩ | ⟨n, h1⟩
  · cases z
  · rw [List.getElem?_set_ne (Ne.symm n)] at h2
    exact ⟨j, xs, h1, h2⟩
theorem isOwn_set {e : En} (he : ∀ xs, e ≠ .oo xs ∧ e ≠ .bo xs) {j : Nat} (h : IsOwn (ρ1.set i e) j) : j ≠ i ∧ IsOwn ρ1 j := by
  rcases h with ⟨xs, h⟩ | ⟨xs, h⟩
  · rcases set_get h with ⟨_, z⟩ | ⟨n, h⟩
    · exact absurd z.symm (he xs).1
    · exact ⟨n, .inl ⟨xs, h⟩⟩
  · rcases set_get h with ⟨_, z⟩ | ⟨n, h⟩
    · exact absurd z.symm (he xs).2
    · exact ⟨n, .inr ⟨xs, h⟩⟩
theorem store_fz {d : PyData} {v : V} (S : Stp K ρ σ F H ρ1 σ1 F1 H1) (nb : ∀ xs, ρ1[i]? ≠ some (.bo xs)) (hi : i < ρ1.length) (q : Dq F1 v d) : Stp K ρ σ F H (ρ1.set i (.fz d)) (σ1.set i (some v)) F1 H1 where
  rel := by
    have hσ : i < σ1.length := by rw [← S.rel.ln]; exact hi
    refine ⟨S.rel.sub, fun j e h => ?_, fun j xs h => ?_, fun j ns h => ?_, fun j k p hj hk e1 e2 => ?_, by simpa using S.rel.ln⟩
    · rcases set_get h with ⟨rfl, z⟩ | ⟨n, h⟩
      · cases z
        exact ⟨v, List.getElem?_set_self hσ, q⟩
      · rw [List.getElem?_set_ne (Ne.symm n)]
        exact S.rel.fz j e h
    · have h' : j ≠ i ∧ (ρ1[j]? = some (.oo xs) ∨ ρ1[j]? = some (.bo xs)) := by
        rcases h with h | h
        · rcases set_get h with ⟨_, z⟩ | ⟨n, h⟩
          · cases z
          · exact ⟨n, .inl h⟩
        · rcases set_get h with ⟨_, z⟩ | ⟨n, h⟩
          · cases z
          · exact ⟨n, .inr h⟩
      rw [List.getElem?_set_ne (Ne.symm h'.1)]
      exact S.rel.cs j xs h'.2
    · rcases set_get h with ⟨_, z⟩ | ⟨n, h⟩
      · cases z
      · rw [List.getElem?_set_ne (Ne.symm n)]
        exact S.rel.sc j ns h
    · obtain ⟨n1, o1⟩ := isOwn_set (fun xs => ⟨(fun z => by cases z), (fun z => by cases z)⟩) hj
      obtain ⟨n2, o2⟩ := isOwn_set (fun xs => ⟨(fun z => by cases z), (fun z => by cases z)⟩) hk
      rw [List.getElem?_set_ne (Ne.symm n1)] at e1
      rw [List.getElem?_set_ne (Ne.symm n2)] at e2
      exact S.rel.sep j k p o1 o2 e1 e2
  ff := S.ff
  fr := S.fr
  oo := fun p h => S.oo p (own_set_fz h)
  bk := fun j xs h => by
    obtain ⟨⟨ys, h1⟩, h2⟩ := S.bk j xs h
    have n : j ≠ i := fun z => nb ys (by rw [← z]; exact h1)
    rw [List.getElem?_set_ne (Ne.symm n), List.getElem?_set_ne (Ne.symm n)]
    exact ⟨⟨ys, h1⟩, h2⟩
  kb := fun j ys h => by
    rcases set_get h with ⟨_, z⟩ | ⟨n, h⟩
    · cases z
    · exact S.kb j ys h
  nw := S.nw
  ln := by rw [List.length_set]; exact S.ln
  dm := S.dm
theorem store_oo {p : Addr} {vs : HO} {xs : Cn} (S : Stp K ρ σ F H ρ1 σ1 F1 H1) (nb : ∀ xs, ρ1[i]? ≠ some (.bo xs)) (hi : i < ρ1.length)
    (h1 : OwnL ρ σ p ∨ H p = none) (h2 : H1 p = some vs) (h3 : F1 p = none) (h4 : xs.at F1 p vs) (h5 : ¬ Own ρ1 σ1 p) : Stp K ρ σ F H (ρ1.set i (.oo xs)) (σ1.set i (some (.ref p))) F1 H1 where
  rel := by
    have hσ : i < σ1.length := by rw [← S.rel.ln]; exact hi
    have key : ∀ (j : Nat), IsOwn (ρ1.set i (.oo xs)) j → j ≠ i → IsOwn ρ1 j := fun j h n => by
      rcases h with ⟨ys, h⟩ | ⟨ys, h⟩
      · rw [List.getElem?_set_ne (Ne.symm n)] at h
        exact .inl ⟨ys, h⟩
      · rw [List.getElem?_set_ne (Ne.symm n)] at h
        exact .inr ⟨ys, h⟩
    refine ⟨S.rel.sub, fun j e h => ?_, fun j ys h => ?_, fun j ns h => ?_, fun j k q hj hk e1 e2 => ?_, by simpa using S.rel.ln⟩
    · rcases set_get h with ⟨_, z⟩ | ⟨n, h⟩
      · cases z
      · rw [List.getElem?_set_ne (Ne.symm n)]
        exact S.rel.fz j e h
    · by_cases n : j = i
      · subst n
        have e : ys = xs := by
          rcases h with h | h
          · rcases set_get h with ⟨_, z⟩ | ⟨n, h⟩
            · cases z; rfl
            · exact absurd rfl n
          · rcases set_get h with ⟨_, z⟩ | ⟨n, h⟩
            · cases z
            · exact absurd rfl n
        subst e
        exact ⟨p, vs, List.getElem?_set_self hσ, h2, h3, h4⟩
      · rw [List.getElem?_set_ne (Ne.symm n)] at h ⊢
        exact S.rel.cs j ys h
    · rcases set_get h with ⟨_, z⟩ | ⟨n, h⟩
      · cases z
      · rw [List.getElem?_set_ne (Ne.symm n)]
        exact S.rel.sc j ns h
    · by_cases n1 : j = i
      · by_cases n2 : k = i
        · rw [n1, n2]
        · rw [n1, List.getElem?_set_self hσ] at e1
          cases e1
          rw [List.getElem?_set_ne (Ne.symm n2)] at e2
          exact absurd (own_at (key k hk n2) e2) h5
      · rw [List.getElem?_set_ne (Ne.symm n1)] at e1
        by_cases n2 : k = i
        · rw [n2, List.getElem?_set_self hσ] at e2
          cases e2
          exact absurd (own_at (key j hj n1) e1) h5
        · rw [List.getElem?_set_ne (Ne.symm n2)] at e2
          exact S.rel.sep j k q (key j hj n1) (key k hk n2) e1 e2
  ff := S.ff
  fr := S.fr
  oo := fun q h => by
    obtain ⟨j, ys, e1, e2⟩ := h
    by_cases n : j = i
    · have hσ : i < σ1.length := by rw [← S.rel.ln]; exact hi
      rw [n, List.getElem?_set_self hσ] at e2
      cases e2
      exact h1
    · rw [List.getElem?_set_ne (Ne.symm n)] at e1 e2
      exact S.oo q ⟨j, ys, e1, e2⟩
  bk := fun j ys h => by
    obtain ⟨⟨zs, e1⟩, e2⟩ := S.bk j ys h
    have n : j ≠ i := fun z => nb zs (by rw [← z]; exact e1)
    rw [List.getElem?_set_ne (Ne.symm n), List.getElem?_set_ne (Ne.symm n)]
    exact ⟨⟨zs, e1⟩, e2⟩
  kb := fun j ys h => by
    rcases set_get h with ⟨_, z⟩ | ⟨n, h⟩
    · cases z
    · exact S.kb j ys h
  nw := S.nw
  ln := by rw [List.length_set]; exact S.ln
  dm := S.dm
theorem give {p : Addr} {xs : Cn} (S : Stp K ρ σ F H ρ1 σ1 F1 H1) (hx : ρ1[i]? = some (.oo xs)) (hp : σ1[i]? = some (some (.ref p))) :
    Stp K ρ σ F H (ρ1.set i .no) σ1 F1 H1 ∧ ¬ Own (ρ1.set i .no) σ1 p := by
  have key : ∀ {e : En} {j : Nat}, e ≠ .no → (ρ1.set i .no)[j]? = some e → j ≠ i ∧ ρ1[j]? = some e := fun {e j} ne h => by
    rcases set_get h with ⟨_, z⟩ | h
    · exact absurd z ne
    · exact h
  have key2 : ∀ {j : Nat}, IsOwn (ρ1.set i .no) j → j ≠ i ∧ IsOwn ρ1 j := fun {j} h => isOwn_set (fun xs => ⟨(fun z => by cases z), (fun z => by cases z)⟩) h
  refine ⟨⟨⟨S.rel.sub, fun j d h => S.rel.fz j d (key (by intro z; cases z) h).2, fun j ys h => ?_, fun j ns h => S.rel.sc j ns (key (by intro z; cases z) h).2, fun j k q hj hk => S.rel.sep j k q (key2 hj).2 (key2 hk).2, by rw [List.length_set]; exact S.rel.ln⟩,
    S.ff, S.fr, fun q h => ?_, fun j ys h => ?_, fun j ys h => S.kb j ys (key (by intro z; cases z) h).2, S.nw, by rw [List.length_set]; exact S.ln, S.dm⟩, fun h => ?_⟩
  · rcases h with h | h
    · exact S.rel.cs j ys (.inl (key (by intro z; cases z) h).2)
    · exact S.rel.cs j ys (.inr (key (by intro z; cases z) h).2)
  · obtain ⟨j, ys, h1, h2⟩ := h
    exact S.oo q ⟨j, ys, (key (by intro z; cases z) h1).2, h2⟩
  · obtain ⟨⟨zs, e1⟩, e2⟩ := S.bk j ys h
    have n : j ≠ i := fun z => by rw [z, hx] at e1; cases e1
    rw [List.getElem?_set_ne (Ne.symm n)]
    exact ⟨⟨zs, e1⟩, e2⟩
  · obtain ⟨j, h1, h2⟩ := own_ex h
    obtain ⟨n, h1⟩ := key2 h1
    exact n (S.rel.sep j i p h1 (.inl ⟨xs, hx⟩) h2 hp)
end

/-! ### what is new -/
def NOk (H F' H' : Hp) : Rv → V → Prop
  | .fz d, v => Dq F' v d
  | .oo c, v => ∃ p o, v = .ref p ∧ H p = none ∧ H' p = some o ∧ F' p = none ∧ c.at F' p o
theorem NOk.rok {K : PySem.W.Frag} {ρ : Ev} {σ : St} {F H F' H' : Hp} (R : Rel K ρ σ F H) {r : Rv} {v : V} (h : NOk H F' H' r v) : ROk ρ σ H ρ σ F' H' r v := by
  cases r with
  | fz d => exact h
  | oo xs =>
    obtain ⟨p, vs, h1, h2, h3, h4, h5⟩ := h
    refine ⟨p, vs, h1, .inr h2, h3, h4, h5, fun z => ?_⟩
    obtain ⟨⟨ws, e⟩, _⟩ := R.own z
    rw [h2] at e
    cases e
theorem ROk.before {K : PySem.W.Frag} {ρ ρ1 ρ2 : Ev} {σ σ1 σ2 : St} {F H F1 H1 F2 H2 : Hp} (S : Stp K ρ σ F H ρ1 σ1 F1 H1) {r : Rv} {v : V} (h : ROk ρ1 σ1 H1 ρ2 σ2 F2 H2 r v) : ROk ρ σ H ρ2 σ2 F2 H2 r v := by
  cases r with
  | fz d => exact h
  | oo xs =>
    obtain ⟨p, vs, h1, h2, h3⟩ := h
    refine ⟨p, vs, h1, ?_, h3⟩
    rcases h2 with h2 | h2
    · exact S.oo p h2
    · exact .inr (S.dm p h2)

section
variable {X : Cx} {E : XK} {pos : Pos} {a b : Expr}
/-! ### names, constants -/
def dName (i : Nat) : Dn PyData := fun ρ => match ρ[i]? with
  | some (.fz d) => .ok (d, ρ)
  | some (.oo (.l xs)) => .ok (.list xs, ρ.set i (.fz (.list xs)))
  | some (.oo (.d ps)) => .ok (dicD ps, ρ.set i (.fz (dicD ps)))
  | some (.oo (.k ps)) => .ok (dikD ps, ρ.set i (.fz (dikD ps)))
  | _ => .st
theorem g_name (i : Nat) {x : Str} (hN : X.N[i]? = some x := by rfl) (hv : Vis X.env.scope x := by first | exact Or.inl rfl | exact Or.inr (Or.inl rfl) | exact Or.inr (Or.inr rfl)) (hd : (x == ("__debug__" : Str)) = false := by decide)
    (hcd : (x == ("__classdict__" : Str)) = false := by decide) : PE X (.Name x pos) (tD X.K X.mg E (dName i)) :=
  pe_wk (pe_var hN hv hd hcd) fun σ H Q ⟨ρ, F, R, q⟩ => by
    unfold dName at q
    cases e : ρ[i]? with
    | none => rw [e] at q; exact q.elim
    | some en =>
      rw [e] at q
      cases en with
      | fz d =>
        obtain ⟨v, h1, h2⟩ := R.fz i d e
        exact ⟨v, h1, q v F H (Stp.refl R) h2⟩
      | oo xs =>
        have q : Out X.mg E ρ σ H (.ok (xs.v, ρ.set i (.fz xs.v))) (fun d ρ' => ∀ v F' H', Stp X.K ρ σ F H ρ' σ F' H' → Dq F' v d → Q v H') := by cases xs <;> exact q
        obtain ⟨p, vs, h1, h2, h3, h4⟩ := R.cs i xs (.inl e)
        obtain ⟨S, n⟩ := give (Stp.refl R) e h1
        have S2 := freeze S (.inl ⟨i, xs, e, h1⟩) h2 h3 n
        have hi : i < ρ.length := (List.getElem?_eq_some_iff.mp e).1
        have dq : Dq (upd F p vs) (.ref p) xs.v := cn_dq upd_same (cn_mono (same_new h3) h4)
        have S3 := store_fz (v := .ref p) S2 (i := i) (fun ys z => by rw [List.getElem?_set_self hi] at z; cases z) (by rw [List.length_set]; exact hi) dq
        have e2 : σ.set i (some (.ref p)) = σ := by
          apply List.ext_getElem?
          intro j
          by_cases hj : j = i
          · subst hj
            rw [List.getElem?_set_self (by rw [← R.ln]; exact hi), h1]
          · rw [List.getElem?_set_ne (Ne.symm hj)]
        rw [e2, List.set_set] at S3
        exact ⟨.ref p, h1, q _ _ _ S3 dq⟩
      | no => exact q.elim
      | bo _ => exact q.elim
      | sc _ => exact q.elim
def dMove (i : Nat) : Dn Rv := fun ρ => match ρ[i]? with
  | some (.fz d) => .ok (.fz d, ρ)
  | some (.oo xs) => .ok (.oo xs, ρ.set i .no)
  | _ => .st
theorem g_move (i : Nat) {x : Str} (hN : X.N[i]? = some x := by rfl) (hv : Vis X.env.scope x := by first | exact Or.inl rfl | exact Or.inr (Or.inl rfl) | exact Or.inr (Or.inr rfl)) (hd : (x == ("__debug__" : Str)) = false := by decide)
    (hcd : (x == ("__classdict__" : Str)) = false := by decide) : PE X (.Name x pos) (tE X.K X.mg E (dMove i)) :=
  pe_wk (pe_var hN hv hd hcd) fun σ H Q ⟨ρ, F, R, q⟩ => by
    unfold dMove at q
    cases e : ρ[i]? with
    | none => rw [e] at q; exact q.elim
    | some en =>
      rw [e] at q
      cases en with
      | fz d =>
        obtain ⟨v, h1, h2⟩ := R.fz i d e
        exact ⟨v, h1, q v F H (Stp.refl R) h2⟩
      | oo xs =>
        obtain ⟨p, vs, h1, h2, h3, h4⟩ := R.cs i xs (.inl e)
        obtain ⟨S, n⟩ := give (Stp.refl R) e h1
        exact ⟨.ref p, h1, q _ _ _ S ⟨p, vs, rfl, .inl ⟨i, xs, e, h1⟩, h2, h3, h4, n⟩⟩
      | no => exact q.elim
      | bo _ => exact q.elim
      | sc _ => exact q.elim
def dC (d : PyData) : Dn PyData := ret d
theorem g_const {e : Expr} {v : V} {d : PyData} (h : PE X e (tC v)) (hd : ∀ F, Dq F v d) : PE X e (tD X.K X.mg E (dC d)) :=
  pe_wk h fun σ H Q ⟨ρ, F, R, q⟩ => (out_ret q) v F H (Stp.refl R) (hd F)
theorem g_int {i j} : PE X (.Constant (.int i) j pos) (tD X.K X.mg E (dC (.int i))) := g_const pe_int fun _ => .int i
theorem g_bl {b j} : PE X (.Constant (.bool b) j pos) (tD X.K X.mg E (dC (.bool b))) := g_const pe_bl fun _ => .bl b
theorem g_non {j} : PE X (.Constant .none j pos) (tD X.K X.mg E (dC .none)) := g_const pe_non fun _ => .non
/-! ### operators -/
def OpD (X : Cx) (f : Value → Value → Sem Value) (g : PyData → PyData → Option Rv) : Prop :=
  OpR X f fun x y H Q => ∃ F d e r, Same F H ∧ Dq F x d ∧ Dq F y e ∧ g d e = some r ∧ ∀ v F' H', Grow F H F' H' → NOk H F' H' r v → Q v H'
def dBin (g : PyData → PyData → Option Rv) (fa fb : Dn PyData) : Dn Rv := bnd fa fun x => bnd fb fun y => lft (g x y)
theorem bin_wk {K : PySem.W.Frag} {mg : Str → Option Value} {g : PyData → PyData → Option Rv} {fa fb : Dn PyData} {r : R2} (hr : ∀ x y H Q, (∃ F d e r, Same F H ∧ Dq F x d ∧ Dq F y e ∧ g d e = some r ∧ ∀ v F' H', Grow F H F' H' → NOk H F' H' r v → Q v H') → r x y H Q)
    (σ : St) (H : Hp) (Q : VK) (h : tE K mg E (dBin g fa fb) σ H Q) : tOp r (tD K mg E fa) (tD K mg E fb) σ H Q := by
  obtain ⟨ρ, F, R, q⟩ := h
  refine ⟨ρ, F, R, (out_bnd (K := K) (F := F) q).mono fun x ρ1 k v F1 H1 S1 d1 => ⟨ρ1, F1, S1.rel, (out_bnd (K := K) (F := F1) (k _ _ _ S1)).mono fun y ρ2 k2 u F2 H2 S2 d2 => hr _ _ _ _ ?_⟩⟩
  obtain ⟨r, hr, q2⟩ := out_lft (k2 _ _ _ S2)
  refine ⟨F2, x, y, r, S2.rel.sub, dp_mono S2.ff x v d1, d2, hr, fun w F3 H3 gr nk => ?_⟩
  have S3 := gr.stp S2.rel
  exact q2 w F3 H3 ((S1.trans S2).trans S3) ((nk.rok S2.rel).before (S1.trans S2))
theorem g_bin {op : Operator} {g : PyData → PyData → Option Rv} {fa fb : Dn PyData} (ho : OpD X (binaryOp op) g) (ha : PE X a (tD X.K X.mg E fa)) (hb : PE X b (tD X.K X.mg E fb)) : PE X (.BinOp a op b pos) (tE X.K X.mg E (dBin g fa fb)) :=
  pe_wk (pe_op ho ha hb) (bin_wk fun _ _ _ _ h => h)
theorem g_cmp {op : CmpOp} {g : PyData → PyData → Option Rv} {fa fb : Dn PyData} (ho : OpD X (compareOp op) g) (ha : PE X a (tD X.K X.mg E fa)) (hb : PE X b (tD X.K X.mg E fb)) (hm : behindInMarks op b = false) : PE X (.Compare a [op] [b] pos) (tE X.K X.mg E (dBin g fa fb)) :=
  pe_wk (pe_cmpR ho ha hb hm) (bin_wk fun _ _ _ _ h => h)
def boolOf : PyData → Option Bool
  | .bool b => some b
  | _ => none
def dCmpT (g : PyData → PyData → Option Rv) (fa fb : Dn PyData) : Dn Bool := bnd (dBin g fa fb) fun r => lft (boolOf r.d)
theorem boolOf_some {d : PyData} {b : Bool} (h : boolOf d = some b) : d = .bool b := by
  cases d <;> simp [boolOf] at h
  rw [h]
theorem rv_bool {r : Rv} {b : Bool} (h : boolOf r.d = some b) : r = .fz (.bool b) := by
  cases r with
  | fz d => rw [boolOf_some (d := d) h]
  | oo xs => cases xs <;> cases h
theorem test_wk {K : PySem.W.Frag} {mg : Str → Option Value} {f : Dn Rv} {t : TE} (hw : ∀ σ H Q, tE K mg E f σ H Q → t σ H Q) (σ : St) (H : Hp) (Q : Bool → Hp → Prop) (h : tT K mg E (bnd f fun r => lft (boolOf r.d)) σ H Q) : tTest t σ H Q := by
  obtain ⟨ρ, F, R, q⟩ := h
  refine hw σ H _ ⟨ρ, F, R, (out_bnd (K := K) (F := F) q).mono fun r ρ1 k v F1 H1 S1 ro => ?_⟩
  obtain ⟨c, hc, q2⟩ := out_lft (k _ _ _ S1)
  rw [rv_bool hc] at ro
  cases ro
  exact ⟨c, rfl, q2 _ _ S1⟩
theorem g_cmpT {op : CmpOp} {g : PyData → PyData → Option Rv} {fa fb : Dn PyData} (ho : OpD X (compareOp op) g) (ha : PE X a (tD X.K X.mg E fa)) (hb : PE X b (tD X.K X.mg E fb)) (hm : behindInMarks op b = false) : PT X (.Compare a [op] [b] pos) (tT X.K X.mg E (dCmpT g fa fb)) :=
  pt_wk (pt_cmpR ho ha hb hm) (test_wk (bin_wk fun _ _ _ _ h => h))
def dChain (g g' : PyData → PyData → Option Rv) (fa fb fc : Dn PyData) : Dn Rv := bnd fa fun x => bnd fb fun y => bnd (lft (g x y)) fun r => bnd (lft (boolOf r.d)) fun k => if k then bnd fc fun z => lft (g' y z) else ret (.fz (.bool false))
theorem chain_wk {K : PySem.W.Frag} {mg : Str → Option Value} {g g' : PyData → PyData → Option Rv} {fa fb fc : Dn PyData} (hp : ∀ d e r, g d e = some r → ∃ k, r = .fz (.bool k)) (σ : St) (H : Hp) (Q : VK) (h : tE K mg E (dChain g g' fa fb fc) σ H Q) :
    tChain (fun x y H Q => ∃ F d e r, Same F H ∧ Dq F x d ∧ Dq F y e ∧ g d e = some r ∧ ∀ v F' H', Grow F H F' H' → NOk H F' H' r v → Q v H') (fun x y H Q => ∃ F d e r, Same F H ∧ Dq F x d ∧ Dq F y e ∧ g' d e = some r ∧ ∀ v F' H', Grow F H F' H' → NOk H F' H' r v → Q v H')
      (tD K mg E fa) (tD K mg E fb) (tD K mg E fc) σ H Q := by
  obtain ⟨ρ, F, R, q⟩ := h
  refine ⟨ρ, F, R, (out_bnd (K := K) (F := F) q).mono fun x ρ1 k v F1 H1 S1 d1 => ⟨ρ1, F1, S1.rel, (out_bnd (K := K) (F := F1) (k _ _ _ S1)).mono fun y ρ2 k2 u F2 H2 S2 d2 => ?_⟩⟩
  obtain ⟨r, hr, q2⟩ := out_lft (out_bnd (K := K) (F := F2) (k2 _ _ _ S2))
  refine ⟨F2, x, y, r, S2.rel.sub, dp_mono S2.ff x v d1, d2, hr, fun w F3 H3 gr nk => ?_⟩
  have S3 := gr.stp S2.rel
  obtain ⟨c, hc, q3⟩ := out_lft (out_bnd (K := K) (F := F3) (q2 _ _ _ S3))
  rw [rv_bool hc] at nk
  cases nk
  have q4 := q3 _ _ _ (Stp.refl S3.rel)
  have S13 := (S1.trans S2).trans S3
  refine ⟨c, rfl, ?_⟩
  cases c with
  | false =>
    rw [if_neg Bool.false_ne_true]
    rw [if_neg Bool.false_ne_true] at q4
    exact out_ret q4 _ F3 H3 S13 (.bl false)
  | true =>
    rw [if_pos rfl]
    rw [if_pos rfl] at q4
    refine ⟨ρ2, F3, S3.rel, (out_bnd (K := K) (F := F3) q4).mono fun z ρ4 k4 t F4 H4 S4 d4 => ?_⟩
    obtain ⟨r2, hr2, q5⟩ := out_lft (k4 _ _ _ S4)
    refine ⟨F4, y, z, r2, S4.rel.sub, dp_mono S4.ff y u (dp_mono S3.ff y u d2), d4, hr2, fun w' F5 H5 gr5 nk5 => ?_⟩
    have S5 := gr5.stp S4.rel
    exact q5 w' F5 H5 ((S13.trans S4).trans S5) ((nk5.rok S4.rel).before (S13.trans S4))
theorem g_chainT {op op' : CmpOp} {c : Expr} {g g' : PyData → PyData → Option Rv} {fa fb fc : Dn PyData} (ho : OpD X (compareOp op) g) (ho' : OpD X (compareOp op') g') (hp : ∀ d e r, g d e = some r → ∃ k, r = .fz (.bool k))
    (ha : PE X a (tD X.K X.mg E fa)) (hb : PE X b (tD X.K X.mg E fb)) (hc : PE X c (tD X.K X.mg E fc)) (hm : lastMarks [op, op'] [b, c] = false := by with_unfolding_all rfl) : PT X (.Compare a [op, op'] [b, c] pos) (tT X.K X.mg E (bnd (dChain g g' fa fb fc) fun r => lft (boolOf r.d))) :=
  pt_wk (pt_chain ho ho' ha hb hc hm) (test_wk (chain_wk hp))
def UnD (X : Cx) (f : Value → Sem Value) (g : PyData → Option PyData) : Prop := UnR X f fun x H Q => ∃ F d r, Same F H ∧ Dq F x d ∧ g d = some r ∧ ∀ v, Dq F v r → Q v H
def dUn (g : PyData → Option PyData) (fa : Dn PyData) : Dn PyData := bnd fa fun x => lft (g x)
theorem g_un {op : UnaryOp} {g : PyData → Option PyData} {fa : Dn PyData} (ho : UnD X (unaryOp op) g) (ha : PE X a (tD X.K X.mg E fa)) : PE X (.UnaryOp op a pos) (tD X.K X.mg E (dUn g fa)) :=
  pe_wk (pe_un ho ha) fun σ H Q ⟨ρ, F, R, q⟩ => ⟨ρ, F, R, (out_bnd (K := X.K) (F := F) q).mono fun x ρ1 k v F1 H1 S1 d1 => by
    obtain ⟨r, hr, q2⟩ := out_lft (k _ _ _ S1)
    exact ⟨F1, x, r, S1.rel.sub, d1, hr, fun w h => q2 w F1 H1 S1 h⟩⟩

/-! ### truth -/
def truth : PyData → Option Bool
  | .none => some false
  | .bool b => some b
  | .int i => some (i != 0)
  | .str x => if x.length ≤ sizeLine then some ((x.length : Int) != 0) else none
  | .list xs => some (!xs.isEmpty)
  | .tuple xs => some (!xs.isEmpty)
  | .dict _ => none
theorem dqs_empty {F : Hp} {vs : List V} {xs : List PyData} (h : DqAll F vs xs) : vs.isEmpty = xs.isEmpty := by cases h <;> rfl
theorem tru_of {K : PySem.W.Frag} {F H : Hp} (s : Same F H) {v : V} {d : PyData} {k : Bool} (h : Dq F v d) (e : truth d = some k) : TruV K v H k := by
  cases h with
  | non => exact (Option.some.inj (show some false = some k from e)).symm
  | bl b => exact (Option.some.inj (show some b = some k from e)).symm
  | int i => exact (Option.some.inj (show some (i != 0) = some k from e)).symm
  | str x =>
    have e : (if x.length ≤ sizeLine then some ((x.length : Int) != 0) else none) = some k := e
    by_cases q : x.length ≤ sizeLine
    · rw [if_pos q] at e
      exact ⟨q, (Option.some.inj e).symm⟩
    · rw [if_neg q] at e
      cases e
  | lst ha hx => exact .inl ⟨_, .of (s _ _ ha), by rw [dqs_empty hx]; exact (Option.some.inj e).symm⟩
  | tup ha hx => exact .inr (.inl ⟨_, .of (s _ _ ha), by rw [dqs_empty hx]; exact (Option.some.inj e).symm⟩)
  | ex0 _ => cases e
  | ex1 _ _ => cases e
  | dic _ _ => cases e
  | rng _ => cases e
  | dik _ _ => cases e
def dTru (fa : Dn PyData) : Dn Bool := bnd fa fun x => lft (truth x)
theorem g_tru {fa : Dn PyData} (ha : PE X a (tD X.K X.mg E fa)) (he : ∀ whole, isTrue a X.env whole = (do let v ← whole; standAt a.pos; holding [v] (truthy v)) := by intro _; rfl) : PT X a (tT X.K X.mg E (dTru fa)) :=
  pt_wk (pt_truth ha he) fun σ H Q ⟨ρ, F, R, q⟩ => ⟨ρ, F, R, (out_bnd (K := X.K) (F := F) q).mono fun x ρ1 k v F1 H1 S1 d1 => by
    obtain ⟨c, hc, q2⟩ := out_lft (k _ _ _ S1)
    exact ⟨c, tru_of S1.rel.sub d1 hc, q2 F1 H1 S1⟩⟩
def dNotT (f : Dn Bool) : Dn Bool := bnd f fun b => ret (!b)
theorem g_notT {f : Dn Bool} (ha : PT X a (tT X.K X.mg E f)) : PT X (.UnaryOp .Not a pos) (tT X.K X.mg E (dNotT f)) :=
  pt_wk (pt_not ha) fun σ H Q ⟨ρ, F, R, q⟩ => ⟨ρ, F, R, (out_bnd (K := X.K) (F := F) q).mono fun x ρ1 k F1 H1 S1 => out_ret (k _ _ _ S1) F1 H1 S1⟩
def dNot (fa : Dn PyData) : Dn PyData := bnd fa fun x => bnd (lft (truth x)) fun b => ret (.bool (!b))
theorem g_not {fa : Dn PyData} (ha : PE X a (tD X.K X.mg E fa)) : PE X (.UnaryOp .Not a pos) (tD X.K X.mg E (dNot fa)) :=
  pe_wk (pe_notT ha) fun σ H Q ⟨ρ, F, R, q⟩ => ⟨ρ, F, R, (out_bnd (K := X.K) (F := F) q).mono fun x ρ1 k v F1 H1 S1 d1 => by
    obtain ⟨c, hc, q2⟩ := out_lft (out_bnd (K := X.K) (F := F1) (k _ _ _ S1))
    exact ⟨c, tru_of S1.rel.sub d1 hc, out_ret (q2 _ _ _ (Stp.refl S1.rel)) _ _ _ S1 (.bl _)⟩⟩
def dAndT (f g : Dn Bool) : Dn Bool := bnd f fun b => if b then g else ret false
def dOrT (f g : Dn Bool) : Dn Bool := bnd f fun b => if b then ret true else g
variable {rest : List Expr}
theorem g_and1 {f : Dn Bool} (ha : PT X a (tT X.K X.mg E f)) : PW X (.BoolOp .And [a] pos) (tT X.K X.mg E f) := pw_and1 ha
theorem g_or1 {f : Dn Bool} (ha : PT X a (tT X.K X.mg E f)) : PW X (.BoolOp .Or [a] pos) (tT X.K X.mg E f) := pw_or1 ha
theorem g_andT {f g : Dn Bool} (ha : PT X a (tT X.K X.mg E f)) (hb : PW X (.BoolOp .And (b :: rest) pos) (tT X.K X.mg E g)) : PW X (.BoolOp .And (a :: b :: rest) pos) (tT X.K X.mg E (dAndT f g)) :=
  pw_wk (pw_and ha hb) fun σ H Q ⟨ρ, F, R, q⟩ => ⟨ρ, F, R, (out_bnd (K := X.K) (F := F) q).mono fun x ρ1 k F1 H1 S1 => by
    have q2 := k _ _ _ S1
    cases x with
    | true =>
      rw [if_pos rfl] at q2
      refine iteT ?_
      exact ⟨ρ1, F1, S1.rel, q2.mono fun c ρ2 k2 F2 H2 S2 => k2 F2 H2 (S1.trans S2)⟩
    | false =>
      rw [if_neg Bool.false_ne_true] at q2
      refine iteF ?_
      exact out_ret q2 F1 H1 S1⟩
theorem g_orT {f g : Dn Bool} (ha : PT X a (tT X.K X.mg E f)) (hb : PW X (.BoolOp .Or (b :: rest) pos) (tT X.K X.mg E g)) : PW X (.BoolOp .Or (a :: b :: rest) pos) (tT X.K X.mg E (dOrT f g)) :=
  pw_wk (pw_or ha hb) fun σ H Q ⟨ρ, F, R, q⟩ => ⟨ρ, F, R, (out_bnd (K := X.K) (F := F) q).mono fun x ρ1 k F1 H1 S1 => by
    have q2 := k _ _ _ S1
    cases x with
    | true =>
      rw [if_pos rfl] at q2
      refine iteT ?_
      exact out_ret q2 F1 H1 S1
    | false =>
      rw [if_neg Bool.false_ne_true] at q2
      refine iteF ?_
      exact ⟨ρ1, F1, S1.rel, q2.mono fun c ρ2 k2 F2 H2 S2 => k2 F2 H2 (S1.trans S2)⟩⟩
theorem g_wT {e : Expr} {f : Dn Bool} (h : PW X e (tT X.K X.mg E f)) : PT X e (tT X.K X.mg E f) := h.pt
def dAnd (f g : Dn PyData) : Dn PyData := bnd f fun x => bnd (lft (truth x)) fun b => if b then g else ret x
def dOr (f : Dn Rv) (g : Dn Rv) : Dn Rv := bnd f fun x => bnd (lft (truth x.d)) fun b => if b then ret x else g
theorem g_one {op} {f : Dn PyData} (h : PE X a (tD X.K X.mg E f)) : PE X (.BoolOp op [a] pos) (tD X.K X.mg E f) := pe_one h
theorem g_oneE {op} {f : Dn Rv} (h : PE X a (tE X.K X.mg E f)) : PE X (.BoolOp op [a] pos) (tE X.K X.mg E f) := pe_one h
theorem g_and {f g : Dn PyData} (ha : PE X a (tD X.K X.mg E f)) (hb : PE X (.BoolOp .And (b :: rest) pos) (tD X.K X.mg E g)) : PE X (.BoolOp .And (a :: b :: rest) pos) (tD X.K X.mg E (dAnd f g)) :=
  pe_wk (pe_andT ha hb) fun σ H Q ⟨ρ, F, R, q⟩ => ⟨ρ, F, R, (out_bnd (K := X.K) (F := F) q).mono fun x ρ1 k v F1 H1 S1 d1 => by
    obtain ⟨c, hc, q2⟩ := out_lft (out_bnd (K := X.K) (F := F1) (k _ _ _ S1))
    have q3 := q2 _ _ _ (Stp.refl S1.rel)
    refine ⟨c, tru_of S1.rel.sub d1 hc, ?_⟩
    cases c with
    | true =>
      rw [if_pos rfl] at q3 ⊢
      exact ⟨ρ1, F1, S1.rel, q3.mono fun c ρ2 k2 w F2 H2 S2 d2 => k2 w F2 H2 (S1.trans S2) d2⟩
    | false =>
      rw [if_neg Bool.false_ne_true] at q3 ⊢
      exact out_ret q3 v F1 H1 S1 d1⟩
theorem g_or {f g : Dn Rv} (ha : PE X a (tE X.K X.mg E f)) (hb : PE X (.BoolOp .Or (b :: rest) pos) (tE X.K X.mg E g)) : PE X (.BoolOp .Or (a :: b :: rest) pos) (tE X.K X.mg E (dOr f g)) :=
  pe_wk (pe_orT ha hb) fun σ H Q ⟨ρ, F, R, q⟩ => ⟨ρ, F, R, (out_bnd (K := X.K) (F := F) q).mono fun x ρ1 k v F1 H1 S1 d1 => by
    obtain ⟨c, hc, q2⟩ := out_lft (out_bnd (K := X.K) (F := F1) (k _ _ _ S1))
    have q3 := q2 _ _ _ (Stp.refl S1.rel)
    have ht : TruV X.K v H1 c := by
      cases x with
      | fz d => exact tru_of S1.rel.sub d1 hc
      | oo c =>
        obtain ⟨p, o, rfl, _, h2, _, h4, _⟩ := d1
        cases c with
        | d ps => cases hc
        | k ps => cases hc
        | l xs =>
        obtain ⟨vs, rfl, h4⟩ := h4
        exact .inl ⟨_, .of h2, by rw [dqs_empty h4]; exact (Option.some.inj hc).symm⟩
    refine ⟨c, ht, ?_⟩
    cases c with
    | true =>
      rw [if_pos rfl] at q3 ⊢
      exact out_ret q3 v F1 H1 S1 d1
    | false =>
      rw [if_neg Bool.false_ne_true] at q3 ⊢
      exact ⟨ρ1, F1, S1.rel, q3.mono fun c ρ2 k2 w F2 H2 S2 d2 => k2 w F2 H2 (S1.trans S2) (d2.before S1)⟩⟩
/-! ### a if c else b -/
def dIf {α : Type} (c : Dn Bool) (f g : Dn α) : Dn α := bnd c fun b => if b then f else g
theorem g_if {c : Expr} {fc : Dn Bool} {f g : Dn PyData} (hc : PT X c (tT X.K X.mg E fc)) (ha : PE X a (tD X.K X.mg E f)) (hb : PE X b (tD X.K X.mg E g)) : PE X (.IfExp c a b pos) (tD X.K X.mg E (dIf fc f g)) :=
  pe_wk (pe_ifExp hc ha hb) fun σ H Q ⟨ρ, F, R, q⟩ => ⟨ρ, F, R, (out_bnd (K := X.K) (F := F) q).mono fun x ρ1 k F1 H1 S1 => by
    have q2 := k _ _ _ S1
    cases x with
    | true =>
      rw [if_pos rfl] at q2
      refine iteT ?_
      exact ⟨ρ1, F1, S1.rel, q2.mono fun c ρ2 k2 w F2 H2 S2 d2 => k2 w F2 H2 (S1.trans S2) d2⟩
    | false =>
      rw [if_neg Bool.false_ne_true] at q2
      refine iteF ?_
      exact ⟨ρ1, F1, S1.rel, q2.mono fun c ρ2 k2 w F2 H2 S2 d2 => k2 w F2 H2 (S1.trans S2) d2⟩⟩
/-! ### displays -/
def dNil : Dn (List PyData) := ret []
def dCons (f : Dn PyData) (g : Dn (List PyData)) : Dn (List PyData) := bnd f fun d => bnd g fun ds => ret (d :: ds)
theorem gs_nil : PA X [] (tDs X.K X.mg E dNil) := pa_wk pa_nil fun σ H Q ⟨ρ, F, R, q⟩ => out_ret q [] F H (Stp.refl R) .nil
theorem gs_cons {e : Expr} {es : List Expr} {f : Dn PyData} {g : Dn (List PyData)} (h1 : PE X e (tD X.K X.mg E f)) (h2 : PA X es (tDs X.K X.mg E g)) (hs : starEach (e :: es) X.env = (false, eval e X.env) :: starEach es X.env := by rfl) :
    PA X (e :: es) (tDs X.K X.mg E (dCons f g)) :=
  pa_wk (pa_cons h1 h2 hs) fun σ H Q ⟨ρ, F, R, q⟩ => ⟨ρ, F, R, (out_bnd (K := X.K) (F := F) q).mono fun x ρ1 k v F1 H1 S1 d1 =>
    ⟨ρ1, F1, S1.rel, (out_bnd (K := X.K) (F := F1) (k _ _ _ S1)).mono fun ds ρ2 k2 vs F2 H2 S2 d2 => out_ret (k2 _ _ _ S2) _ F2 H2 (S1.trans S2) (.cons (dp_mono S2.ff x v d1) d2)⟩⟩
def okLen (n : Nat) : Bool := decide (n ≤ 16777216)
theorem okLen_le {n : Nat} (h : okLen n = true) : n ≤ sizeLine := by rw [sizeLine_eq]; exact of_decide_eq_true h
def dTup (f : Dn (List PyData)) : Dn PyData := bnd f fun ds => if okLen ds.length then ret (.tuple ds) else lft none
def dLst (f : Dn (List PyData)) : Dn Rv := bnd f fun ds => if okLen ds.length then ret (.ol ds) else lft none
theorem g_tup {es : List Expr} {x1} {f : Dn (List PyData)} (h : PA X es (tDs X.K X.mg E f)) : PE X (.Tuple es x1 pos) (tD X.K X.mg E (dTup f)) :=
  pe_wk (pe_tup h) fun σ H Q ⟨ρ, F, R, q⟩ => ⟨ρ, F, R, (out_bnd (K := X.K) (F := F) q).mono fun ds ρ1 k vs F1 H1 S1 d1 => by
    have q2 := k _ _ _ S1
    by_cases hl : okLen ds.length = true
    · rw [if_pos hl] at q2
      have e := dps_len d1
      refine ⟨by rw [e]; exact okLen_le hl, fun p np => ?_⟩
      have g := Grow.new (o := .tup vs) S1.rel.sub np
      exact out_ret q2 _ _ _ (S1.trans (g.stp S1.rel)) (.tup upd_same (dps_mono g.ff ds vs d1))
    · rw [if_neg hl] at q2
      exact (show False from q2).elim⟩
theorem g_lst {es : List Expr} {f : Dn (List PyData)} (h : PA X es (tDs X.K X.mg E f)) : PE X (.List es pos) (tE X.K X.mg E (dLst f)) :=
  pe_wk (pe_lst h) fun σ H Q ⟨ρ, F, R, q⟩ => ⟨ρ, F, R, (out_bnd (K := X.K) (F := F) q).mono fun ds ρ1 k vs F1 H1 S1 d1 => by
    have q2 := k _ _ _ S1
    by_cases hl : okLen ds.length = true
    · rw [if_pos hl] at q2
      have e := dps_len d1
      refine ⟨by rw [e]; exact okLen_le hl, fun p np => ?_⟩
      have g := Grow.own (o := .lst vs) S1.rel.sub np
      have S2 := g.stp S1.rel
      have nk : NOk H1 F1 (upd H1 p (.lst vs)) (.ol ds) (.ref p) := ⟨p, _, rfl, np, upd_same, S1.rel.sub.free np, vs, rfl, d1⟩
      exact out_ret q2 _ _ _ (S1.trans S2) ((nk.rok S1.rel).before S1)
    · rw [if_neg hl] at q2
      exact (show False from q2).elim⟩

/-! ### built-in functions -/
def CallD (X : Cx) (f : Value) (g : List PyData → Option Rv) : Prop :=
  CallR X f fun xs H Q => ∃ F ds r, Same F H ∧ DqAll F xs ds ∧ g ds = some r ∧ ∀ v F' H', Grow F H F' H' → NOk H F' H' r v → Q v H'
def dCall (g : List PyData → Option Rv) (f : Dn (List PyData)) : Dn Rv := bnd f fun ds => lft (g ds)
theorem call_wk {K : PySem.W.Frag} {mg : Str → Option Value} {g : List PyData → Option Rv} {f : Dn (List PyData)} (σ : St) (H : Hp) (Q : VK) (h : tE K mg E (dCall g f) σ H Q) :
    tCB (fun xs H Q => ∃ F ds r, Same F H ∧ DqAll F xs ds ∧ g ds = some r ∧ ∀ v F' H', Grow F H F' H' → NOk H F' H' r v → Q v H') (tDs K mg E f) σ H Q := by
  obtain ⟨ρ, F, R, q⟩ := h
  refine ⟨ρ, F, R, (out_bnd (K := K) (F := F) q).mono fun ds ρ1 k vs F1 H1 S1 d1 => ?_⟩
  obtain ⟨r, hr, q2⟩ := out_lft (k _ _ _ S1)
  exact ⟨F1, ds, r, S1.rel.sub, d1, hr, fun v F2 H2 gr nk => q2 v F2 H2 (S1.trans (gr.stp S1.rel)) ((nk.rok S1.rel).before S1)⟩
theorem g_callB {x : Str} {p : Pos} {e : Expr} {es : List Expr} {id : String} {g : List PyData → Option Rv} {f : Dn (List PyData)} (hc : CallD X (.builtin id) g) (hg : Gl X x) (hm : X.mg x = none) (hv : bootBuiltins x = some (.builtin id)) (ha : PA X (e :: es) (tDs X.K X.mg E f))
    (hn : x ≠ "__name__" := by decide) (hdb : (x == ("__debug__" : Str)) = false := by decide) (he : starEach (e :: es) X.env = (false, eval e X.env) :: starEach es X.env := by rfl) (hpl : (backTo pos (starEach es X.env)).any (·.1) = false := by rfl) :
    PE X (.Call (.Name x p) (e :: es) [] pos) (tE X.K X.mg E (dCall g f)) := pe_wk (pe_callB hc hg hm hv ha hn hdb he hpl) call_wk
theorem g_callTy {x : Str} {p : Pos} {e : Expr} {es : List Expr} {T : String} {g : List PyData → Option Rv} {f : Dn (List PyData)} (hc : CallD X (.type T) g) (hg : Gl X x) (hm : X.mg x = none) (hv : bootBuiltins x = some (.type T)) (ha : PA X (e :: es) (tDs X.K X.mg E f))
    (hn : x ≠ "__name__" := by decide) (hdb : (x == ("__debug__" : Str)) = false := by decide) (he : starEach (e :: es) X.env = (false, eval e X.env) :: starEach es X.env := by rfl) (hpl : (backTo pos (starEach es X.env)).any (·.1) = false := by rfl) :
    PE X (.Call (.Name x p) (e :: es) [] pos) (tE X.K X.mg E (dCall g f)) := pe_wk (pe_callTy hc hg hm hv ha hn hdb he hpl) call_wk

/-! ### items, slices -/
def IxD (X : Cx) (g : PyData → PyData → Option Rv) : Prop := IxR X fun x y H Q => ∃ F d e r, Same F H ∧ Dq F x d ∧ Dq F y e ∧ g d e = some r ∧ ∀ v F' H', Grow F H F' H' → NOk H F' H' r v → Q v H'
theorem g_ix {g : PyData → PyData → Option Rv} {fa fb : Dn PyData} (ho : IxD X g) (ha : PE X a (tD X.K X.mg E fa)) (hb : PE X b (tD X.K X.mg E fb)) (hs : PlainIx b := by intro _ _; rfl) : PE X (.Subscript a b pos) (tE X.K X.mg E (dBin g fa fb)) :=
  pe_wk (pe_ix ho ha hb hs) (bin_wk fun _ _ _ _ h => h)
def tO (K : PySem.W.Frag) (mg : Str → Option Value) (E : XK) (f : Dn (Option Int)) : TO := fun σ H Q => ∃ ρ F, Rel K ρ σ F H ∧ Out mg E ρ σ H (f ρ) fun o ρ' => ∀ F' H', Stp K ρ σ F H ρ' σ F' H' → Q o H'
def intOf : PyData → Option Int
  | .int i => some i
  | _ => none
def dOn (f : Dn PyData) : Dn (Option Int) := bnd f fun d => bnd (lft (intOf d)) fun i => ret (some i)
def dOff : Dn (Option Int) := ret none
theorem po_wk {e : Option Expr} {t t' : TO} (h : PO X e t) (w : ∀ σ H Q, t' σ H Q → t σ H Q) : PO X e t' := ⟨fun pins s σ H Q I q => h.run pins s σ H Q I (w σ H Q q)⟩
theorem go_none : PO X none (tO X.K X.mg E dOff) := po_wk po_none fun σ H Q ⟨ρ, F, R, q⟩ => out_ret q F H (Stp.refl R)
theorem go_some {e : Expr} {f : Dn PyData} (h : PE X e (tD X.K X.mg E f)) : PO X (some e) (tO X.K X.mg E (dOn f)) :=
  po_wk (po_some h) fun σ H Q ⟨ρ, F, R, q⟩ => ⟨ρ, F, R, (out_bnd (K := X.K) (F := F) q).mono fun x ρ1 k v F1 H1 S1 d1 => by
    obtain ⟨i, hi, q2⟩ := out_lft (out_bnd (K := X.K) (F := F1) (k _ _ _ S1))
    have e : x = .int i := by
      cases x <;> simp [intOf] at hi
      rw [hi]
    subst e
    cases d1
    exact ⟨i, rfl, out_ret (q2 _ _ _ (Stp.refl S1.rel)) F1 H1 S1⟩⟩
def cutD (xs : List PyData) (lo hi : Option Int) : List PyData := (xs.drop (HT.sIx xs.length 0 lo)).take (HT.sIx xs.length xs.length hi - HT.sIx xs.length 0 lo)
theorem dqs_cut {F : Hp} {vs : List V} {xs : List PyData} (h : DqAll F vs xs) (lo hi : Option Int) : DqAll F (cutV vs lo hi) (cutD xs lo hi) := by
  unfold cutV cutD
  rw [dps_len h]
  exact dps_take _ (dps_drop _ h)
def sliceD (x : PyData) (lo hi : Option Int) : Option Rv := match x with
  | .list xs => some (.ol (cutD xs lo hi))
  | .tuple xs => some (.fz (.tuple (cutD xs lo hi)))
  | _ => none
def rSlD (x : V) (lo hi : Option Int) (H : Hp) (Q : VK) : Prop := ∃ F d r, Same F H ∧ Dq F x d ∧ sliceD d lo hi = some r ∧ ∀ v F' H', Grow F H F' H' → NOk H F' H' r v → Q v H'
theorem slR_wk {r r' : V → Option Int → Option Int → Hp → VK → Prop} (h : SlR X r) (w : ∀ x lo hi H Q, r' x lo hi H Q → r x lo hi H Q) : SlR X r' := by
  intro pins s σ H x v vl vu lo hi sl Q I rx hs pl pu q
  exact h pins s σ H x v vl vu lo hi sl Q I rx hs pl pu (w _ _ _ _ _ q)
theorem sl_D : SlR X rSlD := slR_wk (sl_list.or sl_tupA) fun x lo hi H Q h => by
  obtain ⟨F, d, r, s, dq, hr, q⟩ := h
  cases dq with
  | @lst a vs xs ha hx =>
    cases hr
    refine .inl ⟨a, vs, rfl, .of (s _ _ ha), fun p np => q _ _ _ (Grow.own s np) ⟨p, _, rfl, np, upd_same, s.free np, _, rfl, dqs_cut hx lo hi⟩⟩
  | @tup a vs xs ha hx =>
    cases hr
    refine .inr ⟨a, vs, rfl, .of (s _ _ ha), fun hw => q _ _ _ (Grow.refl s) ?_, fun _ p np => q _ _ _ (Grow.new s np) (.tup upd_same (dps_mono (same_new (s.free np)) _ _ (dqs_cut hx lo hi)))⟩
    refine (.tup ha ?_ : Dq F (.ref a) (.tuple (cutD xs lo hi)))
    have e : cutD xs lo hi = xs := by
      unfold cutD
      rw [← dps_len hx, hw.1, hw.2, List.drop_zero, dps_len hx, Nat.sub_zero, List.take_length]
    rw [e]
    exact hx
  | _ => cases hr
def dSl (f : Dn PyData) (lo hi : Dn (Option Int)) : Dn Rv := bnd f fun x => bnd lo fun l => bnd hi fun h => lft (sliceD x l h)
theorem g_slice {e : Expr} {lo hi : Option Expr} {p2 : Pos} {f : Dn PyData} {fl fh : Dn (Option Int)} (he : PE X e (tD X.K X.mg E f)) (hl : PO X lo (tO X.K X.mg E fl)) (hu : PO X hi (tO X.K X.mg E fh)) :
    PE X (.Subscript e (.Slice lo hi none p2) pos) (tE X.K X.mg E (dSl f fl fh)) :=
  pe_wk (pe_slice sl_D he hl hu) fun σ H Q ⟨ρ, F, R, q⟩ => ⟨ρ, F, R, (out_bnd (K := X.K) (F := F) q).mono fun x ρ1 k v F1 H1 S1 d1 =>
    ⟨ρ1, F1, S1.rel, (out_bnd (K := X.K) (F := F1) (k _ _ _ S1)).mono fun l ρ2 k2 F2 H2 S2 =>
      ⟨ρ2, F2, S2.rel, (out_bnd (K := X.K) (F := F2) (k2 _ _ _ S2)).mono fun h ρ3 k3 F3 H3 S3 => by
        obtain ⟨r, hr, q4⟩ := out_lft (k3 _ _ _ S3)
        have S13 := (S1.trans S2).trans S3
        exact ⟨F3, x, r, S3.rel.sub, dp_mono S3.ff x v (dp_mono S2.ff x v d1), hr, fun w F4 H4 gr nk => q4 w F4 H4 (S13.trans (gr.stp S3.rel)) ((nk.rok S3.rel).before S13)⟩⟩⟩⟩
end
end Gx

/-! G4: statements, defs, calls. -/
namespace Gx
open PySem PySem.Spec L2
open PyProof.Rows hiding St

section
variable {X : Cx} {E : XK} {pos : Pos} {a b : Expr} {st : Stmt} {rest : List Stmt}
/-! ### blocks -/
def sNx : Dn Fl := ret .nx
def sSeq (f g : Dn Fl) : Dn Fl := bnd f fun fl => match fl with
  | .nx => g
  | fl => ret fl
theorem gss_nil : PSs X [] (tS X.K X.mg E sNx) := pss_wk pss_nil fun D σ H ⟨ρ, F, R, q⟩ => out_ret q σ F H (Stp.refl R)
theorem seq_wk {K : PySem.W.Frag} {mg : Str → Option Value} {f g : Dn Fl} (D : Ends) (σ : St) (H : Hp) (h : tS K mg E (sSeq f g) D σ H) : tSeq (tS K mg E f) (tS K mg E g) D σ H := by
  obtain ⟨ρ, F, R, q⟩ := h
  refine ⟨ρ, F, R, (out_bnd (K := K) (F := F) q).mono fun fl ρ1 k => ?_⟩
  cases fl with
  | nx =>
    intro σ1 F1 H1 S1
    refine ⟨ρ1, F1, S1.rel, (k σ1 F1 H1 S1).mono fun fl2 ρ2 k2 => ?_⟩
    cases fl2 with
    | nx => exact fun σ' F' H' S' => k2 σ' F' H' (S1.trans S')
    | bk => exact fun σ' F' H' S' => k2 σ' F' H' (S1.trans S')
    | ct => exact fun σ' F' H' S' => k2 σ' F' H' (S1.trans S')
    | rt r => exact fun σ' v F' H' S' ro => k2 σ' v F' H' (S1.trans S') (ro.before S1)
  | bk => exact fun σ' F' H' S' => out_ret (k σ' F' H' S') σ' F' H' S'
  | ct => exact fun σ' F' H' S' => out_ret (k σ' F' H' S') σ' F' H' S'
  | rt r => exact fun σ' v F' H' S' ro => out_ret (k σ' F' H' S') σ' v F' H' S' ro
theorem gss_cons {f g : Dn Fl} (h1 : PS X st (tS X.K X.mg E f)) (h2 : PSs X rest (tS X.K X.mg E g)) : PSs X (st :: rest) (tS X.K X.mg E (sSeq f g)) := pss_wk (pss_cons h1 h2) seq_wk
theorem gss_one {f : Dn Fl} (h1 : PS X st (tS X.K X.mg E f)) : PSs X [st] (tS X.K X.mg E f) := pss_one h1
def sRet (f : Dn Rv) : Dn Fl := bnd f fun r => ret (.rt r)
theorem gs_ret {e : Expr} {f : Dn Rv} (h : PE X e (tE X.K X.mg E f)) : PS X (.Return (some e) pos) (tS X.K X.mg E (sRet f)) :=
  ps_wk (ps_ret h) fun D σ H ⟨ρ, F, R, q⟩ => ⟨ρ, F, R, (out_bnd (K := X.K) (F := F) q).mono fun r ρ1 k v F1 H1 S1 ro => out_ret (k _ _ _ S1) σ v F1 H1 S1 ro⟩
def sIf (c : Dn Bool) (f g : Dn Fl) : Dn Fl := bnd c fun b => if b then f else g
theorem gs_if {c : Expr} {p q : List Stmt} {fc : Dn Bool} {f g : Dn Fl} (hc : PT X c (tT X.K X.mg E fc)) (ha : PSs X p (tS X.K X.mg E f)) (hb : PSs X q (tS X.K X.mg E g)) : PS X (.If c p q pos) (tS X.K X.mg E (sIf fc f g)) :=
  ps_wk (ps_if hc ha hb) fun D σ H ⟨ρ, F, R, q⟩ => ⟨ρ, F, R, (out_bnd (K := X.K) (F := F) q).mono fun x ρ1 k F1 H1 S1 => by
    have q2 := k _ _ _ S1
    cases x with
    | true =>
      rw [if_pos rfl] at q2
      refine iteT ⟨ρ1, F1, S1.rel, q2.mono fun fl ρ2 k2 => ?_⟩
      cases fl with
      | nx => exact fun σ' F' H' S' => k2 σ' F' H' (S1.trans S')
      | bk => exact fun σ' F' H' S' => k2 σ' F' H' (S1.trans S')
      | ct => exact fun σ' F' H' S' => k2 σ' F' H' (S1.trans S')
      | rt r => exact fun σ' v F' H' S' ro => k2 σ' v F' H' (S1.trans S') (ro.before S1)
    | false =>
      rw [if_neg Bool.false_ne_true] at q2
      refine iteF ⟨ρ1, F1, S1.rel, q2.mono fun fl ρ2 k2 => ?_⟩
      cases fl with
      | nx => exact fun σ' F' H' S' => k2 σ' F' H' (S1.trans S')
      | bk => exact fun σ' F' H' S' => k2 σ' F' H' (S1.trans S')
      | ct => exact fun σ' F' H' S' => k2 σ' F' H' (S1.trans S')
      | rt r => exact fun σ' v F' H' S' ro => k2 σ' v F' H' (S1.trans S') (ro.before S1)⟩
def sDrop (f : Dn PyData) : Dn Fl := bnd f fun _ => ret .nx
/-! ### stores -/
def isBl : Option En → Bool
  | some (.bo _) => true
  | none => true
  | _ => false
theorem isBl_f {ρ : Ev} {i : Nat} (h : isBl ρ[i]? = false) : (∀ xs, ρ[i]? ≠ some (.bo xs)) ∧ i < ρ.length := by
  cases e : ρ[i]? with
  | none => rw [e] at h; cases h
  | some en =>
    refine ⟨fun xs z => ?_, (List.getElem?_eq_some_iff.mp e).1⟩
    rw [e] at h
    cases z
    cases h
def put (i : Nat) (r : Rv) : Dn Fl := fun ρ => if isBl ρ[i]? then .st else .ok (.nx, ρ.set i r.en)
theorem put_stp {K : PySem.W.Frag} {mg : Str → Option Value} {ρ ρ1 : Ev} {σ σ1 : St} {F H F1 H1 : Hp} {i : Nat} {r : Rv} {v : V} {P : Fl → Ev → Prop} (S : Stp K ρ σ F H ρ1 σ1 F1 H1) (ro : ROk ρ σ H ρ1 σ1 F1 H1 r v) (h : Out mg E ρ1 σ1 H1 (put i r ρ1) P) :
    P .nx (ρ1.set i r.en) ∧ Stp K ρ σ F H (ρ1.set i r.en) (σ1.set i (some v)) F1 H1 := by
  unfold put at h
  cases q : isBl ρ1[i]? with
  | true => rw [q] at h; exact (show False from h).elim
  | false =>
    rw [q] at h
    refine ⟨h, ?_⟩
    obtain ⟨nb, hi⟩ := isBl_f q
    cases r with
    | fz d => exact store_fz S nb hi ro
    | oo xs =>
      obtain ⟨p, vs, rfl, h1, h2, h3, h4, h5⟩ := ro
      exact store_oo S nb hi h1 h2 h3 h4 h5
def sSet (i : Nat) (f : Dn Rv) : Dn Fl := bnd f fun r => put i r
theorem set_wk {K : PySem.W.Frag} {mg : Str → Option Value} {i : Nat} {f : Dn Rv} (D : Ends) (σ : St) (H : Hp) (h : tS K mg E (sSet i f) D σ H) : tAsg (tE K mg E f) (gName i) D σ H := by
  obtain ⟨ρ, F, R, q⟩ := h
  refine ⟨ρ, F, R, (out_bnd (K := K) (F := F) q).mono fun r ρ1 k v F1 H1 S1 ro => ?_⟩
  obtain ⟨q2, S2⟩ := put_stp S1 ro (k _ _ _ S1)
  exact q2 _ F1 H1 S2
theorem gs_set (i : Nat) {x : Str} {e : Expr} {pos' : Pos} {f : Dn Rv} (hN : X.N.Nodup) (he : PE X e (tE X.K X.mg E f)) (hi : X.N[i]? = some x := by rfl) (hx : Loc X.env.scope x := by first | exact Or.inl rfl | exact Or.inr rfl) (hs : swapsWith e (some (.Name x pos')) pos.line X.env = pure false := by rfl)
    (hf : X.fn x = true ∨ X.env.scope.names.lookup x = some .local := by first | exact .inl rfl | exact .inr rfl | assumption) : PS X (.Assign [.Name x pos'] e pos) (tS X.K X.mg E (sSet i f)) :=
  ps_wk (ps_set hN hi hx he hs hf) set_wk

/-! ### targets -/
def tGd (K : PySem.W.Frag) (ts : List Nat) (h : PyData → Ev → Option Ev) : TG := fun v σ H Q => ∃ d ρ F ρ' , Rel K ρ σ F H ∧ Dq F v d ∧ h d ρ = some ρ' ∧ ∀ σ', Stp K ρ σ F H ρ' σ' F H → (∀ j, j ∉ ts → σ'[j]? = σ[j]?) → Q σ' H
def hName (i : Nat) (d : PyData) (ρ : Ev) : Option Ev := if isBl ρ[i]? then none else some (ρ.set i (.fz d))
theorem pg_wk {X : Cx} {tg : Expr} {t t' : TG} (h : PG X tg t) (w : ∀ v σ H Q, t' v σ H Q → t v σ H Q) : PG X tg t' := ⟨fun pins s σ H v u Q I r q => h.run pins s σ H v u Q I r (w v σ H Q q)⟩
theorem hName_stp {K : PySem.W.Frag} {ρ ρ' : Ev} {σ : St} {F H : Hp} {i : Nat} {v : V} {d : PyData} (R : Rel K ρ σ F H) (dq : Dq F v d) (e : hName i d ρ = some ρ') : Stp K ρ σ F H ρ' (σ.set i (some v)) F H := by
  unfold hName at e
  cases q : isBl ρ[i]? with
  | true => rw [q] at e; cases e
  | false =>
    rw [q] at e
    cases e
    obtain ⟨nb, hi⟩ := isBl_f q
    exact store_fz (Stp.refl R) nb hi dq
theorem gg_name (i : Nat) {x : Str} (hN : X.N.Nodup) (hi : X.N[i]? = some x := by rfl) (hx : Loc X.env.scope x := by first | exact Or.inl rfl | exact Or.inr rfl) (hf : X.fn x = true ∨ X.env.scope.names.lookup x = some .local := by first | exact .inl rfl | exact .inr rfl | assumption) :
    PG X (.Name x pos) (tGd X.K [i] (hName i)) :=
  pg_wk (pg_name hN hi hx hf) fun v σ H Q ⟨d, ρ, F, ρ', R, dq, e, q⟩ => q _ (hName_stp R dq e) fun j hj => by
    rw [List.getElem?_set_ne]
    intro z
    exact hj (by rw [z]; simp)
def tGds (K : PySem.W.Frag) (ts : List Nat) (h : List PyData → Ev → Option Ev) : TGs := fun vs σ H Q => ∃ ds ρ F ρ', Rel K ρ σ F H ∧ DqAll F vs ds ∧ h ds ρ = some ρ' ∧ ∀ σ', Stp K ρ σ F H ρ' σ' F H → (∀ j, j ∉ ts → σ'[j]? = σ[j]?) → Q σ' H
theorem pgs_wk {X : Cx} {tg : List Expr} {t t' : TGs} (h : PGs X tg t) (w : ∀ v σ H Q, t' v σ H Q → t v σ H Q) : PGs X tg t' := ⟨fun pins s σ H v u Q I r q => h.run pins s σ H v u Q I r (w v σ H Q q)⟩
def hNil (ds : List PyData) (ρ : Ev) : Option Ev := match ds with
  | [] => some ρ
  | _ => none
def hCons (h : PyData → Ev → Option Ev) (g : List PyData → Ev → Option Ev) (ds : List PyData) (ρ : Ev) : Option Ev := match ds with
  | [] => none
  | d :: ds => (h d ρ).bind (g ds)
theorem ggs_nil : PGs X [] (tGds X.K [] hNil) := pgs_wk pgs_nil fun vs σ H Q ⟨ds, ρ, F, ρ', R, dq, e, q⟩ => by
  cases dq with
  | nil =>
    cases e
    exact ⟨rfl, q σ (Stp.refl R) fun _ _ => rfl⟩
  | cons _ _ => cases e
theorem ggs_cons {e : Expr} {es : List Expr} {ts us : List Nat} {h : PyData → Ev → Option Ev} {g : List PyData → Ev → Option Ev} (h1 : PG X e (tGd X.K ts h)) (h2 : PGs X es (tGds X.K us g)) (hs : (assignEach (e :: es) X.env).map (·.2) = assign e X.env :: (assignEach es X.env).map (·.2) := by rfl) :
    PGs X (e :: es) (tGds X.K (ts ++ us) (hCons h g)) := pgs_wk (pgs_cons h1 h2 hs) fun vs σ H Q ⟨ds, ρ, F, ρ', R, dq, e, q⟩ => by
  cases dq with
  | nil => cases e
  | @cons v vs d ds d1 d2 =>
    have e' : (h d ρ).bind (g ds) = some ρ' := e
    obtain ⟨ρ1, e1, e2⟩ := Option.bind_eq_some_iff.mp e'
    exact ⟨v, vs, rfl, d, ρ, F, ρ1, R, d1, e1, fun σ1 S1 k1 => ⟨ds, ρ1, F, ρ', S1.rel, d2, e2, fun σ2 S2 k2 => q σ2 (S1.trans S2) fun j hj => by
      rw [List.mem_append, not_or] at hj
      exact (k2 j hj.2).trans (k1 j hj.1)⟩⟩
def hTup (n : Nat) (g : List PyData → Ev → Option Ev) (d : PyData) (ρ : Ev) : Option Ev := match d with
  | .tuple ds => if ds.length = n then g ds ρ else none
  | _ => none
theorem gg_tup {es : List Expr} {k n : Nat} {ts : List Nat} {g : List PyData → Ev → Option Ev} (hc : X.calm = true) (h : PGs X es (tGds X.K ts g)) (hn : (assignEach es X.env).length = n := by rfl) (hst : (assignEach es X.env).findIdx? (·.1) = none := by rfl) :
    PG X (.Tuple es k pos) (tGd X.K ts (hTup n g)) := pg_wk (pg_tup hc h hn hst) fun v σ H Q ⟨d, ρ, F, ρ', R, dq, e, q⟩ => by
  cases dq with
  | @tup a vs ds ha hx =>
    have e' : (if ds.length = n then g ds ρ else none) = some ρ' := e
    by_cases hl : ds.length = n
    · rw [if_pos hl] at e'
      exact ⟨a, vs, rfl, .of (R.sub _ _ ha), by rw [dps_len hx]; exact hl, ds, ρ, F, ρ', R, hx, e', q⟩
    · rw [if_neg hl] at e'
      cases e'
  | _ => cases e
def sAsg (f : Dn PyData) (h : PyData → Ev → Option Ev) : Dn Fl := bnd f fun d => fun ρ => match h d ρ with
  | none => .st
  | some ρ' => .ok (.nx, ρ')
theorem gs_asg {tg e : Expr} {f : Dn PyData} {ts : List Nat} {h : PyData → Ev → Option Ev} (he : PE X e (tD X.K X.mg E f)) (hg : PG X tg (tGd X.K ts h)) (hs : swapsWithSole [tg] e pos.line X.env = pure false := by rfl) (hw : swappedStores [tg] e X.env = pure none := by rfl)
    (h1 : (assignEach [tg] X.env).map (·.2) = [assign tg X.env] := by rfl) : PS X (.Assign [tg] e pos) (tS X.K X.mg E (sAsg f h)) :=
  ps_wk (ps_asg he hg hs hw h1) fun D σ H ⟨ρ, F, R, q⟩ => ⟨ρ, F, R, (out_bnd (K := X.K) (F := F) q).mono fun d ρ1 k v F1 H1 S1 dq => by
    have q2 := k _ _ _ S1
    cases e : h d ρ1 with
    | none => rw [e] at q2; exact (show False from q2).elim
    | some ρ2 =>
      rw [e] at q2
      exact ⟨d, ρ1, F1, ρ2, S1.rel, dq, e, fun σ' S2 _ => q2 σ' F1 H1 (S1.trans S2)⟩⟩

/-! ### arguments -/
inductive Ar where
  | fz (d : PyData)
  | tq (c : Cn)
  | sl (i : Nat)
  | sc (ns : Sc)
abbrev Ar.tp (xs : List PyData) : Ar := .tq (.l xs)
structure AOk (K : PySem.W.Frag) (ρ : Ev) (σ : St) (H : Hp) (ρ1 : Ev) (F1 H1 : Hp) (as : List Ar) (vs : List V) : Prop where
  ln : vs.length = as.length
  fz : ∀ (k : Nat) (d : PyData), as[k]? = some (.fz d) → ∃ v, vs[k]? = some v ∧ Dq F1 v d
  sl : ∀ (k i : Nat), as[k]? = some (.sl i) → ∃ v, vs[k]? = some v ∧ σ[i]? = some (some v)
  tp : ∀ (k : Nat) (xs : Cn), as[k]? = some (.tq xs) → ∃ p ws, vs[k]? = some (.ref p) ∧ (OwnL ρ σ p ∨ H p = none) ∧ H1 p = some ws ∧ F1 p = none ∧ xs.at F1 p ws ∧ ¬ Own ρ1 σ p
  sc : ∀ (k : Nat) (ns : Sc), as[k]? = some (.sc ns) → ∃ a, vs[k]? = some (.ref a) ∧ ns.at K F1 a
  ap : ∀ (k l : Nat) (xs ys : Cn) (p : Addr), as[k]? = some (.tq xs) → as[l]? = some (.tq ys) → vs[k]? = some (.ref p) → vs[l]? = some (.ref p) → k = l
def tAr (K : PySem.W.Frag) (mg : Str → Option Value) (E : XK) (f : Dn (List Ar)) : TA := fun σ H Q => ∃ ρ F, Rel K ρ σ F H ∧ Out mg E ρ σ H (f ρ) fun as ρ' => ∀ vs F' H', Stp K ρ σ F H ρ' σ F' H' → AOk K ρ σ H ρ' F' H' as vs → Q vs H'
def aNil : Dn (List Ar) := ret []
theorem ga_nil : PA X [] (tAr X.K X.mg E aNil) := pa_wk pa_nil fun σ H Q ⟨ρ, F, R, q⟩ => out_ret q [] F H (Stp.refl R)
  ⟨rfl, fun k d h => by simp at h, fun k d h => by simp at h, fun k d h => by simp at h, fun k d h => by simp at h, fun k l xs ys p h => by simp at h⟩
theorem keep_own {K : PySem.W.Frag} {ρ1 ρ2 : Ev} {σ : St} {F1 H1 F2 H2 : Hp} {p : Addr} {ws : HO} (S : Stp K ρ1 σ F1 H1 ρ2 σ F2 H2) (h2 : H1 p = some ws) (h3 : F1 p = none) (h5 : ¬ Own ρ1 σ p) :
    H2 p = some ws ∧ F2 p = none ∧ ¬ Own ρ2 σ p := by
  refine ⟨S.fr p _ h2 h5, ?_, S.nob h2 h5⟩
  cases e : F2 p with
  | none => rfl
  | some o =>
    rcases S.nw p (by rw [e]; intro z; cases z) with z | z | z
    · exact absurd h3 z
    · exact absurd (.inl z) h5
    · rw [h2] at z
      cases z
def aCons (f : Dn Rv) (g : Dn (List Ar)) : Dn (List Ar) := bnd f fun r => bnd g fun as => ret ((match r with
  | .fz d => Ar.fz d
  | .oo c => Ar.tq c) :: as)
theorem ga_cons {e : Expr} {es : List Expr} {f : Dn Rv} {g : Dn (List Ar)} (h1 : PE X e (tE X.K X.mg E f)) (h2 : PA X es (tAr X.K X.mg E g)) (hs : starEach (e :: es) X.env = (false, eval e X.env) :: starEach es X.env := by rfl) :
    PA X (e :: es) (tAr X.K X.mg E (aCons f g)) :=
  pa_wk (pa_cons h1 h2 hs) fun σ H Q ⟨ρ, F, R, q⟩ => ⟨ρ, F, R, (out_bnd (K := X.K) (F := F) q).mono fun r ρ1 k v F1 H1 S1 ro =>
    ⟨ρ1, F1, S1.rel, (out_bnd (K := X.K) (F := F1) (k _ _ _ S1)).mono fun as ρ2 k2 vs F2 H2 S2 A => out_ret (k2 _ _ _ S2) _ F2 H2 (S1.trans S2) (by
      have old : ∀ {p : Addr}, (OwnL ρ1 σ p ∨ H1 p = none) → (OwnL ρ σ p ∨ H p = none) := fun {p} h => by
        rcases h with h | h
        · exact S1.oo p h
        · exact .inr (S1.dm p h)
      cases r with
      | fz d =>
        refine ⟨by simp [A.ln], fun k e h => ?_, fun k i h => ?_, fun k xs h => ?_, fun k ns h => ?_, fun k l xs ys p e1 e2 e3 e4 => ?_⟩
        · cases k with
          | zero => simp at h; subst h; exact ⟨v, rfl, dp_mono S2.ff d v ro⟩
          | succ k => exact A.fz k e (by simpa using h)
        · cases k with
          | zero => simp at h
          | succ k => exact A.sl k i (by simpa using h)
        · cases k with
          | zero => simp at h
          | succ k =>
            obtain ⟨p, ws, e1, e2, e3⟩ := A.tp k xs (by simpa using h)
            exact ⟨p, ws, by simpa using e1, old e2, e3⟩
        · cases k with
          | zero => simp at h
          | succ k => exact A.sc k ns (by simpa using h)
        · cases k with
          | zero => simp at e1
          | succ k =>
            cases l with
            | zero => simp at e2
            | succ l => rw [A.ap k l xs ys p (by simpa using e1) (by simpa using e2) (by simpa using e3) (by simpa using e4)]
      | oo zs =>
        obtain ⟨p0, ws0, rfl, r1, r2, r3, r4, r5⟩ := ro
        obtain ⟨n1, n2, n3⟩ := keep_own S2 r2 r3 r5
        have apart : ∀ (k : Nat) (xs : Cn), as[k]? = some (.tq xs) → vs[k]? ≠ some (.ref p0) := fun k xs h z => by
          obtain ⟨p, ws, e1, e2, _⟩ := A.tp k xs h
          rw [z] at e1
          cases e1
          rcases e2 with e2 | e2
          · exact r5 (.inl e2)
          · rw [r2] at e2
            cases e2
        refine ⟨by simp [A.ln], fun k e h => ?_, fun k i h => ?_, fun k xs h => ?_, fun k ns h => ?_, fun k l xs ys p e1 e2 e3 e4 => ?_⟩
        · cases k with
          | zero => simp at h
          | succ k => exact A.fz k e (by simpa using h)
        · cases k with
          | zero => simp at h
          | succ k => exact A.sl k i (by simpa using h)
        · cases k with
          | zero =>
            simp at h
            subst h
            exact ⟨p0, ws0, rfl, r1, n1, n2, cn_mono S2.ff r4, n3⟩
          | succ k =>
            obtain ⟨p, ws, e1, e2, e3⟩ := A.tp k xs (by simpa using h)
            exact ⟨p, ws, by simpa using e1, old e2, e3⟩
        · cases k with
          | zero => simp at h
          | succ k => exact A.sc k ns (by simpa using h)
        · cases k with
          | zero =>
            cases l with
            | zero => rfl
            | succ l =>
              have e3' : V.ref p0 = V.ref p := by simpa using e3
              cases e3'
              exact absurd (by simpa using e4) (apart l ys (by simpa using e2))
          | succ k =>
            cases l with
            | zero =>
              have e4' : V.ref p0 = V.ref p := by simpa using e4
              cases e4'
              exact absurd (by simpa using e3) (apart k xs (by simpa using e1))
            | succ l => rw [A.ap k l xs ys p (by simpa using e1) (by simpa using e2) (by simpa using e3) (by simpa using e4)])⟩⟩
def aLend (i : Nat) (g : Dn (List Ar)) : Dn (List Ar) := fun ρ => match ρ[i]? with
  | some (.oo _) => bnd g (fun as => ret (.sl i :: as)) ρ
  | some (.bo _) => bnd g (fun as => ret (.sl i :: as)) ρ
  | some (.sc ns) => bnd g (fun as => ret (.sc ns :: as)) ρ
  | _ => .st
theorem ga_lend (i : Nat) {x : Str} {p : Pos} {es : List Expr} {g : Dn (List Ar)} (h2 : PA X es (tAr X.K X.mg E g)) (hN : X.N[i]? = some x := by rfl) (hv : Vis X.env.scope x := by first | exact Or.inl rfl | exact Or.inr (Or.inl rfl) | exact Or.inr (Or.inr rfl))
    (hs : starEach (.Name x p :: es) X.env = (false, eval (.Name x p) X.env) :: starEach es X.env := by rfl) (hd : (x == ("__debug__" : Str)) = false := by decide) (hcd : (x == ("__classdict__" : Str)) = false := by decide) :
    PA X (.Name x p :: es) (tAr X.K X.mg E (aLend i g)) :=
  pa_wk (pa_cons (pe_var hN hv hd hcd) h2 hs) fun σ H Q ⟨ρ, F, R, q⟩ => by
    have go : ∀ xs : Cn, (ρ[i]? = some (.oo xs) ∨ ρ[i]? = some (.bo xs)) → Out X.mg E ρ σ H (bnd g (fun as => ret (.sl i :: as)) ρ) (fun as ρ' => ∀ vs F' H', Stp X.K ρ σ F H ρ' σ F' H' → AOk X.K ρ σ H ρ' F' H' as vs → Q vs H') →
        tCons (tVar i) (tAr X.K X.mg E g) σ H Q := fun xs hx q => by
      obtain ⟨p, ws, h1, _⟩ := R.cs i xs hx
      refine ⟨_, h1, ρ, F, R, (out_bnd (K := X.K) (F := F) q).mono fun as ρ2 k2 vs F2 H2 S2 A => out_ret (k2 _ _ _ S2) _ F2 H2 S2 ?_⟩
      refine ⟨by simp [A.ln], fun k e h => ?_, fun k j h => ?_, fun k xs h => ?_, fun k ns h => ?_, fun k l xs ys p e1 e2 e3 e4 => ?_⟩
      · cases k with
        | zero => simp at h
        | succ k => exact A.fz k e (by simpa using h)
      · cases k with
        | zero => simp at h; subst h; exact ⟨_, rfl, h1⟩
        | succ k => exact A.sl k j (by simpa using h)
      · cases k with
        | zero => simp at h
        | succ k => exact A.tp k xs (by simpa using h)
      · cases k with
        | zero => simp at h
        | succ k => exact A.sc k ns (by simpa using h)
      · cases k with
        | zero => simp at e1
        | succ k =>
          cases l with
          | zero => simp at e2
          | succ l => rw [A.ap k l xs ys p (by simpa using e1) (by simpa using e2) (by simpa using e3) (by simpa using e4)]
    unfold aLend at q
    cases e : ρ[i]? with
    | none => rw [e] at q; exact q.elim
    | some en =>
      rw [e] at q
      cases en with
      | fz d => exact q.elim
      | no => exact q.elim
      | oo xs => exact go xs (.inl e) q
      | bo xs => exact go xs (.inr e) q
      | sc ns =>
        obtain ⟨a, h1, hs1⟩ := R.sc i ns e
        refine ⟨_, h1, ρ, F, R, (out_bnd (K := X.K) (F := F) q).mono fun as ρ2 k2 vs F2 H2 S2 A => out_ret (k2 _ _ _ S2) _ F2 H2 S2 ?_⟩
        refine ⟨by simp [A.ln], fun k e h => ?_, fun k j h => ?_, fun k xs h => ?_, fun k ns h => ?_, fun k l xs ys p e1 e2 e3 e4 => ?_⟩
        · cases k with
          | zero => simp at h
          | succ k => exact A.fz k e (by simpa using h)
        · cases k with
          | zero => simp at h
          | succ k => exact A.sl k j (by simpa using h)
        · cases k with
          | zero => simp at h
          | succ k => exact A.tp k xs (by simpa using h)
        · cases k with
          | zero => simp at h; subst h; exact ⟨a, rfl, sc_keep S2.ff hs1⟩
          | succ k => exact A.sc k ns (by simpa using h)
        · cases k with
          | zero => simp at e1
          | succ k =>
            cases l with
            | zero => simp at e2
            | succ l => rw [A.ap k l xs ys p (by simpa using e1) (by simpa using e2) (by simpa using e3) (by simpa using e4)]
end
end Gx

/-! G5: what a def does to data; its call. -/
namespace Gx
open PySem PySem.Spec L2
open PyProof.Rows hiding St

abbrev Den := List En → Rs (Rv × List En)
def NoOl (as : List En) : Prop := ∀ (i : Nat) (xs : Cn), as[i]? ≠ some (.oo xs)
def spD (K : PySem.W.Frag) (mg : Str → Option Value) (n : Nat) (den : Den) : Sp := fun vs H Q E => vs.length = n ∧ ∃ as F, Rel K as (vs.map some) F H ∧ NoOl as ∧
  Out mg E as (vs.map some) H (den as) fun r as' => ∀ v F' H', Stp K as (vs.map some) F H as' (vs.map some) F' H' → ROk as (vs.map some) H as' (vs.map some) F' H' r v → Q v H'
def back : List En → Ev → List En
  | .bo _ :: as, .bo ys :: ρ => .bo ys :: back as ρ
  | a :: as, _ :: ρ => a :: back as ρ
  | as, _ => as
theorem back_len : ∀ (as : List En) (ρ : Ev), (back as ρ).length = as.length
  | [], _ => by simp [back]
  | a :: as, [] => by cases a <;> simp [back]
  | a :: as, r :: ρ => by
    have ih := back_len as ρ
    cases a <;> cases r <;> simp [back, ih]
theorem back_get : ∀ (as : List En) (ρ : Ev) (i : Nat), (back as ρ)[i]? = match as[i]?, ρ[i]? with
    | some (.bo _), some (.bo ys) => some (.bo ys)
    | x, _ => x
  | [], _, i => by simp [back]
  | a :: as, [], i => by
    have e : back (a :: as) [] = a :: as := by cases a <;> rfl
    rw [e]
    simp only [List.getElem?_nil]
    cases (a :: as)[i]? with
    | none => rfl
    | some x => cases x <;> rfl
  | a :: as, r :: ρ, 0 => by cases a <;> cases r <;> rfl
  | a :: as, r :: ρ, i + 1 => by
    have ih := back_get as ρ i
    cases a <;> cases r <;> simpa [back] using ih
def runF (n N : Nat) (f : Dn Fl) : Den := fun as => match f (as ++ List.replicate (N - n) .no) with
  | .st => .st
  | .ex e => .ex e
  | .ok (.nx, ρ') => .ok (.fz .none, back as ρ')
  | .ok (.rt r, ρ') => .ok (r, back as ρ')
  | .ok (_, _) => .st
section
variable {K : PySem.W.Frag} {as : List En} {vs : List V} {F H F' H' : Hp} {m : Nat} {ρ' : Ev} {σ' : St}
theorem rep_no {i : Nat} {e : En} (ne : e ≠ .no) (h : (as ++ List.replicate m .no)[i]? = some e) : as[i]? = some e := by
  by_cases hi : i < as.length
  · rw [List.getElem?_append_left hi] at h
    exact h
  · rw [List.getElem?_append_right (by omega), List.getElem?_replicate] at h
    split at h
    · cases h
      exact absurd rfl ne
    · cases h
theorem app_get {i : Nat} {e : En} (h : as[i]? = some e) : (as ++ List.replicate m .no)[i]? = some e := by
  have hi : i < as.length := (List.getElem?_eq_some_iff.mp h).1
  rw [List.getElem?_append_left hi]
  exact h
theorem app_own {i : Nat} (h : IsOwn (as ++ List.replicate m .no) i) : IsOwn as i := by
  rcases h with ⟨xs, h⟩ | ⟨xs, h⟩
  · exact .inl ⟨xs, rep_no (by intro z; cases z) h⟩
  · exact .inr ⟨xs, rep_no (by intro z; cases z) h⟩
theorem σ_get {l : List (Option V)} {i : Nat} {x : Option V} (h : (vs.map some)[i]? = some x) : (vs.map some ++ l)[i]? = some x := by
  have hi : i < (vs.map some).length := (List.getElem?_eq_some_iff.mp h).1
  rw [List.getElem?_append_left hi]
  exact h
theorem σ_back {l : List (Option V)} {i : Nat} (hi : i < vs.length) : (vs.map some ++ l)[i]? = (vs.map some)[i]? := by
  rw [List.getElem?_append_left (by simpa using hi)]
theorem start_rel (R : Rel K as (vs.map some) F H) : Rel K (as ++ List.replicate m .no) (vs.map some ++ List.replicate m none) F H where
  sub := R.sub
  fz := fun i d h => by
    obtain ⟨v, e, q⟩ := R.fz i d (rep_no (by intro z; cases z) h)
    exact ⟨v, σ_get e, q⟩
  cs := fun i xs h => by
    have h' : as[i]? = some (.oo xs) ∨ as[i]? = some (.bo xs) := by
      rcases h with h | h
      · exact .inl (rep_no (by intro z; cases z) h)
      · exact .inr (rep_no (by intro z; cases z) h)
    obtain ⟨p, ws, e, q⟩ := R.cs i xs h'
    exact ⟨p, ws, σ_get e, q⟩
  sc := fun i ns h => by
    obtain ⟨a, e, q⟩ := R.sc i ns (rep_no (by intro z; cases z) h)
    exact ⟨a, σ_get e, q⟩
  sep := fun i j p hi hj e1 e2 => by
    have l1 : i < as.length := by
      rcases app_own hi with ⟨xs, h⟩ | ⟨xs, h⟩ <;> exact (List.getElem?_eq_some_iff.mp h).1
    have l2 : j < as.length := by
      rcases app_own hj with ⟨xs, h⟩ | ⟨xs, h⟩ <;> exact (List.getElem?_eq_some_iff.mp h).1
    have e : as.length = vs.length := by simpa using R.ln
    rw [σ_back (by omega)] at e1
    rw [σ_back (by omega)] at e2
    exact R.sep i j p (app_own hi) (app_own hj) e1 e2
  ln := by
    have e : as.length = vs.length := by simpa using R.ln
    simp [e]
theorem start_own (R : Rel K as (vs.map some) F H) {p : Addr} (h : Own (as ++ List.replicate m .no) (vs.map some ++ List.replicate m none) p) : Own as (vs.map some) p := by
  obtain ⟨i, h1, h2⟩ := own_ex h
  have h3 := app_own h1
  have l1 : i < as.length := by
    rcases h3 with ⟨xs, h⟩ | ⟨xs, h⟩ <;> exact (List.getElem?_eq_some_iff.mp h).1
  have e : as.length = vs.length := by simpa using R.ln
  rw [σ_back (by omega)] at h2
  exact own_at h3 h2
theorem start_nol (no : NoOl as) {p : Addr} : ¬ OwnL (as ++ List.replicate m .no) (vs.map some ++ List.replicate m none) p := fun ⟨i, xs, h, _⟩ => no i xs (rep_no (by intro z; cases z) h)
theorem leave (R : Rel K as (vs.map some) F H) (no : NoOl as) (S : Stp K (as ++ List.replicate m .no) (vs.map some ++ List.replicate m none) F H ρ' σ' F' H') : Stp K as (vs.map some) F H (back as ρ') (vs.map some) F' H' := by
  have eq_len : as.length = vs.length := by simpa using R.ln
  have bl : ∀ (i : Nat) (ys : Cn), (back as ρ')[i]? = some (.bo ys) → (∃ xs, as[i]? = some (.bo xs)) ∧ ρ'[i]? = some (.bo ys) := fun i ys h => by
    rw [back_get] at h
    cases e : as[i]? with
    | none => rw [e] at h; cases h
    | some a =>
      rw [e] at h
      cases a with
      | bo xs =>
        refine ⟨⟨xs, rfl⟩, ?_⟩
        obtain ⟨⟨zs, q⟩, _⟩ := S.bk i xs (app_get e)
        rw [q] at h ⊢
        exact h
      | _ => cases h
  have ot : ∀ (i : Nat) (e : En), (∀ xs, e ≠ .bo xs) → (back as ρ')[i]? = some e → as[i]? = some e := fun i e ne h => by
    rw [back_get] at h
    cases q : as[i]? with
    | none => rw [q] at h; cases h
    | some a =>
      rw [q] at h
      cases a with
      | bo xs =>
        cases z : ρ'[i]? with
        | none => rw [z] at h; cases h; exact absurd rfl (ne xs)
        | some b =>
          rw [z] at h
          cases b <;> first
            | (cases h; exact absurd rfl (ne _))
      | _ => exact h
  have σe : ∀ (i : Nat) (xs : Cn), as[i]? = some (.bo xs) → σ'[i]? = (vs.map some)[i]? := fun i xs h => by
    have l1 : i < as.length := (List.getElem?_eq_some_iff.mp h).1
    rw [(S.bk i xs (app_get h)).2, σ_back (by omega)]
  have nol : ∀ (i : Nat) (xs : Cn), (back as ρ')[i]? ≠ some (.oo xs) := fun i xs h => no i xs (ot i _ (fun ys z => by cases z) h)
  have isb : ∀ (i : Nat), IsOwn (back as ρ') i → (∃ xs, as[i]? = some (.bo xs)) ∧ ∃ ys, ρ'[i]? = some (.bo ys) := fun i h => by
    rcases h with ⟨xs, h⟩ | ⟨xs, h⟩
    · exact absurd h (nol i xs)
    · obtain ⟨h1, h2⟩ := bl i xs h
      exact ⟨h1, xs, h2⟩
  refine ⟨⟨S.rel.sub, fun i d h => ?_, fun i xs h => ?_, fun i ns h => ?_, fun i j p hi hj e1 e2 => ?_, by rw [back_len]; exact R.ln⟩, S.ff, fun a o h n => ?_, fun p h => ?_, fun i xs h => ?_, fun i ys h => ?_, fun a h => ?_, back_len as ρ', S.dm⟩
  · obtain ⟨v, e, q⟩ := R.fz i d (ot i _ (fun ys z => by cases z) h)
    exact ⟨v, e, dp_mono S.ff d v q⟩
  · rcases h with h | h
    · exact absurd h (nol i xs)
    · obtain ⟨⟨zs, h1⟩, h2⟩ := bl i xs h
      obtain ⟨p, ws, e, q⟩ := S.rel.cs i xs (.inr h2)
      exact ⟨p, ws, by rw [← σe i zs h1]; exact e, q⟩
  · obtain ⟨a, e, q⟩ := R.sc i ns (ot i _ (fun ys z => by cases z) h)
    exact ⟨a, e, sc_keep S.ff q⟩
  · obtain ⟨⟨xs, a1⟩, ys, b1⟩ := isb i hi
    obtain ⟨⟨xs2, a2⟩, ys2, b2⟩ := isb j hj
    exact S.rel.sep i j p (.inr ⟨ys, b1⟩) (.inr ⟨ys2, b2⟩) (by rw [σe i xs a1]; exact e1) (by rw [σe j xs2 a2]; exact e2)
  · exact S.fr a o h fun z => n (start_own R z)
  · obtain ⟨i, xs, h1, _⟩ := h
    exact absurd h1 (nol i xs)
  · refine ⟨?_, rfl⟩
    obtain ⟨⟨ys, q⟩, _⟩ := S.bk i xs (app_get h)
    exact ⟨ys, by rw [back_get, h, q]⟩
  · exact (bl i ys h).1
  · rcases S.nw a h with z | z | z
    · exact .inl z
    · exact absurd z (start_nol no)
    · exact .inr (.inr z)
theorem leave_rv (R : Rel K as (vs.map some) F H) (no : NoOl as) (S : Stp K (as ++ List.replicate m .no) (vs.map some ++ List.replicate m none) F H ρ' σ' F' H') {r : Rv} {v : V}
    (h : ROk (as ++ List.replicate m .no) (vs.map some ++ List.replicate m none) H ρ' σ' F' H' r v) : ROk as (vs.map some) H (back as ρ') (vs.map some) F' H' r v := by
  cases r with
  | fz d => exact h
  | oo xs =>
    obtain ⟨p, ws, h1, h2, h3, h4, h5, h6⟩ := h
    have hp : H p = none := by
      rcases h2 with z | z
      · exact absurd z (start_nol no)
      · exact z
    refine ⟨p, ws, h1, .inr hp, h3, h4, h5, fun z => ?_⟩
    have L := leave R no S
    rcases z with z | z
    · rcases L.oo p z with ⟨i, xs, q, _⟩ | _
      · exact no i xs q
      · obtain ⟨i, xs, q, _⟩ := z
        rw [back_get] at q
        cases e : as[i]? with
        | none => rw [e] at q; cases q
        | some a =>
          rw [e] at q
          cases a with
          | bo ys =>
            cases e2 : ρ'[i]? with
            | none => rw [e2] at q; cases q
            | some b => rw [e2] at q; cases b <;> cases q
          | oo ys => exact no i ys e
          | _ => cases q
    · obtain ⟨⟨us, q⟩, _⟩ := R.own (.inr (L.ob z))
      rw [hp] at q
      cases q
end

/-! ### the rule for a def -/
section
variable {P : Program} {w : World} {K : PySem.W.Frag} {mg : Str → Option Value} {base : Heap}
theorem ok_def {x qual : Str} {st : Stmt} {f : Addr} {fd : FuncData} {N ps : List Str} {k : Nat} {body : Dn Fl} (Fn : Fun K x qual st f fd) (S : FnScope N ps (defScope st))
    (hb : ∀ (cdv : Value) (A : Around) (outer : List Env) (s : Shared) (H : Hp) (E : XK), Room k (A.deeper (envOfC qual (defScope st) s.heap.objs.size f cdv)) →
      PSs (cxOf (L2.CX P w) P w K mg base N qual (defScope st) f cdv A outer s H E) (defBody st) (tS K mg E body)) :
    FnOk P w K mg base (L2.CX P w) (k + 1) f fd ps (spD K mg ps.length (runF ps.length N.length body)) := by
  refine Fn.okX S (fun vs H Q E h => h.1) fun cdv A outer s H vs Q E hr h => ?_
  obtain ⟨hl, as, F, R, no, o⟩ := h
  have hm : as.length = vs.length := by simpa using R.ln
  refine ⟨_, hb cdv A outer s H E hr, ?_⟩
  show tS K mg E body _ (L2.start N vs) H
  have es : L2.start N vs = vs.map some ++ List.replicate (N.length - ps.length) none := by
    unfold L2.start
    rw [hl]
  rw [es]
  refine ⟨as ++ List.replicate (N.length - ps.length) .no, F, start_rel R, ?_⟩
  unfold runF at o
  cases e : body (as ++ List.replicate (N.length - ps.length) .no) with
  | st => rw [e] at o; exact o
  | ex x =>
    rw [e] at o
    exact fun cls d H' xp => o cls d H' ⟨xp.cl, fun a u h n => xp.fr a u h fun z => n (start_own R z), xp.dm, xp.ar⟩
  | ok r =>
    obtain ⟨fl, ρ'⟩ := r
    rw [e] at o
    cases fl with
    | nx => exact fun σ' F' H' S' => o .non F' H' (leave R no S') .non
    | rt r => exact fun σ' v F' H' S' ro => o v F' H' (leave R no S') (leave_rv R no S' ro)
    | bk => exact (show False from o).elim
    | ct => exact (show False from o).elim
theorem ok_none {f : Addr} {fd : FuncData} {ps : List Str} {k n : Nat} : FnOk P w K mg base (L2.CX P w) k f fd ps (spD K mg n fun _ => .st) :=
  ⟨fun vs H Q E ⟨_, as, F, R, no, o⟩ => o.elim, fun A outer s H args us vs Q E _ _ _ _ ⟨_, as, F, R, no, o⟩ => o.elim⟩
end
structure Cal (P : Program) (w : World) (K : PySem.W.Frag) (mg : Str → Option Value) (base : Heap) (k : Nat) (x : Str) (n : Nat) (den : Den) : Prop where
  ex : ∃ f fd ps, FnOk P w K mg base (L2.CX P w) k f fd ps (spD K mg n den) ∧ mg x = some (.ref f) ∧ PySem.W.keepIn K (.ref f) = true ∧ Binds K fd ps []
theorem Cal.mono {P : Program} {w : World} {K : PySem.W.Frag} {mg : Str → Option Value} {base : Heap} {j k : Nat} {x : Str} {n : Nat} {den : Den} (c : Cal P w K mg base j x n den) (h : j ≤ k) : Cal P w K mg base k x n den := by
  obtain ⟨f, fd, ps, F, r⟩ := c.ex
  exact ⟨f, fd, ps, F.mono h, r⟩

/-! ### a call -/
def enSl : Option En → En
  | some (.oo xs) => .bo xs
  | some (.bo xs) => .bo xs
  | _ => .no
theorem enSl_bl {o : Option En} {xs : Cn} (h : enSl o = .bo xs) : o = some (.oo xs) ∨ o = some (.bo xs) := by
  cases o with
  | none => cases h
  | some e =>
    cases e with
    | oo ys => cases h; exact .inl rfl
    | bo ys => cases h; exact .inr rfl
    | _ => cases h
theorem enSl_bln (o : Option En) : (∃ xs, enSl o = .bo xs) ∨ enSl o = .no := by
  cases o with
  | none => exact .inr rfl
  | some e =>
    cases e with
    | oo ys => exact .inl ⟨_, rfl⟩
    | bo ys => exact .inl ⟨_, rfl⟩
    | _ => exact .inr rfl
def Ar.en (ρ : Ev) : Ar → En
  | .fz d => .fz d
  | .tq xs => .bo xs
  | .sc ns => .sc ns
  | .sl i => enSl ρ[i]?
def Ar.isTp : Ar → Bool
  | .tq _ => true
  | _ => false
def lent : List Ar → Option (Option (Nat × Nat))
  | [] => some none
  | .sl i :: as => match lent as with
    | some none => some (some (0, i))
    | _ => none
  | _ :: as => match lent as with
    | some none => some none
    | some (some (k, i)) => some (some (k + 1, i))
    | none => none
theorem lent_none : ∀ {as : List Ar}, lent as = some none → ∀ (k i : Nat), as[k]? ≠ some (.sl i)
  | [], _, k, i => by simp
  | a :: as, h, k, i => by
    have hl : lent as = some none ∧ (∀ j, a ≠ .sl j) := by
      cases a <;> simp only [lent] at h <;> (split at h <;> simp_all)
    cases k with
    | zero =>
      intro z
      simp at z
      exact hl.2 i z
    | succ k =>
      intro z
      exact lent_none hl.1 k i (by simpa using z)
theorem lent_some : ∀ {as : List Ar} {k i : Nat}, lent as = some (some (k, i)) → as[k]? = some (.sl i) ∧ ∀ (l j : Nat), as[l]? = some (.sl j) → l = k ∧ j = i
  | [], _, _, h => by simp [lent] at h
  | a :: as, k, i, h => by
    by_cases hs : ∃ j, a = .sl j
    · obtain ⟨j, rfl⟩ := hs
      simp only [lent] at h
      split at h
      · rename_i q
        cases h
        refine ⟨rfl, fun l j z => ?_⟩
        cases l with
        | zero =>
          simp at z
          exact ⟨rfl, z.symm⟩
        | succ l => exact absurd (by simpa using z) (lent_none q l j)
      · cases h
    · have h2 : ∃ k', k = k' + 1 ∧ lent as = some (some (k', i)) := by
        cases a with
        | sl j => exact absurd ⟨j, rfl⟩ hs
        | _ =>
          simp only [lent] at h
          split at h
          · cases h
          · rename_i q
            cases h
            exact ⟨_, rfl, q⟩
          · cases h
      obtain ⟨k', rfl, q⟩ := h2
      obtain ⟨q1, q2⟩ := lent_some q
      refine ⟨by simpa using q1, fun l j z => ?_⟩
      cases l with
      | zero =>
        simp at z
        exact absurd ⟨j, z⟩ hs
      | succ l =>
        obtain ⟨e1, e2⟩ := q2 l j (by simpa using z)
        exact ⟨by rw [e1], e2⟩
def reKindC : Option En → Cn → En
  | some (.bo _), ys => .bo ys
  | _, ys => .oo ys
def reKind (o : Option En) (ys : List PyData) : En := reKindC o (.l ys)
def putAt (ρ : Ev) (i : Nat) : Option En → Ev
  | some (.bo ys) => ρ.set i (reKindC ρ[i]? ys)
  | _ => ρ
def putBack (ρ : Ev) (es : List En) : Option (Nat × Nat) → Ev
  | none => ρ
  | some (k, i) => putAt ρ i es[k]?
theorem putAt_not {ρ : Ev} {i : Nat} {o : Option En} (h : ¬ ∃ ys, o = some (.bo ys)) : putAt ρ i o = ρ := by
  cases o with
  | none => rfl
  | some e =>
    cases e with
    | bo ys => exact absurd ⟨ys, rfl⟩ h
    | _ => rfl
theorem putAt_len (ρ : Ev) (i : Nat) (o : Option En) : (putAt ρ i o).length = ρ.length := by
  cases o with
  | none => rfl
  | some e => cases e <;> first | rfl | exact List.length_set ..
def apply (den : Den) (as : List Ar) : Dn Rv := fun ρ => match lent as with
  | none => .st
  | some o => match den (as.map (Ar.en ρ)) with
    | .st => .st
    | .ex e => if as.any Ar.isTp then .st else .ex e
    | .ok (r, es) => .ok (r, putBack ρ es o)
section
variable {K : PySem.W.Frag} {ρ ρ1 : Ev} {σ : St} {F H F1 H1 F2 H2 : Hp} {as : List Ar} {vs : List V}
theorem en_bl {k : Nat} {xs : Cn} (h : (as.map (Ar.en ρ1))[k]? = some (.bo xs)) : as[k]? = some (.tq xs) ∨ ∃ i, as[k]? = some (.sl i) ∧ (ρ1[i]? = some (.oo xs) ∨ ρ1[i]? = some (.bo xs)) := by
  rw [List.getElem?_map] at h
  cases e : as[k]? with
  | none => rw [e] at h; cases h
  | some a =>
    rw [e] at h
    have h' : Ar.en ρ1 a = .bo xs := Option.some.inj h
    cases a with
    | fz d => cases h'
    | tq ys => cases h'; exact .inl rfl
    | sc ns => cases h'
    | sl i =>
      exact .inr ⟨i, rfl, enSl_bl h'⟩
theorem en_nol : NoOl (as.map (Ar.en ρ1)) := fun k xs h => by
  rw [List.getElem?_map] at h
  cases e : as[k]? with
  | none => rw [e] at h; cases h
  | some a =>
    rw [e] at h
    have h' : Ar.en ρ1 a = .oo xs := Option.some.inj h
    cases a with
    | sl i =>
      have h2 : enSl ρ1[i]? = _ := h'
      rcases enSl_bln ρ1[i]? with ⟨zs, z⟩ | z <;> (rw [z] at h2; cases h2)
    | _ => cases h'
theorem en_fz {k : Nat} {d : PyData} (h : (as.map (Ar.en ρ1))[k]? = some (.fz d)) : as[k]? = some (.fz d) := by
  rw [List.getElem?_map] at h
  cases e : as[k]? with
  | none => rw [e] at h; cases h
  | some a =>
    rw [e] at h
    have h' : Ar.en ρ1 a = .fz d := Option.some.inj h
    cases a with
    | sl i =>
      have h2 : enSl ρ1[i]? = _ := h'
      rcases enSl_bln ρ1[i]? with ⟨zs, z⟩ | z <;> (rw [z] at h2; cases h2)
    | fz e => cases h'; rfl
    | _ => cases h'
theorem en_sc {k : Nat} {d : Sc} (h : (as.map (Ar.en ρ1))[k]? = some (.sc d)) : as[k]? = some (.sc d) := by
  rw [List.getElem?_map] at h
  cases e : as[k]? with
  | none => rw [e] at h; cases h
  | some a =>
    rw [e] at h
    have h' : Ar.en ρ1 a = .sc d := Option.some.inj h
    cases a with
    | sl i =>
      have h2 : enSl ρ1[i]? = _ := h'
      rcases enSl_bln ρ1[i]? with ⟨zs, z⟩ | z <;> (rw [z] at h2; cases h2)
    | sc e => cases h'; rfl
    | _ => cases h'
theorem vs_some {k : Nat} {v : V} : (vs.map some)[k]? = some (some v) ↔ vs[k]? = some v := by
  rw [List.getElem?_map]
  cases vs[k]? <;> simp
theorem arg_own (R1 : Rel K ρ1 σ F1 H1) (A : AOk K ρ σ H ρ1 F1 H1 as vs) {p : Addr} {k : Nat} (hk : IsOwn (as.map (Ar.en ρ1)) k) (e : vs[k]? = some (.ref p)) :
    (∃ i, as[k]? = some (.sl i) ∧ IsOwn ρ1 i ∧ σ[i]? = some (some (.ref p))) ∨ ((∃ xs, as[k]? = some (.tq xs)) ∧ (OwnL ρ σ p ∨ H p = none) ∧ ¬ Own ρ1 σ p) := by
  rcases hk with ⟨xs, h⟩ | ⟨xs, h⟩
  · exact absurd h (en_nol k xs)
  · rcases en_bl h with h | ⟨i, h1, h2⟩
    · obtain ⟨q, ws, a1, a2, a3, a4, a5, a6⟩ := A.tp k xs h
      rw [e] at a1
      cases a1
      exact .inr ⟨⟨xs, h⟩, a2, a6⟩
    · obtain ⟨v, b1, b2⟩ := A.sl k i h1
      rw [e] at b1
      cases b1
      refine .inl ⟨i, h1, ?_, b2⟩
      rcases h2 with h2 | h2
      · exact .inl ⟨xs, h2⟩
      · exact .inr ⟨xs, h2⟩
theorem arg_rel (R1 : Rel K ρ1 σ F1 H1) (A : AOk K ρ σ H ρ1 F1 H1 as vs) {o : Option (Nat × Nat)} (hl : lent as = some o) : Rel K (as.map (Ar.en ρ1)) (vs.map some) F1 H1 where
  sub := R1.sub
  fz := fun k d h => by
    obtain ⟨v, e, q⟩ := A.fz k d (en_fz h)
    exact ⟨v, vs_some.mpr e, q⟩
  cs := fun k xs h => by
    rcases h with h | h
    · exact absurd h (en_nol k xs)
    · rcases en_bl h with h | ⟨i, h1, h2⟩
      · obtain ⟨q, ws, a1, a2, a3, a4, a5, a6⟩ := A.tp k xs h
        exact ⟨q, ws, vs_some.mpr a1, a3, a4, a5⟩
      · obtain ⟨v, b1, b2⟩ := A.sl k i h1
        obtain ⟨p, ws, c1, c2⟩ := R1.cs i xs h2
        rw [b2] at c1
        cases c1
        exact ⟨p, ws, vs_some.mpr b1, c2⟩
  sc := fun k ns h => by
    obtain ⟨a, e, q⟩ := A.sc k ns (en_sc h)
    exact ⟨a, vs_some.mpr e, q⟩
  sep := fun k l p hk hl2 e1 e2 => by
    rw [vs_some] at e1 e2
    rcases arg_own R1 A hk e1 with ⟨i, a1, a2, a3⟩ | ⟨⟨xs, a1⟩, _, a3⟩
    · rcases arg_own R1 A hl2 e2 with ⟨j, b1, b2, b3⟩ | ⟨_, _, b3⟩
      · cases o with
        | none => exact absurd a1 (lent_none hl k i)
        | some q =>
          obtain ⟨_, u⟩ := lent_some (k := q.1) (i := q.2) hl
          rw [(u k i a1).1, (u l j b1).1]
      · exact absurd (own_at a2 a3) b3
    · rcases arg_own R1 A hl2 e2 with ⟨j, b1, b2, b3⟩ | ⟨⟨ys, b1⟩, _, b3⟩
      · exact absurd (own_at b2 b3) a3
      · exact A.ap k l xs ys p a1 b1 e1 e2
  ln := by simp [A.ln]
theorem call_stp (S1 : Stp K ρ σ F H ρ1 σ F1 H1) (A : AOk K ρ σ H ρ1 F1 H1 as vs) {o : Option (Nat × Nat)} (hl : lent as = some o) {es : List En}
    (S2 : Stp K (as.map (Ar.en ρ1)) (vs.map some) F1 H1 es (vs.map some) F2 H2) : Stp K ρ σ F H (putBack ρ1 es o) σ F2 H2 ∧ ∀ p, Own (putBack ρ1 es o) σ p → Own ρ1 σ p := by
  have R1 := S1.rel
  have frame : ∀ a u, H a = some u → ¬ Own ρ σ a → ¬ Own (as.map (Ar.en ρ1)) (vs.map some) a := fun a u h n z => by
    obtain ⟨k, z1, z2⟩ := own_ex z
    rw [vs_some] at z2
    rcases arg_own R1 A z1 z2 with ⟨i, a1, a2, a3⟩ | ⟨_, a2, _⟩
    · exact S1.nob h n (own_at a2 a3)
    · rcases a2 with a2 | a2
      · exact n (.inl a2)
      · rw [h] at a2
        cases a2
  -- the lists that were not lent
  have other : ∀ (j : Nat) (q : Addr) (ws : HO), IsOwn ρ1 j → σ[j]? = some (some (.ref q)) → (∀ k i, o = some (k, i) → j ≠ i) → H1 q = some ws → F1 q = none → H2 q = some ws ∧ F2 q = none := fun j q ws hj ej hn h2 h3 => by
    have nq : ¬ Own (as.map (Ar.en ρ1)) (vs.map some) q := fun z => by
      obtain ⟨k, z1, z2⟩ := own_ex z
      rw [vs_some] at z2
      rcases arg_own R1 A z1 z2 with ⟨i, a1, a2, a3⟩ | ⟨_, _, a3⟩
      · have e := R1.sep j i q hj a2 ej a3
        cases o with
        | none => exact lent_none hl k i a1
        | some u =>
          obtain ⟨u1, u2⟩ := u
          obtain ⟨_, w⟩ := lent_some hl
          exact hn u1 u2 rfl (by rw [e, (w k i a1).2])
      · exact a3 (own_at hj ej)
    refine ⟨S2.fr q _ h2 nq, ?_⟩
    cases e : F2 q with
    | none => rfl
    | some y =>
      rcases S2.nw q (by rw [e]; intro z; cases z) with z | ⟨i, xs, z, _⟩ | z
      · exact absurd h3 z
      · exact absurd z (en_nol i xs)
      · rw [h2] at z
        cases z
  -- kinds stay
  have kinds : ∀ (j : Nat), (∀ d, (putBack ρ1 es o)[j]? = some (.fz d) → ρ1[j]? = some (.fz d)) ∧ (∀ ns, (putBack ρ1 es o)[j]? = some (.sc ns) → ρ1[j]? = some (.sc ns)) ∧ (∀ xs, (putBack ρ1 es o)[j]? = some (.oo xs) → ∃ ys, ρ1[j]? = some (.oo ys)) ∧
      (∀ xs, (putBack ρ1 es o)[j]? = some (.bo xs) → ∃ ys, ρ1[j]? = some (.bo ys)) ∧ (∀ xs, ρ1[j]? = some (.bo xs) → ∃ ys, (putBack ρ1 es o)[j]? = some (.bo ys)) ∧
      (∀ xs, ((putBack ρ1 es o)[j]? = some (.oo xs) ∨ (putBack ρ1 es o)[j]? = some (.bo xs)) → (∃ k i, o = some (k, i) ∧ j = i ∧ es[k]? = some (.bo xs)) ∨ (∀ k i, o = some (k, i) → j ≠ i) ∧ (ρ1[j]? = some (.oo xs) ∨ ρ1[j]? = some (.bo xs))) := fun j => by
    cases o with
    | none => exact ⟨fun d h => h, fun d h => h, fun xs h => ⟨xs, h⟩, fun xs h => ⟨xs, h⟩, fun xs h => ⟨xs, h⟩, fun xs h => .inr ⟨fun k i z => (by cases z), h⟩⟩
    | some u =>
      obtain ⟨k, i⟩ := u
      obtain ⟨l1, l2⟩ := lent_some hl
      -- what stands at i
      obtain ⟨v, av, bv⟩ := A.sl k i l1
      by_cases hb : ∃ ys, es[k]? = some (.bo ys)
      · obtain ⟨ys, hy⟩ := hb
        have e : putBack ρ1 es (some (k, i)) = ρ1.set i (reKindC ρ1[i]? ys) := by
          show putAt ρ1 i es[k]? = _
          rw [hy]
          rfl
        obtain ⟨xs0, hx0⟩ := S2.kb k ys hy
        have hi : ρ1[i]? = some (.oo xs0) ∨ ρ1[i]? = some (.bo xs0) := by
          rcases en_bl hx0 with z | ⟨i', z1, z2⟩
          · rw [l1] at z
            cases z
          · rw [l1] at z1
            cases z1
            exact z2
        have hlt : i < ρ1.length := by
          rcases hi with hi | hi <;> exact (List.getElem?_eq_some_iff.mp hi).1
        rw [e]
        by_cases hj : j = i
        · subst hj
          rw [List.getElem?_set_self hlt]
          rcases hi with hi | hi
          · rw [hi]
            exact ⟨fun d h => (by cases h), fun d h => (by cases h), fun xs h => ⟨xs0, rfl⟩, fun xs h => (by cases h), fun xs h => (by cases h), fun xs h => .inl ⟨k, j, rfl, rfl, by
              rcases h with h | h
              · cases h; exact hy
              · cases h⟩⟩
          · rw [hi]
            exact ⟨fun d h => (by cases h), fun d h => (by cases h), fun xs h => (by cases h), fun xs h => ⟨xs0, rfl⟩, fun xs h => ⟨ys, rfl⟩, fun xs h => .inl ⟨k, j, rfl, rfl, by
              rcases h with h | h
              · cases h
              · cases h; exact hy⟩⟩
        · rw [List.getElem?_set_ne (Ne.symm hj)]
          exact ⟨fun d h => h, fun d h => h, fun xs h => ⟨xs, h⟩, fun xs h => ⟨xs, h⟩, fun xs h => ⟨xs, h⟩, fun xs h => .inr ⟨fun k' i' z => (by cases z; exact hj), h⟩⟩
      · have e : putBack ρ1 es (some (k, i)) = ρ1 := putAt_not hb
        rw [e]
        refine ⟨fun d h => h, fun d h => h, fun xs h => ⟨xs, h⟩, fun xs h => ⟨xs, h⟩, fun xs h => ⟨xs, h⟩, fun xs h => ?_⟩
        refine .inr ⟨fun k' i' z hj => ?_, h⟩
        cases z
        subst hj
        -- it was lent, so it stands behind
        have hx0 : (as.map (Ar.en ρ1))[k]? = some (.bo xs) := by
          rw [List.getElem?_map, l1]
          show some (enSl ρ1[j]?) = _
          rcases h with h | h <;> (rw [h]; rfl)
        obtain ⟨⟨ys, hy⟩, _⟩ := S2.bk k xs hx0
        exact hb ⟨ys, hy⟩
  have own2 : ∀ (j : Nat), IsOwn (putBack ρ1 es o) j → IsOwn ρ1 j := fun j h => by
    rcases h with ⟨xs, h⟩ | ⟨xs, h⟩
    · exact .inl ((kinds j).2.2.1 xs h)
    · exact .inr ((kinds j).2.2.2.1 xs h)
  refine ⟨⟨⟨S2.rel.sub, fun j d h => ?_, fun j xs h => ?_, fun j ns h => ?_, fun i j p hi hj => R1.sep i j p (own2 i hi) (own2 j hj), ?_⟩, S1.ff.trans S2.ff, fun a u h n => S2.fr a u (S1.fr a u h n) (frame a u h n), fun p h => ?_, fun j xs h => ?_, fun j ys h => ?_, fun a h => ?_, ?_, fun a h => S1.dm a (S2.dm a h)⟩, fun p h => ?_⟩
  · obtain ⟨v, e, q⟩ := R1.fz j d ((kinds j).1 d h)
    exact ⟨v, e, dp_mono S2.ff d v q⟩
  · rcases (kinds j).2.2.2.2.2 xs h with ⟨k, i, ho, rfl, hy⟩ | ⟨hn, h⟩
    · subst ho
      obtain ⟨l1, l2⟩ := lent_some hl
      obtain ⟨v, av, bv⟩ := A.sl k j l1
      obtain ⟨p, ws, c1, c2⟩ := S2.rel.cs k xs (.inr hy)
      rw [vs_some, av] at c1
      cases c1
      exact ⟨p, ws, bv, c2⟩
    · obtain ⟨p, ws, c1, c2, c3, c4⟩ := R1.cs j xs h
      have hj : IsOwn ρ1 j := by
        rcases h with h | h
        · exact .inl ⟨xs, h⟩
        · exact .inr ⟨xs, h⟩
      obtain ⟨d1, d2⟩ := other j p ws hj c1 hn c2 c3
      exact ⟨p, ws, c1, d1, d2, cn_mono S2.ff c4⟩
  · obtain ⟨a, e, q⟩ := R1.sc j ns ((kinds j).2.1 ns h)
    exact ⟨a, e, sc_keep S2.ff q⟩
  · rw [← R1.ln]
    cases o with
    | none => rfl
    | some u =>
      obtain ⟨k, i⟩ := u
      exact putAt_len ρ1 i _
  · obtain ⟨j, xs, h1, h2⟩ := h
    obtain ⟨ys, h3⟩ := (kinds j).2.2.1 xs h1
    exact S1.oo p ⟨j, ys, h3, h2⟩
  · obtain ⟨⟨ys, h1⟩, h2⟩ := S1.bk j xs h
    exact ⟨(kinds j).2.2.2.2.1 ys h1, h2⟩
  · obtain ⟨zs, h1⟩ := (kinds j).2.2.2.1 ys h
    exact S1.kb j zs h1
  · rcases S2.nw a h with z | ⟨i, xs, z, _⟩ | z
    · exact S1.nw a z
    · exact absurd z (en_nol i xs)
    · exact .inr (.inr (S1.dm a z))
  · rw [← S1.ln]
    cases o with
    | none => rfl
    | some u =>
      obtain ⟨k, i⟩ := u
      exact putAt_len ρ1 i _
  · obtain ⟨j, h1, h2⟩ := own_ex h
    exact own_at (own2 j h1) h2
end
def dFn (den : Den) (f : Dn (List Ar)) : Dn Rv := bnd f fun as => apply den as
theorem spD_call {K : PySem.W.Frag} {mg : Str → Option Value} {E : XK} {n : Nat} {den : Den} {f : Dn (List Ar)} {sp : Sp} (hsp : ∀ vs H Q E, spD K mg n den vs H Q E → sp vs H Q E) (hn : ∀ ρ as ρ', f ρ = .ok (as, ρ') → as.length = n) (σ : St) (H : Hp) (Q : VK)
    (h : tE K mg E (dFn den f) σ H Q) : tAr K mg E f σ H fun vs H1 => sp vs H1 Q E := by
  obtain ⟨ρ, F, R, q⟩ := h
  have hlen : ∀ as ρ', f ρ = .ok (as, ρ') → as.length = n := fun as ρ' => hn ρ as ρ'
  have q' := out_bnd (K := K) (F := F) q
  refine ⟨ρ, F, R, ?_⟩
  cases ef : f ρ with
  | st => rw [ef] at q'; exact q'
  | ex e => rw [ef] at q'; exact q'
  | ok r =>
    obtain ⟨as, ρ1⟩ := r
    rw [ef] at q'
    have k : ∀ σ1 F1 H1, Stp K ρ σ F H ρ1 σ1 F1 H1 → Out mg E ρ1 σ1 H1 (apply den as ρ1) _ := q'
    intro vs F1 H1 S1 A
    have k2 := k σ F1 H1 S1
    unfold apply at k2
    cases hl : lent as with
    | none => rw [hl] at k2; exact (show False from k2).elim
    | some o =>
      rw [hl] at k2
      have Ra := arg_rel S1.rel A hl
      refine hsp _ _ _ _ ⟨by rw [A.ln]; exact hlen as ρ1 ef, as.map (Ar.en ρ1), F1, Ra, en_nol, ?_⟩
      cases hd : den (as.map (Ar.en ρ1)) with
      | st => rw [hd] at k2; exact k2
      | ex e =>
        rw [hd] at k2
        intro cls d H' xp
        cases ht : as.any Ar.isTp with
        | true =>
          simp only [ht] at k2
          exact (show False from k2).elim
        | false =>
        simp only [ht] at k2
        refine k2 cls d H' ⟨xp.cl, fun a u h nn => xp.fr a u h fun z => ?_, xp.dm, xp.ar⟩
        obtain ⟨kk, z1, z2⟩ := own_ex z
        rw [vs_some] at z2
        rcases arg_own S1.rel A z1 z2 with ⟨i, a1, a2, a3⟩ | ⟨a1, a2, a3⟩
        · exact nn (own_at a2 a3)
        · obtain ⟨xs, b⟩ := a1
          rw [List.any_eq_false] at ht
          exact ht _ (List.mem_of_getElem? b) rfl
      | ok r =>
        obtain ⟨rv, es⟩ := r
        rw [hd] at k2
        intro v F2 H2 S2 ro
        obtain ⟨S3, own3⟩ := call_stp S1 A hl S2
        refine k2 v F2 H2 S3 ?_
        cases rv with
        | fz d => exact ro
        | oo xs =>
          obtain ⟨p, ws, h1, h2, h3, h4, h5, h6⟩ := ro
          have hp1 : H1 p = none := by
            rcases h2 with ⟨i, ys, z, _⟩ | z
            · exact absurd z (en_nol i ys)
            · exact z
          refine ⟨p, ws, h1, .inr (S1.dm p hp1), h3, h4, h5, fun z => ?_⟩
          obtain ⟨⟨us, e⟩, _⟩ := S1.rel.own (own3 p z)
          rw [hp1] at e
          cases e
end Gx

/-! G6: loops and comprehensions. -/
namespace Gx
open PySem PySem.Spec L2
open PyProof.Rows hiding St

theorem Out.later {α : Type} {K : PySem.W.Frag} {mg : Str → Option Value} {E : XK} {ρ ρ1 : Ev} {σ σ1 : St} {F F1 H H1 : Hp} {m : Rs (α × Ev)} {P : α → Ev → Prop} (S : Stp K ρ σ F H ρ1 σ1 F1 H1) (h : Out mg E ρ σ H m P) : Out mg E ρ1 σ1 H1 m P := by
  cases m with
  | st => exact h
  | ex e => exact fun cls d H' xp => h cls d H' (xp.after S)
  | ok a => exact h
structure IOk (Fs : Hp) (J : It) (ds : List PyData) : Prop where
  go : ∀ (i : Nat) (H : Hp), i < ds.length → Same Fs H → J.go i H
  stop : ∀ (H : Hp), Same Fs H → J.stop ds.length H
  yld : ∀ (i : Nat) (H : Hp) (x : V) (H' F : Hp), i < ds.length → Same Fs F → Same F H → J.yld i H x H' → ∃ d F', ds[i]? = some d ∧ Grow F H F' H' ∧ Dq F' x d
def tI (K : PySem.W.Frag) (mg : Str → Option Value) (E : XK) (f : Dn (List PyData)) : TI := fun σ H R => ∃ ρ F, Rel K ρ σ F H ∧ Out mg E ρ σ H (f ρ) fun ds ρ' => ∀ J F' H', Stp K ρ σ F H ρ' σ F' H' → IOk F' J ds → R J H'
theorem drop_cons {α : Type} {l : List α} {i : Nat} {d : α} (h : l[i]? = some d) : l.drop i = d :: l.drop (i + 1) := by
  obtain ⟨hi, e⟩ := List.getElem?_eq_some_iff.mp h
  rw [List.drop_eq_getElem_cons hi, e]

/-! ### for -/
def loopF (h : PyData → Ev → Option Ev) (fb : Dn Fl) : List PyData → Dn Fl
  | [], ρ => .ok (.nx, ρ)
  | d :: ds, ρ => match h d ρ with
    | none => .st
    | some ρ1 => match fb ρ1 with
      | .st => .st
      | .ex e => .ex e
      | .ok (.nx, ρ2) => loopF h fb ds ρ2
      | .ok (.ct, ρ2) => loopF h fb ds ρ2
      | .ok (.bk, ρ2) => .ok (.nx, ρ2)
      | .ok (.rt r, ρ2) => .ok (.rt r, ρ2)
def sFor (fi : Dn (List PyData)) (h : PyData → Ev → Option Ev) (fb : Dn Fl) : Dn Fl := bnd fi fun ds => loopF h fb ds
section
variable {X : Cx} {E : XK} {pos : Pos}
theorem gs_for {tg iter : Expr} {body : List Stmt} {fi : Dn (List PyData)} {ts : List Nat} {h : PyData → Ev → Option Ev} {fb : Dn Fl} (hp : PassesOwn (model X.prog X.w) X.A X.env X.xe) (hc : X.calm = true) (hi : PI X tg iter (tI X.K X.mg E fi)) (hg : PG X tg (tGd X.K ts h)) (hb : PSs X body (tS X.K X.mg E fb))
    (hs : ∀ x, foldedSetIterable iter X.env x = pure x := by intro _; rfl) : PS X (.For tg iter body [] pos) (tS X.K X.mg E (sFor fi h fb)) :=
  ps_wk (ps_for hp hc hi hg hb hs) fun D σ H ⟨ρ, F, R, q⟩ => ⟨ρ, F, R, (out_bnd (K := X.K) (F := F) q).mono fun ds ρ1 k J F1 H1 S1 I => by
    refine ⟨fun i m σi Hi => m = ds.length - i ∧ i ≤ ds.length ∧ ∃ ρi Fi, Stp X.K ρ σ F H ρi σi Fi Hi ∧ Same F1 Fi ∧ Out X.mg E ρi σi Hi (loopF h fb (ds.drop i) ρi) (fun fl ρ' => match fl with
        | .nx => ∀ σ' F' H', Stp X.K ρ σ F H ρ' σ' F' H' → D.nx σ' H'
        | .bk => ∀ σ' F' H', Stp X.K ρ σ F H ρ' σ' F' H' → D.bk σ' H'
        | .ct => ∀ σ' F' H', Stp X.K ρ σ F H ρ' σ' F' H' → D.ct σ' H'
        | .rt r => ∀ σ' v F' H', Stp X.K ρ σ F H ρ' σ' F' H' → ROk ρ σ H ρ' σ' F' H' r v → D.rt v H'),
      ⟨ds.length, by simp, Nat.zero_le _, ρ1, F1, S1, Same.refl F1, k σ F1 H1 S1⟩, ?_⟩
    rintro i m σi Hi ⟨rfl, hi, ρi, Fi, Si, sm, o⟩
    by_cases hlt : i < ds.length
    · refine .inr ⟨I.go i Hi hlt (sm.trans Si.rel.sub), fun σ' H' => i + 1 ≤ ds.length ∧ ∃ ρ' F', Stp X.K ρ σ F H ρ' σ' F' H' ∧ Same F1 F' ∧ Out X.mg E ρ' σ' H' (loopF h fb (ds.drop (i + 1)) ρ') _, fun σ' H' ⟨hn, ρ', F', n1, n2, n3⟩ => ⟨ds.length - (i + 1), by omega, rfl, hn, ρ', F', n1, n2, n3⟩, fun x H' y => ?_⟩
      obtain ⟨d, F2, hd, gr, dq⟩ := I.yld i Hi x H' Fi hlt sm Si.rel.sub y
      have Sg := gr.stp Si.rel
      rw [drop_cons hd] at o
      unfold loopF at o
      cases e : h d ρi with
      | none => rw [e] at o; exact (show False from o).elim
      | some ρ2 =>
        rw [e] at o
        refine ⟨d, ρi, F2, ρ2, Sg.rel, dq, e, fun σ2 S2 _ => ⟨ρ2, F2, S2.rel, ?_⟩⟩
        have Sc := Sg.trans S2
        cases e2 : fb ρ2 with
        | st => simp only [e2] at o; exact (show False from o).elim
        | ex ex => simp only [e2] at o; exact fun cls dd H'' xp => o cls dd H'' (xp.after Sc)
        | ok r =>
          obtain ⟨fl, ρ3⟩ := r
          simp only [e2] at o
          cases fl with
          | nx => exact fun σ' F' H'' S' => ⟨hlt, ρ3, F', (Si.trans Sc).trans S', ((sm.trans gr.ff).trans S2.ff).trans S'.ff, o.later (Sc.trans S')⟩
          | ct => exact fun σ' F' H'' S' => ⟨hlt, ρ3, F', (Si.trans Sc).trans S', ((sm.trans gr.ff).trans S2.ff).trans S'.ff, o.later (Sc.trans S')⟩
          | bk =>
            have o' : ∀ σ' F' H', Stp X.K ρ σ F H ρ3 σ' F' H' → D.nx σ' H' := o
            exact fun σ' F' H'' S' => o' σ' F' H'' ((Si.trans Sc).trans S')
          | rt r =>
            have o' : ∀ σ' v F' H', Stp X.K ρ σ F H ρ3 σ' F' H' → ROk ρ σ H ρ3 σ' F' H' r v → D.rt v H' := o
            exact fun σ' v F' H'' S' ro => o' σ' v F' H'' ((Si.trans Sc).trans S') (ro.before (Si.trans Sc))
    · have e : i = ds.length := by omega
      subst e
      rw [List.drop_length] at o
      have o' : ∀ σ' F' H', Stp X.K ρ σ F H ρi σ' F' H' → D.nx σ' H' := o
      exact .inl ⟨I.stop Hi (sm.trans Si.rel.sub), o' σi Fi Hi Si⟩⟩
end

/-! ### a block's own names -/
def wipeE (ρ : Ev) : List Nat → Ev
  | [] => ρ
  | v :: vs => (wipeE ρ vs).set v .no
def restE (ρ0 ρ : Ev) (vs : List Nat) : Ev := ρ.mapIdx fun i e => if i ∈ vs then ρ0.getD i .no else e
theorem wipeE_len (ρ : Ev) : ∀ vs : List Nat, (wipeE ρ vs).length = ρ.length
  | [] => rfl
  | v :: vs => by unfold wipeE; rw [List.length_set, wipeE_len ρ vs]
theorem wipeE_get {ρ : Ev} {i : Nat} {e : En} (ne : e ≠ .no) : ∀ {vs : List Nat}, (wipeE ρ vs)[i]? = some e ↔ i ∉ vs ∧ ρ[i]? = some e
  | [] => by simp [wipeE]
  | v :: vs => by
    unfold wipeE
    constructor
    · intro h
      rcases set_get h with ⟨_, z⟩ | ⟨n, h⟩
      · exact absurd z ne
      · obtain ⟨h1, h2⟩ := (wipeE_get ne).mp h
        exact ⟨by simp only [List.mem_cons, not_or]; exact ⟨n, h1⟩, h2⟩
    · rintro ⟨h1, h2⟩
      simp only [List.mem_cons, not_or] at h1
      rw [List.getElem?_set_ne (Ne.symm h1.1)]
      exact (wipeE_get ne).mpr ⟨h1.2, h2⟩
theorem wipeE_twice {vs : List Nat} (ρ3 : Ev) : wipeE (wipeE ρ3 vs) vs = wipeE ρ3 vs := by
  apply List.ext_getElem?
  intro j
  have key : ∀ (τ : Ev) (e : En), e ≠ .no → ((wipeE (wipeE τ vs) vs)[j]? = some e ↔ (wipeE τ vs)[j]? = some e) := fun τ e ne => by
    rw [wipeE_get ne, wipeE_get ne]
    exact ⟨fun z => z.2, fun z => ⟨z.1, z⟩⟩
  cases e5 : (wipeE ρ3 vs)[j]? with
  | none =>
    have : (wipeE ρ3 vs).length ≤ j := List.getElem?_eq_none_iff.mp e5
    exact List.getElem?_eq_none (by rw [wipeE_len]; exact this)
  | some z =>
    by_cases hz : z = .no
    · cases e6 : (wipeE (wipeE ρ3 vs) vs)[j]? with
      | none =>
        have : (wipeE ρ3 vs).length ≤ j := by rw [← wipeE_len (wipeE ρ3 vs) vs]; exact List.getElem?_eq_none_iff.mp e6
        rw [List.getElem?_eq_none this] at e5
        cases e5
      | some y =>
        by_cases hy : y = .no
        · rw [hy, hz]
        · rw [(key ρ3 y hy).mp e6] at e5
          exact e5
    · exact (key ρ3 z hz).mpr e5
theorem wipeE_own {ρ : Ev} {vs : List Nat} {i : Nat} : IsOwn (wipeE ρ vs) i ↔ i ∉ vs ∧ IsOwn ρ i := by
  constructor
  · rintro (⟨xs, h⟩ | ⟨xs, h⟩)
    · obtain ⟨h1, h2⟩ := (wipeE_get (by intro z; cases z)).mp h
      exact ⟨h1, .inl ⟨xs, h2⟩⟩
    · obtain ⟨h1, h2⟩ := (wipeE_get (by intro z; cases z)).mp h
      exact ⟨h1, .inr ⟨xs, h2⟩⟩
  · rintro ⟨h1, ⟨xs, h⟩ | ⟨xs, h⟩⟩
    · exact .inl ⟨xs, (wipeE_get (by intro z; cases z)).mpr ⟨h1, h⟩⟩
    · exact .inr ⟨xs, (wipeE_get (by intro z; cases z)).mpr ⟨h1, h⟩⟩
theorem restE_get {ρ0 ρ : Ev} (hl : ρ.length = ρ0.length) {vs : List Nat} (i : Nat) : (restE ρ0 ρ vs)[i]? = if i ∈ vs then ρ0[i]? else ρ[i]? := by
  unfold restE
  rw [List.getElem?_mapIdx]
  by_cases h : i ∈ vs
  · rw [if_pos h]
    by_cases hi : i < ρ.length
    · rw [List.getElem?_eq_getElem hi]
      simp only [Option.map_some, if_pos h]
      rw [List.getD_eq_getElem?_getD, List.getElem?_eq_getElem (by omega)]
      rfl
    · rw [List.getElem?_eq_none (by omega), List.getElem?_eq_none (by omega)]
      rfl
  · rw [if_neg h]
    cases ρ[i]? with
    | none => rfl
    | some e => simp only [Option.map_some, if_neg h]
theorem σ_out {σ : St} {i : Nat} : ∀ {vs : List Nat}, i ∉ vs → (wipe σ vs)[i]? = σ[i]? := fun h => wipe_out h
theorem wipe_in {σ : St} {i : Nat} : ∀ {vs : List Nat}, i ∈ vs → (wipe σ vs)[i]? = (σ[i]?).map fun _ => none
  | [], h => by simp at h
  | v :: vs, h => by
    unfold wipe
    by_cases e : i = v
    · subst e
      by_cases hi : i < (wipe σ vs).length
      · rw [List.getElem?_set_self hi]
        rw [wipe_length] at hi
        rw [List.getElem?_eq_getElem hi]
        rfl
      · rw [List.getElem?_eq_none (by simpa using hi)]
        rw [wipe_length] at hi
        rw [List.getElem?_eq_none (by omega)]
        rfl
    · rw [List.getElem?_set_ne (Ne.symm e)]
      exact wipe_in (by simpa [e] using h)
theorem wipe_eq {σ τ : St} {vs : List Nat} (hl : σ.length = τ.length) (h : ∀ i, i ∉ vs → σ[i]? = τ[i]?) : wipe σ vs = wipe τ vs := by
  apply List.ext_getElem?
  intro i
  by_cases hi : i ∈ vs
  · rw [wipe_in hi, wipe_in hi]
    by_cases l : i < σ.length
    · rw [List.getElem?_eq_getElem l, List.getElem?_eq_getElem (by omega)]
      rfl
    · rw [List.getElem?_eq_none (by omega), List.getElem?_eq_none (by omega)]
  · rw [σ_out hi, σ_out hi]
    exact h i hi
section
variable {K : PySem.W.Frag} {ρ ρ1 ρ2 : Ev} {σ σ1 : St} {F F1 F2 H H1 H2 : Hp} {vs : List Nat}
theorem wipe_rel (R : Rel K ρ σ F H) : Rel K (wipeE ρ vs) (wipe σ vs) F H where
  sub := R.sub
  fz := fun i d h => by
    obtain ⟨n, h⟩ := (wipeE_get (by intro z; cases z)).mp h
    rw [σ_out n]
    exact R.fz i d h
  cs := fun i xs h => by
    have h' : i ∉ vs ∧ (ρ[i]? = some (.oo xs) ∨ ρ[i]? = some (.bo xs)) := by
      rcases h with h | h
      · obtain ⟨n, h⟩ := (wipeE_get (by intro z; cases z)).mp h
        exact ⟨n, .inl h⟩
      · obtain ⟨n, h⟩ := (wipeE_get (by intro z; cases z)).mp h
        exact ⟨n, .inr h⟩
    rw [σ_out h'.1]
    exact R.cs i xs h'.2
  sc := fun i ns h => by
    obtain ⟨n, h⟩ := (wipeE_get (by intro z; cases z)).mp h
    rw [σ_out n]
    exact R.sc i ns h
  sep := fun i j p hi hj e1 e2 => by
    obtain ⟨n1, o1⟩ := wipeE_own.mp hi
    obtain ⟨n2, o2⟩ := wipeE_own.mp hj
    rw [σ_out n1] at e1
    rw [σ_out n2] at e2
    exact R.sep i j p o1 o2 e1 e2
  ln := by rw [wipeE_len, wipe_length]; exact R.ln
theorem wipe_ownL {p : Addr} (h : OwnL (wipeE ρ vs) (wipe σ vs) p) : OwnL ρ σ p := by
  obtain ⟨i, xs, h1, h2⟩ := h
  obtain ⟨n, h1⟩ := (wipeE_get (by intro z; cases z)).mp h1
  rw [σ_out n] at h2
  exact ⟨i, xs, h1, h2⟩
theorem wipe_own {p : Addr} (h : Own (wipeE ρ vs) (wipe σ vs) p) : Own ρ σ p := by
  obtain ⟨i, h1, h2⟩ := own_ex h
  obtain ⟨n, h1⟩ := wipeE_own.mp h1
  rw [σ_out n] at h2
  exact own_at h1 h2
theorem wipe_turn (S : Stp K (wipeE ρ vs) (wipe σ vs) F H ρ1 σ1 F1 H1) (e : wipe σ1 vs = wipe σ vs) : Stp K (wipeE ρ vs) (wipe σ vs) F H (wipeE ρ1 vs) (wipe σ vs) F1 H1 := by
  have nv : ∀ (i : Nat) (xs : Cn), (wipeE ρ vs)[i]? = some (.bo xs) → i ∉ vs := fun i xs h => ((wipeE_get (by intro z; cases z)).mp h).1
  refine ⟨by rw [← e]; exact wipe_rel S.rel, S.ff, S.fr, fun p h => ?_, fun i xs h => ?_, fun i ys h => ?_, S.nw, by rw [wipeE_len]; exact S.ln, S.dm⟩
  · rw [← e] at h
    exact S.oo p (wipe_ownL h)
  · obtain ⟨⟨ys, h1⟩, _⟩ := S.bk i xs h
    exact ⟨⟨ys, (wipeE_get (by intro z; cases z)).mpr ⟨nv i xs h, h1⟩⟩, rfl⟩
  · exact S.kb i ys ((wipeE_get (by intro z; cases z)).mp h).2
theorem unwipe (R : Rel K ρ σ F H) (nb : ∀ v ∈ vs, ∀ xs, ρ[v]? ≠ some (.bo xs)) (S : Stp K (wipeE ρ vs) (wipe σ vs) F H ρ1 (wipe σ vs) F1 H1) : Stp K ρ σ F H (restE ρ ρ1 vs) σ F1 H1 := by
  have hl : ρ1.length = ρ.length := by rw [S.ln, wipeE_len]
  have gi : ∀ {i : Nat}, i ∈ vs → (restE ρ ρ1 vs)[i]? = ρ[i]? := fun {i} h => by rw [restE_get hl, if_pos h]
  have go : ∀ {i : Nat}, i ∉ vs → (restE ρ ρ1 vs)[i]? = ρ1[i]? := fun {i} h => by rw [restE_get hl, if_neg h]
  have oi : ∀ {i : Nat}, i ∈ vs → IsOwn (restE ρ ρ1 vs) i → IsOwn ρ i := fun {i} h o => by
    unfold IsOwn at o ⊢
    rw [gi h] at o
    exact o
  have oo : ∀ {i : Nat}, i ∉ vs → IsOwn (restE ρ ρ1 vs) i → IsOwn ρ1 i := fun {i} h o => by
    unfold IsOwn at o ⊢
    rw [go h] at o
    exact o
  -- a list that was hidden
  have hid : ∀ {i : Nat} {p : Addr}, i ∈ vs → IsOwn ρ i → σ[i]? = some (some (.ref p)) → ¬ Own (wipeE ρ vs) (wipe σ vs) p := fun {i p} h o e z => by
    obtain ⟨j, z1, z2⟩ := own_ex z
    obtain ⟨n, z1⟩ := wipeE_own.mp z1
    rw [σ_out n] at z2
    exact n (by rw [← R.sep i j p o z1 e z2]; exact h)
  have apart : ∀ {i j : Nat} {p : Addr}, i ∈ vs → IsOwn ρ i → σ[i]? = some (some (.ref p)) → j ∉ vs → IsOwn ρ1 j → σ[j]? = some (some (.ref p)) → False := fun {i j p} h o e nj oj ej => by
    have z : Own ρ1 (wipe σ vs) p := own_at oj (by rw [σ_out nj]; exact ej)
    obtain ⟨⟨ws, hp⟩, _⟩ := R.own (own_at o e)
    exact S.nob hp (hid h o e) z
  refine ⟨⟨S.rel.sub, fun i d h => ?_, fun i xs h => ?_, fun i ns h => ?_, fun i j p hi hj e1 e2 => ?_, by unfold restE; rw [List.length_mapIdx, hl]; exact R.ln⟩, S.ff, fun a o h n => S.fr a o h fun z => n (wipe_own z), fun p h => ?_, fun i xs h => ?_, fun i ys h => ?_, fun a h => ?_, by unfold restE; rw [List.length_mapIdx, hl], S.dm⟩
  · by_cases hv : i ∈ vs
    · rw [gi hv] at h
      obtain ⟨v, e, q⟩ := R.fz i d h
      exact ⟨v, e, dp_mono S.ff d v q⟩
    · rw [go hv] at h
      obtain ⟨v, e, q⟩ := S.rel.fz i d h
      rw [σ_out hv] at e
      exact ⟨v, e, q⟩
  · by_cases hv : i ∈ vs
    · rw [gi hv] at h
      obtain ⟨p, ws, e, h2, h3, h4⟩ := R.cs i xs h
      have o : IsOwn ρ i := by
        rcases h with h | h
        · exact .inl ⟨xs, h⟩
        · exact .inr ⟨xs, h⟩
      have nh := hid hv o e
      refine ⟨p, ws, e, S.fr p _ h2 nh, ?_, cn_mono S.ff h4⟩
      cases q : F1 p with
      | none => rfl
      | some y =>
        rcases S.nw p (by rw [q]; intro z; cases z) with z | z | z
        · exact absurd h3 z
        · exact absurd (.inl z) nh
        · rw [h2] at z
          cases z
    · rw [go hv] at h
      obtain ⟨p, ws, e, r⟩ := S.rel.cs i xs h
      rw [σ_out hv] at e
      exact ⟨p, ws, e, r⟩
  · by_cases hv : i ∈ vs
    · rw [gi hv] at h
      obtain ⟨a, e, q⟩ := R.sc i ns h
      exact ⟨a, e, sc_keep S.ff q⟩
    · rw [go hv] at h
      obtain ⟨a, e, q⟩ := S.rel.sc i ns h
      rw [σ_out hv] at e
      exact ⟨a, e, q⟩
  · by_cases hv : i ∈ vs
    · by_cases hw : j ∈ vs
      · exact R.sep i j p (oi hv hi) (oi hw hj) e1 e2
      · exact (apart hv (oi hv hi) e1 hw (oo hw hj) e2).elim
    · by_cases hw : j ∈ vs
      · exact (apart hw (oi hw hj) e2 hv (oo hv hi) e1).elim
      · exact S.rel.sep i j p (oo hv hi) (oo hw hj) (by rw [σ_out hv]; exact e1) (by rw [σ_out hw]; exact e2)
  · obtain ⟨i, xs, h1, h2⟩ := h
    by_cases hv : i ∈ vs
    · rw [gi hv] at h1
      exact .inl ⟨i, xs, h1, h2⟩
    · rw [go hv] at h1
      rcases S.oo p ⟨i, xs, h1, by rw [σ_out hv]; exact h2⟩ with z | z
      · exact .inl (wipe_ownL z)
      · exact .inr z
  · have hv : i ∉ vs := fun z => nb i z xs h
    obtain ⟨⟨ys, h1⟩, _⟩ := S.bk i xs ((wipeE_get (by intro z; cases z)).mpr ⟨hv, h⟩)
    exact ⟨⟨ys, by rw [go hv]; exact h1⟩, rfl⟩
  · by_cases hv : i ∈ vs
    · rw [gi hv] at h
      exact ⟨ys, h⟩
    · rw [go hv] at h
      obtain ⟨xs, h1⟩ := S.kb i ys h
      exact ⟨xs, ((wipeE_get (by intro z; cases z)).mp h1).2⟩
  · rcases S.nw a h with z | z | z
    · exact .inl z
    · exact .inr (.inl (wipe_ownL z))
    · exact .inr (.inr z)
theorem upd_stp {D : Addr} {o : HO} (S : Stp K ρ σ F H ρ1 σ1 F1 H1) (h1 : H D = none) (h2 : F1 D = none) (h3 : ¬ Own ρ1 σ1 D) : Stp K ρ σ F H ρ1 σ1 F1 (upd H1 D o) where
  rel := ⟨fun b x e => by
      rw [upd_ne (fun z => by rw [z, h2] at e; cases e)]
      exact S.rel.sub b x e, S.rel.fz, fun i xs h => by
      obtain ⟨p, ws, e, q, r⟩ := S.rel.cs i xs h
      have oi : IsOwn ρ1 i := by
        rcases h with h | h
        · exact .inl ⟨xs, h⟩
        · exact .inr ⟨xs, h⟩
      have ne : p ≠ D := fun z => h3 (by rw [← z]; exact own_at oi e)
      exact ⟨p, ws, e, by rw [upd_ne ne]; exact q, r⟩, S.rel.sc, S.rel.sep, S.rel.ln⟩
  ff := S.ff
  fr := fun a o' h n => by
    rw [upd_ne (ne_of_none h h1)]
    exact S.fr a o' h n
  oo := S.oo
  bk := S.bk
  kb := S.kb
  nw := S.nw
  ln := S.ln
  dm := fun a h => by
    by_cases z : a = D
    · rw [z]; exact h1
    · rw [upd_ne z] at h
      exact S.dm a h
theorem keep_nob {p : Addr} {ws : HO} (S : Stp K ρ σ F H ρ1 σ1 F1 H1) (h2 : H p = some ws) (h3 : F p = none) (h5 : ¬ Own ρ σ p) : H1 p = some ws ∧ F1 p = none ∧ ¬ Own ρ1 σ1 p := by
  refine ⟨S.fr p _ h2 h5, ?_, S.nob h2 h5⟩
  cases e : F1 p with
  | none => rfl
  | some o =>
    rcases S.nw p (by rw [e]; intro z; cases z) with z | z | z
    · exact absurd h3 z
    · exact absurd (.inl z) h5
    · rw [h2] at z
      cases z
end

/-! ### [elt for target in iter if test] -/
def compL (h : PyData → Ev → Option Ev) (ft : Dn Bool) (fe : Dn PyData) (vs : List Nat) : List PyData → List PyData → Dn (List PyData)
  | [], acc, ρ => .ok (acc, ρ)
  | d :: ds, acc, ρ => match h d ρ with
    | none => .st
    | some ρ1 => match ft ρ1 with
      | .ok (true, ρ2) => match fe ρ2 with
        | .ok (y, ρ3) => if okLen (acc.length + 1) then compL h ft fe vs ds (acc ++ [y]) (wipeE ρ3 vs) else .st
        | _ => .st
      | .ok (false, ρ2) => compL h ft fe vs ds acc (wipeE ρ2 vs)
      | _ => .st
def dComp (fi : Dn (List PyData)) (h : PyData → Ev → Option Ev) (ft : Dn Bool) (fe : Dn PyData) (vs : List Nat) : Dn Rv := bnd fi fun ds => fun ρ => if vs.all (fun v => !isBl ρ[v]?) then match compL h ft fe vs ds [] (wipeE ρ vs) with
  | .ok (ys, ρ2) => .ok (.ol ys, restE ρ ρ2 vs)
  | _ => .st
  else .st
theorem lc_wk {K : PySem.W.Frag} {mg : Str → Option Value} {E : XK} {fi : Dn (List PyData)} {ts : List Nat} {h : PyData → Ev → Option Ev} {ft : Dn Bool} {fe : Dn PyData} {vs : List Nat} (hts : ∀ i ∈ ts, i ∈ vs) (σ : St) (H : Hp) (Q : VK) (q : tE K mg E (dComp fi h ft fe vs) σ H Q) :
    tLc (tI K mg E fi) (tGd K ts h) (tT K mg E0 ft) (tD K mg E0 fe) vs σ H Q := by
  obtain ⟨ρ, F, R, q⟩ := q
  refine ⟨ρ, F, R, (out_bnd (K := K) (F := F) q).mono fun ds ρ1 k J F1 H1 S1 I D hD => ?_⟩
  have k2 := k σ F1 H1 S1
  by_cases hall : vs.all (fun v => !isBl ρ1[v]?) = true
  · rw [if_pos hall] at k2
    have nb : ∀ v ∈ vs, ∀ xs, ρ1[v]? ≠ some (.bo xs) := fun v hv xs z => by
      have := List.all_eq_true.mp hall v hv
      rw [z] at this
      cases this
    -- what the loop comes to
    cases ec : compL h ft fe vs ds [] (wipeE ρ1 vs) with
    | st => rw [ec] at k2; exact (show False from k2).elim
    | ex x => rw [ec] at k2; exact (show False from k2).elim
    | ok r =>
      obtain ⟨ys, ρf⟩ := r
      rw [ec] at k2
      have k3 : ∀ v F' H', Stp K ρ σ F H (restE ρ1 ρf vs) σ F' H' → ROk ρ σ H (restE ρ1 ρf vs) σ F' H' (.ol ys) v → Q v H' := k2
      refine ⟨fun i m Hi => m = ds.length - i ∧ i ≤ ds.length ∧ ∃ ρi Fi vacc acc, Stp K (wipeE ρ1 vs) (wipe σ vs) F1 H1 ρi (wipe σ vs) Fi Hi ∧ Hi D = some (.lst vacc) ∧ Fi D = none ∧ ¬ Own ρi (wipe σ vs) D ∧ DqAll Fi vacc acc ∧ wipeE ρi vs = ρi ∧ compL h ft fe vs (ds.drop i) acc ρi = .ok (ys, ρf),
        ⟨ds.length, by simp, Nat.zero_le _, wipeE ρ1 vs, F1, [], [], ?_, upd_same, S1.rel.sub.free hD, ?_, .nil, ?_, by simpa using ec⟩, ?_⟩
      · exact (Grow.own S1.rel.sub hD).stp (wipe_rel S1.rel)
      · intro z
        obtain ⟨⟨ws, e⟩, _⟩ := S1.rel.own (wipe_own z)
        rw [hD] at e
        cases e
      · exact wipeE_twice ρ1
      · rintro i m Hi ⟨rfl, hi, ρi, Fi, vacc, acc, Si, d1, d2, d3, d4, hwi, o⟩
        by_cases hlt : i < ds.length
        · refine .inr ⟨I.go i Hi hlt (Si.ff.trans Si.rel.sub), fun H' => i + 1 ≤ ds.length ∧ ∃ ρ' F' vacc acc, Stp K (wipeE ρ1 vs) (wipe σ vs) F1 H1 ρ' (wipe σ vs) F' H' ∧ H' D = some (.lst vacc) ∧ F' D = none ∧ ¬ Own ρ' (wipe σ vs) D ∧ DqAll F' vacc acc ∧ wipeE ρ' vs = ρ' ∧ compL h ft fe vs (ds.drop (i + 1)) acc ρ' = .ok (ys, ρf),
            fun H' ⟨hn, z⟩ => ⟨ds.length - (i + 1), by omega, rfl, hn, z⟩, fun x H' y => ?_⟩
          obtain ⟨d, F2, hd, gr, dq⟩ := I.yld i Hi x H' Fi hlt Si.ff Si.rel.sub y
          have Sg := gr.stp Si.rel
          rw [drop_cons hd] at o
          unfold compL at o
          cases e1 : h d ρi with
          | none => rw [e1] at o; cases o
          | some ρ2 =>
            simp only [e1] at o
            refine ⟨d, ρi, F2, ρ2, Sg.rel, dq, e1, fun σ2 S2 k2' => ?_⟩
            have hl2 : σ2.length = (wipe σ vs).length := by
              rw [← S2.rel.ln, S2.ln, Sg.rel.ln]
            have hw : wipe σ2 vs = wipe σ vs := by
              rw [wipe_eq (τ := wipe σ vs) hl2 fun j hj => k2' j fun z => hj (hts j z)]
              exact wipe_eq (wipe_length σ vs) fun j hj => σ_out hj
            refine ⟨hw, ρ2, F2, S2.rel, ?_⟩
            have Sc := (Si.trans Sg).trans S2
            obtain ⟨a1, a2, a3⟩ := keep_nob (Sg.trans S2) d1 d2 d3
            have wide : ∀ {ρ3 : Ev} {F3 H3 : Hp}, Stp K (wipeE ρ1 vs) (wipe σ vs) F1 H1 ρ3 σ2 F3 H3 → Stp K (wipeE ρ1 vs) (wipe σ vs) F1 H1 (wipeE ρ3 vs) (wipe σ vs) F3 H3 := fun S => wipe_turn S hw
            have nown : ∀ {ρ3 : Ev}, ¬ Own ρ3 σ2 D → ¬ Own (wipeE ρ3 vs) (wipe σ vs) D := fun n z => n (by rw [← hw] at z; exact wipe_own z)
            cases e2 : ft ρ2 with
            | st => simp only [e2] at o; cases o
            | ex x => simp only [e2] at o; cases o
            | ok r =>
              obtain ⟨b, ρ3⟩ := r
              show ∀ F' H'', Stp K ρ2 σ2 F2 H' ρ3 σ2 F' H'' → _
              intro F3 H3 S3
              obtain ⟨b1, b2, b3⟩ := keep_nob S3 a1 a2 a3
              cases b with
              | false =>
                simp only [e2] at o
                refine iteF ⟨hlt, wipeE ρ3 vs, F3, vacc, acc, wide (Sc.trans S3), b1, b2, nown b3, dps_mono ((gr.ff.trans S2.ff).trans S3.ff) _ _ d4, wipeE_twice ρ3, o⟩
              | true =>
                simp only [e2] at o
                refine iteT ⟨ρ3, F3, S3.rel, ?_⟩
                cases e3 : fe ρ3 with
                | st => simp only [e3] at o; cases o
                | ex x => simp only [e3] at o; cases o
                | ok r =>
                  obtain ⟨yd, ρ4⟩ := r
                  simp only [e3] at o
                  show ∀ v F' H'', Stp K ρ3 σ2 F3 H3 ρ4 σ2 F' H'' → _
                  intro v F4 H4 S4 dv
                  obtain ⟨c1, c2, c3⟩ := keep_nob S4 b1 b2 b3
                  by_cases hlen : okLen (acc.length + 1) = true
                  · rw [if_pos hlen] at o
                    have dacc := dps_mono (((gr.ff.trans S2.ff).trans S3.ff).trans S4.ff) _ _ d4
                    have el := dps_len dacc
                    refine ⟨vacc, c1, ?_, hlt, wipeE ρ4 vs, F4, vacc ++ [v], acc ++ [yd], upd_stp (wide ((Sc.trans S3).trans S4)) hD c2 (nown c3), upd_same, c2, nown c3, dps_app dacc (dps_one dv), wipeE_twice ρ4, o⟩
                    rw [el]
                    exact okLen_le hlen
                  · rw [if_neg hlen] at o
                    cases o
        · have e : i = ds.length := by omega
          subst e
          rw [List.drop_length] at o
          unfold compL at o
          cases o
          refine .inl ⟨I.stop Hi (Si.ff.trans Si.rel.sub), ?_⟩
          have Su := unwipe S1.rel nb Si
          refine k3 _ Fi Hi (S1.trans Su) ⟨D, _, rfl, .inr (S1.dm D hD), d1, d2, ⟨vacc, rfl, d4⟩, fun z => ?_⟩
          rcases z with z | z
          · obtain ⟨j, xs, z1, z2⟩ := z
            rw [restE_get (by rw [Si.ln, wipeE_len])] at z1
            by_cases hv : j ∈ vs
            · rw [if_pos hv] at z1
              obtain ⟨⟨ws, e⟩, _⟩ := S1.rel.own (.inl ⟨j, xs, z1, z2⟩)
              rw [hD] at e
              cases e
            · rw [if_neg hv] at z1
              exact d3 (.inl ⟨j, xs, z1, by rw [σ_out hv]; exact z2⟩)
          · obtain ⟨⟨ws, e⟩, _⟩ := S1.rel.own (.inr (Su.ob z))
            rw [hD] at e
            cases e
  · rw [if_neg hall] at k2
    exact (show False from k2).elim
end Gx

/-! G7: what is walked; comprehensions; calls; lists changed in place. -/
namespace Gx
open PySem PySem.Spec L2
open PyProof.Rows hiding St

section
variable {X : Cx} {E : XK} {pos : Pos}
theorem pi_wk {X : Cx} {tg iter : Expr} {t t' : TI} (h : PI X tg iter t) (w : ∀ σ H R, t' σ H R → t σ H R) : PI X tg iter t' := ⟨fun pins s σ H R I q => h.run pins s σ H R I (w σ H R q)⟩
def seqOf : PyData → Option (List PyData)
  | .list xs => some xs
  | .tuple xs => some xs
  | _ => none
theorem iok_list {K : PySem.W.Frag} {F : Hp} {a : Addr} {vs : List V} {ds : List PyData} (ha : F a = some (.lst vs)) (h : DqAll F vs ds) : IOk F (Itl K a) ds where
  go := fun i H hi s => ⟨vs, vs[i]'(by rw [dps_len h]; exact hi), .of (s _ _ ha), List.getElem?_eq_getElem _⟩
  stop := fun H s => ⟨vs, .of (s _ _ ha), Nat.le_of_eq (dps_len h)⟩
  yld := fun i H x H' G hi s1 s2 y => by
    obtain ⟨e, y⟩ := y
    subst e
    obtain ⟨v, e1, e2⟩ := dps_get h (List.getElem?_eq_getElem hi)
    have e3 := y vs (.of (s2 _ _ (s1 _ _ ha)))
    rw [e1] at e3
    cases e3
    exact ⟨_, G, List.getElem?_eq_getElem hi, Grow.refl s2, dp_mono s1 _ _ e2⟩
theorem iok_tup {K : PySem.W.Frag} {F : Hp} {a : Addr} {vs : List V} {ds : List PyData} (ha : F a = some (.tup vs)) (h : DqAll F vs ds) : IOk F (Itt K a) ds where
  go := fun i H hi s => ⟨vs, vs[i]'(by rw [dps_len h]; exact hi), .of (s _ _ ha), List.getElem?_eq_getElem _⟩
  stop := fun H s => ⟨vs, .of (s _ _ ha), Nat.le_of_eq (dps_len h)⟩
  yld := fun i H x H' G hi s1 s2 y => by
    obtain ⟨e, y⟩ := y
    subst e
    obtain ⟨v, e1, e2⟩ := dps_get h (List.getElem?_eq_getElem hi)
    have e3 := y vs (.of (s2 _ _ (s1 _ _ ha)))
    rw [e1] at e3
    cases e3
    exact ⟨_, G, List.getElem?_eq_getElem hi, Grow.refl s2, dp_mono s1 _ _ e2⟩
def iSeq (f : Dn PyData) : Dn (List PyData) := bnd f fun d => lft (seqOf d)
theorem gi_seq {tg e : Expr} {f : Dn PyData} (he : PE X e (tD X.K X.mg E f)) : PI X tg e (tI X.K X.mg E (iSeq f)) := by
  refine ⟨fun pins s σ H R I ⟨ρ, F, Rl, q⟩ => ?_⟩
  have reading : tD X.K X.mg E f σ H (fun v H1 => ∃ a, v = .ref a ∧ (((∃ xs, SqL X.K H1 a xs) ∧ R (Itl X.K a) H1) ∨ ((∃ xs, SqT X.K H1 a xs) ∧ R (Itt X.K a) H1))) := by
    refine ⟨ρ, F, Rl, (out_bnd (K := X.K) (F := F) q).mono fun d ρ1 k v F1 H1 S1 dq => ?_⟩
    obtain ⟨ds, hd, q2⟩ := out_lft (k _ _ _ S1)
    cases dq with
    | @lst a vs xs ha hx =>
      cases hd
      exact ⟨a, rfl, .inl ⟨⟨vs, .of (S1.rel.sub _ _ ha)⟩, q2 _ F1 H1 S1 (iok_list ha hx)⟩⟩
    | @tup a vs xs ha hx =>
      cases hd
      exact ⟨a, rfl, .inr ⟨⟨vs, .of (S1.rel.sub _ _ ha)⟩, q2 _ F1 H1 S1 (iok_tup ha hx)⟩⟩
    | _ => cases hd
  refine thn (he.run pins s σ H _ I reading) ?_
  rintro v s1 ⟨x, H1, I1, r1, a, rfl, both⟩
  cases r1
  have fresh := I1.hok.fresh (Nat.le_refl _)
  rcases both with ⟨⟨xs, hq⟩, qq⟩ | ⟨⟨xs, hq⟩, qq⟩
  · obtain ⟨its, _, pl, _⟩ := I1.list hq
    refine wpAny_pyIter_list pl.isList ⟨_, [_], _, Itl X.K a, H1, rfl, I1.kept (t' := s1.toks) fun b o e => Heap.get?_push_of_some _ e, turn_list a s1.heap.objs.size, ⟨_, Heap.get?_push_size _ rfl, rfl, rfl⟩, fun b hb => ?_, qq⟩
    rw [List.mem_singleton.mp hb]
    exact I1.fpOk (Nat.le_refl _) fresh
  · obtain ⟨its, _, pl, _⟩ := I1.tuple hq
    refine wpAny_pyIter_tuple (show s1.heap.IsTuple a its.toArray from pl) ⟨_, [_], _, Itt X.K a, H1, rfl, I1.kept (t' := s1.toks) fun b o e => Heap.get?_push_of_some _ e, turn_tuple a s1.heap.objs.size, ⟨_, Heap.get?_push_size _ rfl, rfl, rfl⟩, fun b hb => ?_, qq⟩
    rw [List.mem_singleton.mp hb]
    exact I1.fpOk (Nat.le_refl _) fresh
def rgD (lo : Int) (n : Nat) : List PyData := (List.range n).map fun i => .int (lo + (i : Nat))
theorem iok_range {F : Hp} {lo : Int} {n : Nat} : IOk F (Itr lo n) (rgD lo n) where
  go := fun i H hi _ => by
    show i < n
    simpa [rgD] using hi
  stop := fun H _ => by show n ≤ (rgD lo n).length; simp [rgD]
  yld := fun i H x H' G hi s1 s2 y => by
    obtain ⟨e, y⟩ := y
    subst e y
    have hn : i < n := by simpa [rgD] using hi
    exact ⟨_, G, by simp [rgD, hn], Grow.refl s2, .int _⟩
def small62 (i : Int) : Bool := decide (-4611686018427387904 ≤ i) && decide (i < 4611686018427387904)
theorem small62_ok {i : Int} (h : small62 i = true) : -(2 ^ 62) ≤ i ∧ i < 2 ^ 62 := by
  unfold small62 at h
  rw [Bool.and_eq_true, decide_eq_true_eq, decide_eq_true_eq] at h
  omega
def rg1 : List PyData → Option (List PyData)
  | [.int j] => if small62 j then some (rgD 0 j.toNat) else none
  | _ => none
def rg2 : List PyData → Option (List PyData)
  | [.int i, .int j] => if small62 i && small62 j then some (rgD i (j - i).toNat) else none
  | _ => none
def iRg1 (f : Dn (List PyData)) : Dn (List PyData) := bnd f fun ds => lft (rg1 ds)
def iRg2 (f : Dn (List PyData)) : Dn (List PyData) := bnd f fun ds => lft (rg2 ds)
theorem gi_range1 {tg a : Expr} {p : Pos} {f : Dn (List PyData)} (hg : Gl X "range") (hm : X.mg "range" = none) (ha : PA X [a] (tDs X.K X.mg E f)) (hs : starEach [a] X.env = [(false, eval a X.env)] := by rfl) : PI X tg (.Call (.Name "range" p) [a] [] pos) (tI X.K X.mg E (iRg1 f)) :=
  pi_wk (pi_range1 hg hm ha hs) fun σ H R ⟨ρ, F, Rl, q⟩ => ⟨ρ, F, Rl, (out_bnd (K := X.K) (F := F) q).mono fun ds ρ1 k vs F1 H1 S1 d1 => by
    obtain ⟨es, he, q2⟩ := out_lft (k _ _ _ S1)
    cases d1 with
    | nil => cases he
    | @cons v vs d ds h1 h2 =>
      cases h2 with
      | cons _ _ => cases d <;> cases he
      | nil =>
        cases h1 with
        | int j =>
          have he' : (if small62 j = true then some (rgD 0 j.toNat) else none) = some es := he
          by_cases hj : small62 j = true
          · rw [if_pos hj] at he'
            cases he'
            obtain ⟨b1, b2⟩ := small62_ok hj
            exact ⟨j, rfl, b1, b2, q2 _ F1 H1 S1 iok_range⟩
          · rw [if_neg hj] at he'
            cases he'
        | _ => cases he⟩
def enumD (n : Nat) : List PyData → List PyData
  | [] => []
  | x :: xs => .tuple [.int (n : Nat), x] :: enumD (n + 1) xs
theorem enumD_len : ∀ (xs : List PyData) (n : Nat), (enumD n xs).length = xs.length
  | [], _ => rfl
  | x :: xs, n => by simp [enumD, enumD_len xs]
theorem enumD_get : ∀ (xs : List PyData) (n i : Nat) (x : PyData), xs[i]? = some x → (enumD n xs)[i]? = some (.tuple [.int ((n + i : Nat) : Int), x])
  | [], _, _, _, h => by simp at h
  | y :: xs, n, 0, x, h => by simp at h; subst h; simp [enumD]
  | y :: xs, n, i + 1, x, h => by
    have ih := enumD_get xs (n + 1) i x (by simpa using h)
    have e : n + 1 + i = n + (i + 1) := by omega
    rw [e] at ih
    simpa [enumD] using ih
theorem iok_enum {K : PySem.W.Frag} {F : Hp} {a : Addr} {vs : List V} {ds : List PyData} (ha : F a = some (.lst vs)) (h : DqAll F vs ds) : IOk F (Ite K a) (enumD 0 ds) where
  go := fun i H hi s => by
    rw [enumD_len] at hi
    exact ⟨vs, vs[i]'(by rw [dps_len h]; exact hi), .of (s _ _ ha), List.getElem?_eq_getElem _⟩
  stop := fun H s => ⟨vs, .of (s _ _ ha), by rw [enumD_len, dps_len h]; exact Nat.le_refl _⟩
  yld := fun i H x H' G hi s1 s2 y => by
    rw [enumD_len] at hi
    obtain ⟨T, u, e, nT, e', y⟩ := y
    subst e e'
    obtain ⟨v, e1, e2⟩ := dps_get h (List.getElem?_eq_getElem hi)
    have e3 := y vs (.of (s2 _ _ (s1 _ _ ha)))
    rw [e1] at e3
    have e4 : v = u := Option.some.inj e3
    subst e4
    have g := Grow.new (o := .tup [.int (i : Nat), v]) s2 nT
    refine ⟨_, _, enumD_get ds 0 i _ (List.getElem?_eq_getElem hi), g, .tup upd_same (.cons ?_ (.cons (dp_mono g.ff _ _ (dp_mono s1 _ _ e2)) .nil))⟩
    rw [Nat.zero_add]
    exact .int _
def enumOf : List PyData → Option (List PyData)
  | [.list xs] => some (enumD 0 xs)
  | _ => none
def iEn (f : Dn (List PyData)) : Dn (List PyData) := bnd f fun ds => lft (enumOf ds)
def zipD : List PyData → List PyData → List PyData
  | x :: xs, y :: ys => .tuple [x, y] :: zipD xs ys
  | _, _ => []
theorem zipD_get : ∀ (xs ys : List PyData) (i : Nat) (x y : PyData), xs[i]? = some x → ys[i]? = some y → (zipD xs ys)[i]? = some (.tuple [x, y])
  | [], _, _, _, _, h, _ => by simp at h
  | _ :: _, [], _, _, _, _, h => by simp at h
  | a :: xs, b :: ys, 0, x, y, h1, h2 => by simp at h1 h2; subst h1 h2; rfl
  | a :: xs, b :: ys, i + 1, x, y, h1, h2 => by
    have ih := zipD_get xs ys i x y (by simpa using h1) (by simpa using h2)
    simpa [zipD] using ih
theorem zipD_len : ∀ (xs ys : List PyData), (zipD xs ys).length = min xs.length ys.length
  | [], _ => by simp [zipD]
  | _ :: _, [] => by simp [zipD]
  | a :: xs, b :: ys => by simp [zipD, zipD_len xs ys]
theorem iok_zipL {K : PySem.W.Frag} {F : Hp} {a b : Addr} {vs us : List V} {ds es : List PyData} (ha : F a = some (.lst vs)) (h : DqAll F vs ds) (hb : F b = some (.lst us)) (k : DqAll F us es) : IOk F (Itz K a b) (zipD ds es) where
  go := fun i H hi s => by
    rw [zipD_len] at hi
    have l1 : i < vs.length := by rw [dps_len h]; omega
    have l2 : i < us.length := by rw [dps_len k]; omega
    exact ⟨vs, us, vs[i], us[i], .of (s _ _ ha), .of (s _ _ hb), List.getElem?_eq_getElem l1, List.getElem?_eq_getElem l2⟩
  stop := fun H s => ⟨vs, us, .of (s _ _ ha), .of (s _ _ hb), by rw [zipD_len, dps_len h, dps_len k]; omega⟩
  yld := fun i H x H' G hi s1 s2 y => by
    rw [zipD_len] at hi
    obtain ⟨T, x1, x2, e, nT, e', y1, y2⟩ := y
    subst e e'
    have l1 : i < ds.length := by omega
    have l2 : i < es.length := by omega
    obtain ⟨v, e1, e2⟩ := dps_get h (List.getElem?_eq_getElem l1)
    obtain ⟨w, e3, e4⟩ := dps_get k (List.getElem?_eq_getElem l2)
    have e5 := y1 vs (.of (s2 _ _ (s1 _ _ ha)))
    have e6 := y2 us (.of (s2 _ _ (s1 _ _ hb)))
    rw [e1] at e5
    rw [e3] at e6
    have e7 : v = x1 := Option.some.inj e5
    have e8 : w = x2 := Option.some.inj e6
    subst e7 e8
    have g := Grow.new (o := .tup [v, w]) s2 nT
    exact ⟨_, _, zipD_get ds es i _ _ (List.getElem?_eq_getElem l1) (List.getElem?_eq_getElem l2), g, .tup upd_same (.cons (dp_mono g.ff _ _ (dp_mono s1 _ _ e2)) (.cons (dp_mono g.ff _ _ (dp_mono s1 _ _ e4)) .nil))⟩
theorem iok_zipT {K : PySem.W.Frag} {F : Hp} {a b : Addr} {vs us : List V} {ds es : List PyData} (ha : F a = some (.tup vs)) (h : DqAll F vs ds) (hb : F b = some (.tup us)) (k : DqAll F us es) : IOk F (RZ.ItzT K a b) (zipD ds es) where
  go := fun i H hi s => by
    rw [zipD_len] at hi
    have l1 : i < vs.length := by rw [dps_len h]; omega
    have l2 : i < us.length := by rw [dps_len k]; omega
    exact ⟨vs, us, vs[i], us[i], .of (s _ _ ha), .of (s _ _ hb), List.getElem?_eq_getElem l1, List.getElem?_eq_getElem l2⟩
  stop := fun H s => ⟨vs, us, .of (s _ _ ha), .of (s _ _ hb), by rw [zipD_len, dps_len h, dps_len k]; omega⟩
  yld := fun i H x H' G hi s1 s2 y => by
    rw [zipD_len] at hi
    obtain ⟨T, x1, x2, e, nT, e', y1, y2⟩ := y
    subst e e'
    have l1 : i < ds.length := by omega
    have l2 : i < es.length := by omega
    obtain ⟨v, e1, e2⟩ := dps_get h (List.getElem?_eq_getElem l1)
    obtain ⟨w, e3, e4⟩ := dps_get k (List.getElem?_eq_getElem l2)
    have e5 := y1 vs (.of (s2 _ _ (s1 _ _ ha)))
    have e6 := y2 us (.of (s2 _ _ (s1 _ _ hb)))
    rw [e1] at e5
    rw [e3] at e6
    have e7 : v = x1 := Option.some.inj e5
    have e8 : w = x2 := Option.some.inj e6
    subst e7 e8
    have g := Grow.new (o := .tup [v, w]) s2 nT
    exact ⟨_, _, zipD_get ds es i _ _ (List.getElem?_eq_getElem l1) (List.getElem?_eq_getElem l2), g, .tup upd_same (.cons (dp_mono g.ff _ _ (dp_mono s1 _ _ e2)) (.cons (dp_mono g.ff _ _ (dp_mono s1 _ _ e4)) .nil))⟩
def zipOf : List PyData → Option (List PyData)
  | [.list xs, .list ys] => some (zipD xs ys)
  | [.tuple xs, .tuple ys] => some (zipD xs ys)
  | _ => none
def iZp (f : Dn (List PyData)) : Dn (List PyData) := bnd f fun ds => lft (zipOf ds)
theorem gi_zip {e e2 : Expr} {p tpos : Pos} {elts : List Expr} {kk : Nat} {f : Dn (List PyData)} (hg : Gl X "zip") (hm : X.mg "zip" = none) (ha : PA X [e, e2] (tDs X.K X.mg E f)) (hs : starEach [e, e2] X.env = (false, eval e X.env) :: starEach [e2] X.env := by rfl)
    (hpl : (backTo pos (starEach [e2] X.env)).any (·.1) = false := by rfl) : PI X (.Tuple elts kk tpos) (.Call (.Name "zip" p) [e, e2] [] pos) (tI X.K X.mg E (iZp f)) :=
  pi_wk (RZ.pi_zipA hg hm ha hs hpl) fun σ H R ⟨ρ, F, Rl, q⟩ => ⟨ρ, F, Rl, (out_bnd (K := X.K) (F := F) q).mono fun ds ρ1 k vs F1 H1 S1 d1 => by
    obtain ⟨es, he, q2⟩ := out_lft (k _ _ _ S1)
    cases d1 with
    | nil => cases he
    | @cons v vs d ds h1 h2 =>
      cases h2 with
      | nil => cases d <;> cases he
      | @cons v2 vs2 d2 ds2 h3 h4 =>
        cases h4 with
        | cons _ _ => cases d <;> cases d2 <;> cases he
        | nil =>
          cases h1 with
          | @lst a us xs ha hx =>
            cases h3 with
            | @lst b ws ys hb hy =>
              cases he
              exact ⟨a, b, us, ws, rfl, .inl ⟨.of (S1.rel.sub _ _ ha), .of (S1.rel.sub _ _ hb), q2 _ F1 H1 S1 (iok_zipL ha hx hb hy)⟩⟩
            | _ => cases he
          | @tup a us xs ha hx =>
            cases h3 with
            | @tup b ws ys hb hy =>
              cases he
              exact ⟨a, b, us, ws, rfl, .inr ⟨.of (S1.rel.sub _ _ ha), .of (S1.rel.sub _ _ hb), q2 _ F1 H1 S1 (iok_zipT ha hx hb hy)⟩⟩
            | _ => cases he
          | _ => cases he⟩

/-! ### comprehensions -/
def yesT : Dn Bool := ret true
theorem pts_wk {X : Cx} {ifs : List Expr} {t t' : TT} (h : PTs X ifs t) (w : ∀ σ H Q, t' σ H Q → t σ H Q) : PTs X ifs t' := ⟨fun pins s σ H Q I q => h.run pins s σ H Q I (w σ H Q q)⟩
theorem gt_yes : PTs X [] (tT X.K X.mg E yesT) := pts_wk pts_nil fun σ H Q ⟨ρ, F, R, q⟩ => out_ret q F H (Stp.refl R)
theorem gt_one {c : Expr} {f : Dn Bool} (h : PT X c (tT X.K X.mg E f)) : PTs X [c] (tT X.K X.mg E f) := pts_one h
theorem g_comp {elt tg iter : Expr} {ifs : List Expr} {scope : Scope} {own : List (Str × Nat)} {ts : List Nat} {fi : Dn (List PyData)} {h : PyData → Ev → Option Ev} {ft : Dn Bool} {fe : Dn PyData} (hc : X.calm = true) (hN : X.N.Nodup) (hi : PI X tg iter (tI X.K X.mg E fi)) (ok : BlkOk X.N X.env.scope scope own)
    (hts : ∀ i ∈ ts, i ∈ own.map (·.2)) (hg : ∀ (s : Shared) (H : Hp) (C : Addr) (cl : List (Str × Addr)) (fp : List Addr), PG (X.blk s H scope (compEnvC scope cl C X.env) fp) tg (tGd X.K ts h))
    (ht : ∀ (s : Shared) (H : Hp) (C : Addr) (cl : List (Str × Addr)) (fp : List Addr), PTs (X.blk s H scope (compEnvC scope cl C X.env) fp) ifs (tT X.K X.mg E0 ft)) (he : ∀ (s : Shared) (H : Hp) (C : Addr) (cl : List (Str × Addr)) (fp : List Addr), PE (X.blk s H scope (compEnvC scope cl C X.env) fp) elt (tD X.K X.mg E0 fe))
    (hs : ∀ x, foldedSetIterable iter X.env x = pure x := by intro _; rfl) : PE X (.ListComp elt [⟨tg, iter, ifs, 0⟩] scope pos) (tE X.K X.mg E (dComp fi h ft fe (own.map (·.2)))) :=
  pe_wk (pe_lc hc hN hi ok hg ht he hs) (lc_wk hts)
theorem gs_setComp {i : Nat} {y : Str} {py spos : Pos} {elt tg iter : Expr} {ifs : List Expr} {scope : Scope} {own : List (Str × Nat)} {ts : List Nat} {fi : Dn (List PyData)} {h : PyData → Ev → Option Ev} {ft : Dn Bool} {fe : Dn PyData} (hc : X.calm = true) (hN : X.N.Nodup) (hy : X.N[i]? = some y) (hyl : X.env.scope.names.lookup y = some .local)
    (hsw : swapsWith (.ListComp elt [⟨tg, iter, ifs, 0⟩] scope pos) (some (.Name y py)) spos.line X.env = pure true) (hi : PI X tg iter (tI X.K X.mg E fi)) (ok : BlkOk X.N X.env.scope scope own)
    (hts : ∀ i ∈ ts, i ∈ own.map (·.2)) (hg : ∀ (s : Shared) (H : Hp) (C : Addr) (cl : List (Str × Addr)) (fp : List Addr), PG (X.blk s H scope (compEnvC scope cl C X.env) fp) tg (tGd X.K ts h))
    (ht : ∀ (s : Shared) (H : Hp) (C : Addr) (cl : List (Str × Addr)) (fp : List Addr), PTs (X.blk s H scope (compEnvC scope cl C X.env) fp) ifs (tT X.K X.mg E0 ft)) (he : ∀ (s : Shared) (H : Hp) (C : Addr) (cl : List (Str × Addr)) (fp : List Addr), PE (X.blk s H scope (compEnvC scope cl C X.env) fp) elt (tD X.K X.mg E0 fe))
    (hs : ∀ x, foldedSetIterable iter X.env x = pure x := by intro _; rfl) : PS X (.Assign [.Name y py] (.ListComp elt [⟨tg, iter, ifs, 0⟩] scope pos) spos) (tS X.K X.mg E (sSet i (dComp fi h ft fe (own.map (·.2))))) :=
  ps_wk (ps_setLc hc hN hy hyl hsw hi ok hg ht he hs) fun D σ H q => by
    obtain ⟨ρ, F, R, q⟩ := q
    refine lc_wk (E := E) hts σ H _ ⟨ρ, F, R, (out_bnd (K := X.K) (F := F) q).mono fun r ρ1 k v F1 H1 S1 ro => ?_⟩
    obtain ⟨q2, S2⟩ := put_stp S1 ro (k _ _ _ S1)
    exact q2 _ F1 H1 S2

/-! ### calls -/
def ArLen (f : Dn (List Ar)) (n : Nat) : Prop := ∀ ρ as ρ', f ρ = .ok (as, ρ') → as.length = n
theorem arl_nil : ArLen aNil 0 := fun ρ as ρ' h => by cases h; rfl
theorem arl_cons {f : Dn Rv} {g : Dn (List Ar)} {n : Nat} (h : ArLen g n) : ArLen (aCons f g) (n + 1) := fun ρ as ρ' e => by
  unfold aCons bnd at e
  cases ef : f ρ with
  | st => rw [ef] at e; cases e
  | ex x => rw [ef] at e; cases e
  | ok r =>
    rw [ef] at e
    simp only at e
    cases eg : g r.2 with
    | st => rw [eg] at e; cases e
    | ex x => rw [eg] at e; cases e
    | ok t =>
      rw [eg] at e
      cases e
      simp [h r.2 t.1 t.2 eg]
theorem arl_lend {i : Nat} {g : Dn (List Ar)} {n : Nat} (h : ArLen g n) : ArLen (aLend i g) (n + 1) := fun ρ as ρ' e => by
  have key : ∀ a : Ar, bnd g (fun as => ret (a :: as)) ρ = .ok (as, ρ') → as.length = n + 1 := fun a e => by
    unfold bnd at e
    cases eg : g ρ with
    | st => rw [eg] at e; cases e
    | ex x => rw [eg] at e; cases e
    | ok t =>
      rw [eg] at e
      cases e
      simp [h ρ t.1 t.2 eg]
  unfold aLend at e
  cases q : ρ[i]? with
  | none => rw [q] at e; cases e
  | some en =>
    rw [q] at e
    cases en with
    | oo xs => exact key _ e
    | bo xs => exact key _ e
    | sc ns => exact key _ e
    | _ => cases e
theorem g_call {x : Str} {p : Pos} {e : Expr} {es : List Expr} {j k n : Nat} {den : Den} {f : Dn (List Ar)} (c : Cal X.prog X.w X.K X.mg X.base j x n den) (hr : Room k X.A) (hj : j ≤ k) (hg : Gl X x) (hx : Passes (L2.CX X.prog X.w) X E) (ha : PA X (e :: es) (tAr X.K X.mg E f)) (hn : ArLen f n)
    (hdb : (x == ("__debug__" : Str)) = false := by decide) (he : starEach (e :: es) X.env = (false, eval e X.env) :: starEach es X.env := by rfl) (hpl : (backTo pos (starEach es X.env)).any (·.1) = false := by rfl) : PE X (.Call (.Name x p) (e :: es) [] pos) (tE X.K X.mg E (dFn den f)) := by
  obtain ⟨fa, fd, ps, Fn, hm, hk, hb⟩ := c.ex
  refine pe_wk (pe_call Fn (hr.mono hj) hg hm hk hb .nil hx ha hdb he hpl) fun σ H Q q => ?_
  exact spD_call (sp := fun vs H Q E => spD X.K X.mg n den (vs ++ []) H Q E) (fun vs H Q E h => by rw [List.append_nil]; exact h) (fun ρ as ρ' h => hn ρ as ρ' h) σ H Q q
def dFn0 (den : Den) : Dn Rv := dFn den (ret [])
theorem g_call0 {x : Str} {p : Pos} {j k : Nat} {den : Den} (c : Cal X.prog X.w X.K X.mg X.base j x 0 den) (hr : Room k X.A) (hj : j ≤ k) (hg : Gl X x) (hx : Passes (L2.CX X.prog X.w) X E) (hdb : (x == ("__debug__" : Str)) = false := by decide) :
    PE X (.Call (.Name x p) [] [] pos) (tE X.K X.mg E (dFn0 den)) := by
  obtain ⟨fa, fd, ps, Fn, hm, hk, hb⟩ := c.ex
  refine pe_wk (pe_call0 Fn (hr.mono hj) hg hm hk hb .nil hx hdb) fun σ H Q q => ?_
  have q2 := spD_call (sp := fun vs H Q E => spD X.K X.mg 0 den (vs ++ []) H Q E) (fun vs H Q E h => by rw [List.append_nil]; exact h) (fun ρ as ρ' h => by cases h; rfl) σ H Q q
  obtain ⟨ρ, F, R, o⟩ := q2
  have o' : ∀ vs F' H', Stp X.K ρ σ F H ρ σ F' H' → AOk X.K ρ σ H ρ F' H' [] vs → spD X.K X.mg 0 den (vs ++ []) H' Q E := o
  exact o' [] F H (Stp.refl R) ⟨rfl, fun k d h => by simp at h, fun k d h => by simp at h, fun k d h => by simp at h, fun k d h => by simp at h, fun k l xs ys p h => by simp at h⟩
end

/-! ### lists changed in place -/
def ownC : Option En → Option Cn
  | some (.oo c) => some c
  | some (.bo c) => some c
  | _ => none
theorem ownC_some {o : Option En} {c : Cn} (h : ownC o = some c) : o = some (.oo c) ∨ o = some (.bo c) := by
  cases o with
  | none => cases h
  | some e =>
    cases e with
    | oo ys => cases h; exact .inl rfl
    | bo ys => cases h; exact .inr rfl
    | _ => cases h
def ownOf : Option En → Option (List PyData)
  | some (.oo (.l xs)) => some xs
  | some (.bo (.l xs)) => some xs
  | _ => none
theorem ownOf_C {o : Option En} {xs : List PyData} (h : ownOf o = some xs) : ownC o = some (.l xs) := by
  cases o with
  | none => cases h
  | some e =>
    cases e with
    | oo c => cases c <;> cases h; rfl
    | bo c => cases c <;> cases h; rfl
    | _ => cases h
theorem ownOf_some {o : Option En} {xs : List PyData} (h : ownOf o = some xs) : o = some (.ol xs) ∨ o = some (.bl xs) := ownC_some (ownOf_C h)
def ownOfD : Option En → Option (List (PyData × PyData))
  | some (.oo (.d xs)) => some xs
  | some (.bo (.d xs)) => some xs
  | _ => none
theorem ownOfD_C {o : Option En} {xs : List (PyData × PyData)} (h : ownOfD o = some xs) : ownC o = some (.d xs) := by
  cases o with
  | none => cases h
  | some e =>
    cases e with
    | oo c => cases c <;> cases h; rfl
    | bo c => cases c <;> cases h; rfl
    | _ => cases h
theorem ownOfD_some {o : Option En} {xs : List (PyData × PyData)} (h : ownOfD o = some xs) : o = some (.od xs) ∨ o = some (.bd xs) := ownC_some (ownOfD_C h)
theorem own_updC {K : PySem.W.Frag} {ρ ρ1 : Ev} {σ σ1 : St} {F F1 H H1 : Hp} {i : Nat} {p : Addr} {ws : HO} {xs ys : Cn} (S : Stp K ρ σ F H ρ1 σ1 F1 H1) (hx : ownC ρ1[i]? = some xs) (hp : σ1[i]? = some (some (.ref p))) (d : ys.at F1 p ws) :
    Stp K ρ σ F H (ρ1.set i (reKindC ρ1[i]? ys)) σ1 F1 (upd H1 p ws) := by
  have hi := ownC_some hx
  have ho : IsOwn ρ1 i := by
    rcases hi with h | h
    · exact .inl ⟨xs, h⟩
    · exact .inr ⟨xs, h⟩
  have hlt : i < ρ1.length := by rcases hi with h | h <;> exact (List.getElem?_eq_some_iff.mp h).1
  have hown : Own ρ1 σ1 p := own_at ho hp
  obtain ⟨_, hF⟩ := S.rel.own hown
  have self : (ρ1.set i (reKindC ρ1[i]? ys))[i]? = some (reKindC ρ1[i]? ys) := List.getElem?_set_self hlt
  have kinds : ∀ (j : Nat), IsOwn (ρ1.set i (reKindC ρ1[i]? ys)) j → IsOwn ρ1 j := fun j h => by
    by_cases e : j = i
    · rw [e]; exact ho
    · rcases h with ⟨zs, h⟩ | ⟨zs, h⟩
      · rw [List.getElem?_set_ne (Ne.symm e)] at h
        exact .inl ⟨zs, h⟩
      · rw [List.getElem?_set_ne (Ne.symm e)] at h
        exact .inr ⟨zs, h⟩
  refine ⟨⟨fun b x e => ?_, fun j e h => ?_, fun j zs h => ?_, fun j ns h => ?_, fun j k q hj hk => S.rel.sep j k q (kinds j hj) (kinds k hk), by rw [List.length_set]; exact S.rel.ln⟩, S.ff, fun a o h n => ?_, fun q h => ?_, fun j zs h => ?_, fun j zs h => ?_, S.nw, by rw [List.length_set]; exact S.ln, fun a h => ?_⟩
  · rw [upd_ne (fun z => by rw [z, hF] at e; cases e)]
    exact S.rel.sub b x e
  · by_cases e' : j = i
    · rw [e', self] at h
      rcases hi with z | z <;> (rw [z] at h; cases h)
    · rw [List.getElem?_set_ne (Ne.symm e')] at h
      exact S.rel.fz j e h
  · by_cases e' : j = i
    · subst e'
      have e2 : zs = ys := by
        rw [self] at h
        rcases hi with z | z <;> (rw [z] at h; rcases h with h | h <;> cases h; rfl)
      subst e2
      exact ⟨p, ws, hp, upd_same, hF, d⟩
    · rw [List.getElem?_set_ne (Ne.symm e')] at h
      obtain ⟨q, us, a1, a2, a3⟩ := S.rel.cs j zs h
      have oj : IsOwn ρ1 j := by
        rcases h with h | h
        · exact .inl ⟨zs, h⟩
        · exact .inr ⟨zs, h⟩
      have ne : q ≠ p := fun z => e' (S.rel.sep j i p oj ho (by rw [← z]; exact a1) hp)
      exact ⟨q, us, a1, by rw [upd_ne ne]; exact a2, a3⟩
  · by_cases e' : j = i
    · rw [e', self] at h
      rcases hi with z | z <;> (rw [z] at h; cases h)
    · rw [List.getElem?_set_ne (Ne.symm e')] at h
      exact S.rel.sc j ns h
  · have ne : a ≠ p := fun z => S.nob h n (by rw [z]; exact hown)
    rw [upd_ne ne]
    exact S.fr a o h n
  · obtain ⟨j, zs, h1, h2⟩ := h
    by_cases e' : j = i
    · subst e'
      rw [self] at h1
      rcases hi with z | z
      · exact S.oo q ⟨j, xs, z, h2⟩
      · rw [z] at h1
        cases h1
    · rw [List.getElem?_set_ne (Ne.symm e')] at h1
      exact S.oo q ⟨j, zs, h1, h2⟩
  · obtain ⟨⟨us, h1⟩, h2⟩ := S.bk j zs h
    by_cases e' : j = i
    · subst e'
      rw [self, h1]
      exact ⟨⟨ys, rfl⟩, h2⟩
    · rw [List.getElem?_set_ne (Ne.symm e')]
      exact ⟨⟨us, h1⟩, h2⟩
  · by_cases e' : j = i
    · subst e'
      rw [self] at h
      rcases hi with z | z
      · rw [z] at h
        cases h
      · exact S.kb j xs z
    · rw [List.getElem?_set_ne (Ne.symm e')] at h
      exact S.kb j zs h
  · by_cases z : a = p
    · rw [z, upd_same] at h
      cases h
    · rw [upd_ne z] at h
      exact S.dm a h
theorem own_upd {K : PySem.W.Frag} {ρ ρ1 : Ev} {σ σ1 : St} {F F1 H H1 : Hp} {i : Nat} {p : Addr} {ws : List V} {xs ys : List PyData} (S : Stp K ρ σ F H ρ1 σ1 F1 H1) (hx : ownOf ρ1[i]? = some xs) (hp : σ1[i]? = some (some (.ref p))) (d : DqAll F1 ws ys) :
    Stp K ρ σ F H (ρ1.set i (reKind ρ1[i]? ys)) σ1 F1 (upd H1 p (.lst ws)) := own_updC (ys := .l ys) S (ownOf_C hx) hp ⟨ws, rfl, d⟩
def sUpd (i : Nat) (g : List PyData → Option (List PyData)) : Dn Fl := fun ρ => match (ownOf ρ[i]?).bind g with
  | some ys => .ok (.nx, ρ.set i (reKind ρ[i]? ys))
  | none => .st
section
variable {X : Cx} {E : XK} {pos : Pos}
def appD (d : PyData) (xs : List PyData) : Option (List PyData) := if okLen (xs.length + 1) then some (xs ++ [d]) else none
def sApp (i : Nat) (f : Dn PyData) : Dn Fl := fun ρ => if (ownOf ρ[i]?).isSome then bnd f (fun d => sUpd i (appD d)) ρ else .st
theorem app_wk {K : PySem.W.Frag} {mg : Str → Option Value} {i : Nat} {f : Dn PyData} (D : Ends) (σ : St) (H : Hp) (q : tS K mg E (sApp i f) D σ H) : tDrop (tBM K "list" rAppend (tVar i) (tCons (tD K mg E f) tNil)) D σ H := by
    obtain ⟨ρ, F, R, q⟩ := q
    unfold sApp at q
    cases hb : (ownOf ρ[i]?).isSome with
    | false => rw [hb] at q; exact (show False from q).elim
    | true =>
    rw [hb] at q
    obtain ⟨xs0, h0⟩ := Option.isSome_iff_exists.mp hb
    obtain ⟨p, ws0, hp, h2, _⟩ := R.ls i xs0 (ownOf_some h0)
    refine ⟨.ref p, hp, .inl ⟨rfl, ws0, .of h2⟩, ρ, F, R, (out_bnd (K := K) (F := F) q).mono fun d ρ1 k v F1 H1 S1 dq => ?_⟩
    have q2 := k _ _ _ S1
    unfold sUpd at q2
    cases hx : ownOf ρ1[i]? with
    | none => rw [hx] at q2; exact (show False from q2).elim
    | some xs =>
      obtain ⟨p', ws, hp', a2, a3, a4⟩ := S1.rel.ls i xs (ownOf_some hx)
      rw [hp] at hp'
      cases hp'
      rw [hx] at q2
      by_cases hl : okLen (xs.length + 1) = true
      · have e1 : (some xs).bind (appD d) = some (xs ++ [d]) := by
          show appD d xs = _
          unfold appD
          rw [if_pos hl]
        rw [e1] at q2
        refine ⟨p, ws, v, rfl, rfl, a2, ?_, ?_⟩
        · have := okLen_le hl
          rw [dps_len a4]
          exact this
        · exact q2 σ F1 _ (own_upd S1 hx hp (dps_app a4 (dps_one dq)))
      · have e1 : (some xs).bind (appD d) = none := by
          show appD d xs = _
          unfold appD
          rw [if_neg hl]
        rw [e1] at q2
        exact (show False from q2).elim
def setIxD (d k : PyData) (xs : List PyData) : Option (List PyData) := match k with
  | .int n => (ixN xs.length n).map fun j => xs.set j d
  | _ => none
def sSetIx (i : Nat) (fk f : Dn PyData) : Dn Fl := bnd f fun d => fun ρ => if (ownOf ρ[i]?).isSome then bnd fk (fun k => sUpd i (setIxD d k)) ρ else .st
theorem gs_setIx (i : Nat) {x : Str} {e ei : Expr} {p2 tpos : Pos} {f fk : Dn PyData} (he : PE X e (tD X.K X.mg E f)) (hi : PE X ei (tD X.K X.mg E fk)) (hN : X.N[i]? = some x := by rfl) (hv : Vis X.env.scope x := by first | exact Or.inl rfl | exact Or.inr (Or.inl rfl) | exact Or.inr (Or.inr rfl))
    (hd : (x == ("__debug__" : Str)) = false := by decide) (hcd : (x == ("__classdict__" : Str)) = false := by decide)
    (ha : ∀ v, assign (.Subscript (.Name x p2) ei tpos) X.env v = (do
      let ov ← holding [v] (eval (.Name x p2) X.env)
      let iv ← holding [v, ov] (eval ei X.env)
      standAt tpos
      holding [v, ov, iv] (setItem ov iv v)
      release [v, ov, iv] []) := by intro _; rfl)
    (hs : swapsWithSole [.Subscript (.Name x p2) ei tpos] e pos.line X.env = pure false := by rfl) (hw : swappedStores [.Subscript (.Name x p2) ei tpos] e X.env = pure none := by rfl)
    (h1 : (assignEach [.Subscript (.Name x p2) ei tpos] X.env).map (·.2) = [assign (.Subscript (.Name x p2) ei tpos) X.env] := by rfl) :
    PS X (.Assign [.Subscript (.Name x p2) ei tpos] e pos) (tS X.K X.mg E (sSetIx i fk f)) :=
  ps_wk (ps_asg he (pg_sub (pe_var hN hv hd hcd) hi set_list ha) hs hw h1) fun D σ H ⟨ρ, F, R, q⟩ => ⟨ρ, F, R, (out_bnd (K := X.K) (F := F) q).mono fun d ρ1 k v F1 H1 S1 dq => by
    have q2 := k _ _ _ S1
    cases hb : (ownOf ρ1[i]?).isSome with
    | false => rw [hb] at q2; exact (show False from q2).elim
    | true =>
    rw [hb] at q2
    obtain ⟨xs0, h0⟩ := Option.isSome_iff_exists.mp hb
    obtain ⟨p, ws0, hp, h2, _⟩ := S1.rel.ls i xs0 (ownOf_some h0)
    refine ⟨.ref p, hp, ρ1, F1, S1.rel, (out_bnd (K := X.K) (F := F1) q2).mono fun n ρ2 k2 u F2 H2 S2 dn => ?_⟩
    have q3 := k2 _ _ _ S2
    unfold sUpd at q3
    cases hx : ownOf ρ2[i]? with
    | none => rw [hx] at q3; exact (show False from q3).elim
    | some xs =>
      obtain ⟨p', ws, hp', a2, a3, a4⟩ := S2.rel.ls i xs (ownOf_some hx)
      rw [hp] at hp'
      cases hp'
      rw [hx] at q3
      cases dn with
      | int m =>
        cases hj : ixN xs.length m with
        | none =>
          have e1 : (some xs).bind (setIxD d (.int m)) = none := by
            show (ixN xs.length m).map _ = _
            rw [hj]
            rfl
          rw [e1] at q3
          exact (show False from q3).elim
        | some j =>
          have e1 : (some xs).bind (setIxD d (.int m)) = some (xs.set j d) := by
            show (ixN xs.length m).map _ = _
            rw [hj]
            rfl
          rw [e1] at q3
          refine ⟨p, ws, m, j, rfl, rfl, a2, by rw [dps_len a4]; exact hj, ?_⟩
          exact q3 σ F2 _ (own_upd (S1.trans S2) hx hp (dps_set (dp_mono S2.ff d v dq) j a4))
      | _ => exact (show False from q3).elim⟩
def dPopAt (i : Nat) (f : Dn PyData) : Dn PyData := fun ρ => if (ownOf ρ[i]?).isSome then bnd f (fun k => fun ρ => match ownOf ρ[i]?, k with
  | some xs, .int n => if small62 n then match seqIndex? n xs.length with
    | some j => match xs[j]? with
      | some d => .ok (d, ρ.set i (reKind ρ[i]? (xs.eraseIdx j)))
      | none => .st
    | none => .st
    else .st
  | _, _ => .st) ρ else .st
theorem popAt_wk {K : PySem.W.Frag} {mg : Str → Option Value} {i : Nat} {f : Dn PyData} (σ : St) (H : Hp) (Q : VK) (q : tD K mg E (dPopAt i f) σ H Q) : tBM K "list" rPopAt (tVar i) (tCons (tD K mg E f) tNil) σ H Q := by
    obtain ⟨ρ, F, R, q⟩ := q
    unfold dPopAt at q
    cases hb : (ownOf ρ[i]?).isSome with
    | false => rw [hb] at q; exact (show False from q).elim
    | true =>
    rw [hb] at q
    obtain ⟨xs0, h0⟩ := Option.isSome_iff_exists.mp hb
    obtain ⟨p, ws0, hp, h2, _⟩ := R.ls i xs0 (ownOf_some h0)
    refine ⟨.ref p, hp, .inl ⟨rfl, ws0, .of h2⟩, ρ, F, R, (out_bnd (K := K) (F := F) q).mono fun d ρ1 k v F1 H1 S1 dq => ?_⟩
    have q2 := k _ _ _ S1
    cases hx : ownOf ρ1[i]? with
    | none => simp only [hx] at q2; exact (show False from q2).elim
    | some xs =>
      obtain ⟨p', ws, hp', a2, a3, a4⟩ := S1.rel.ls i xs (ownOf_some hx)
      rw [hp] at hp'
      cases hp'
      cases dq with
      | int m =>
        simp only [hx] at q2
        by_cases hm : small62 m = true
        · rw [if_pos hm] at q2
          cases hj : seqIndex? m xs.length with
          | none => simp only [hj] at q2; exact (show False from q2).elim
          | some j =>
            simp only [hj] at q2
            cases hd : xs[j]? with
            | none => simp only [hd] at q2; exact (show False from q2).elim
            | some y =>
              simp only [hd] at q2
              obtain ⟨u, e1, e2⟩ := dps_get a4 hd
              obtain ⟨b1, b2⟩ := small62_ok hm
              refine ⟨p, ws, m, j, u, rfl, rfl, a2, by omega, by omega, by rw [dps_len a4]; exact hj, e1, ?_⟩
              exact q2 u F1 _ (own_upd S1 hx hp (dps_erase j a4)) e2
        · rw [if_neg hm] at q2
          exact (show False from q2).elim
      | _ => simp only [hx] at q2; exact (show False from q2).elim
end
end Gx

/-! X1: exceptions of the program as things: made, their field, what they are. -/
namespace Gx
open PySem PySem.Spec L2
open PyProof.Rows hiding St

structure OexG (K : PySem.W.Frag) (C : Addr) (B newId : String) (bmB : List Value) : Prop where
  cls : ∃ nm q N bs bm sn sub ab col dd k0 k1 k2 k3 k5, List.lookup C K = some (excClassObj nm q C N bs bm true sn sub ab col dd k0 k1 k2 k3 k5 newId) ∧ ∀ Y : String, bm.contains (Value.type Y) = bmB.contains (Value.type Y)
  ov : PySem.W.excOver K C bmB = true
  sa : PySem.W.findIn K (Value.ref C) (Str.ofString "__setattr__") = some (some (Value.builtin "object.__setattr__"))
  kC : PySem.W.keepIn K (Value.ref C) = true
structure BaseG (B newId initId : String) (bmB : List Value) : Prop where
  sf : StoreFacts B bmB "object.__setattr__" "object"
  ef : ExcBaseFacts B newId initId bmB
  ty : typeOf (Value.type B) = pure (Value.type "type")
  st : Manifest.isStub B = false
  hi : PySem.W.handedIn (Value.builtin initId) = true
abbrev bmLE : List Value := [Value.type "LookupError", Value.type "Exception", Value.type "BaseException", Value.type "object"]
abbrev bmVE : List Value := [Value.type "ValueError", Value.type "Exception", Value.type "BaseException", Value.type "object"]
section
variable {X : Cx} {pins : List (Addr × Obj)} {σ : St} {H : Hp} {s : Shared} {a C : Addr} {E : Value → Shared → Prop} {A : Around} {us : List Value} {B newId initId : String} {bmB : List Value}
def tBI (B newId : String) (bmB : List Value) (K : PySem.W.Frag) (ta : TA) : TE := fun σ H Q => ta σ H fun vs H1 => ∃ a C ws, vs = V.ref a :: ws ∧ ws.length ≤ 1000 ∧ OexG K C B newId bmB ∧ H1 a = some (exo a C none) ∧ Q V.non H1
def tOsG (B newId : String) (bmB : List Value) (K : PySem.W.Frag) (f : Str) (to te : TE) : TS := fun D σ H => te σ H fun y H1 => to σ H1 fun x H2 => ∃ a C, x = V.ref a ∧ OexG K C B newId bmB ∧ PySem.W.findIn K (Value.ref C) f = some none ∧ H2 a = some (exo a C none) ∧
  ∀ dx : Addr, H2 dx = none → dx ≠ a → D.nx σ (upd (upd H2 dx (exd dx [(f, y)])) a (exo a C (some dx)))
end
end Gx

namespace Gx
open PySem PySem.Spec L2
end Gx

/-! X3: the program's own __init__; exceptions made, as data. -/
namespace Gx
open PySem PySem.Spec L2
open PyProof.Rows hiding St

abbrev iSt (bx tx : Str) (p1 p2 p3 p4 p5 p6 p7 p8 p9 p10 p11 p12 p13 p14 p15 : Pos) : Stmt :=
  .FunctionDef (name := "__init__") (args := { posonlyargs := [], args := [{ arg := "self", annotation := none, pos := p1 }, { arg := "number", annotation := none, pos := p2 }], vararg := none, kwonlyargs := [], kw_defaults := [], kwarg := none, defaults := [] })
    (body := [.Expr (.Call (.Attribute (.Name bx p3) "__init__" p4) [.Name "self" p5, .JoinedStr [.Constant (.str tx) 0 p6, .FormattedValue (.Name "number" p7) (-1) none p8] p9] [] p10) p10,
      .Assign [.Attribute (.Name "self" p11) "number" p12] (.Name "number" p13) p14])
    (decorator_list := []) (returns := none) (type_params := [])
    (scope := { kind := .function, names := [(Str.ofString "self", .local), (Str.ofString "number", .local), (bx, .globalImplicit)], isGenerator := false, isCoroutine := false, more := [] }) (tscope := none) (bind := "__init__") (pos := p15)
def okN (n : Int) : Bool := decide (n.natAbs < 2 ^ 63)
def spI (C : Addr) : Sp := fun vs H Q _ => ∃ a n, vs = [.ref a, .int n] ∧ okN n = true ∧ H a = some (exo a C none) ∧ ∀ dx : Addr, H dx = none → dx ≠ a → Q .non (upd (upd H dx (exd dx [(("number" : Str), .int n)])) a (exo a C (some dx)))
section
variable {P : Program} {w : World} {K : PySem.W.Frag} {mg : Str → Option Value} {base : Heap} {C f : Addr} {qual : Str} {fd : FuncData} {newId initId : String} {bmB : List Value}
end
section
variable {X : Cx} {E : XK} {pos p : Pos} {C fI : Addr} {x : Str} {B newId initId : String} {bmB : List Value} {k : Nat} {fd : FuncData} {ps : List Str} {sp : Sp}
def tMkV (C : Addr) (sp : Sp) (ta : TA) : TE := fun σ H Q => ta σ H fun vs H1 => vs.length ≤ 1000 ∧ ∀ a : Addr, H1 a = none → sp (V.ref a :: vs) (upd H1 a (exo a C none)) (fun v H2 => v = .non ∧ Q (.ref a) H2) fun _ _ _ => False
def tMkW (C : Addr) (sp : Sp) (te : TE) : TE := fun σ H Q => tCons te tNil σ H fun vs H1 => ∃ y, vs = [y] ∧ ∀ a : Addr, H1 a = none → sp [V.ref a, y] (upd H1 a (exo a C none)) (fun v H2 => v = .non ∧ Q (.ref a) H2) fun _ _ _ => False
end
end Gx

/-! X4: exceptions without an own __init__, the field, isinstance. -/
namespace Gx
open PySem PySem.Spec L2
open PyProof.Rows hiding St

structure XCl (K : PySem.W.Frag) (C : Addr) : Prop where
  cl : (PySem.W.clsIn K C).isSome = true
  ga : PySem.W.findIn K (Value.ref C) "__getattribute__" = some (some (Value.builtin "BaseException.__getattribute__"))
  gg : PySem.W.findIn K (Value.ref C) "__getattr__" = some none
  exC : PySem.W.subIn K (Value.ref C) (Value.type "BaseException") = some true
  hd : PySem.W.hasDictIn K C = true
  gc : PySem.W.findIn K (Value.ref C) "__class__" = some (some (Value.builtin "object.__class__"))
  sp : PySem.W.specialIn K (Value.builtin "object.__class__") "__get__" = some (some (Value.builtin "getset_descriptor.__get__"))
  tk : PySem.W.takesIn K (Value.builtin "object.__class__") = some true
  mr : PySem.W.mroIn K C (Value.type "object") = some true
section
variable {X : Cx} {pos p : Pos} {C : Addr} {x : Str} {B newId initId : String} {bmB : List Value} {k : Nat}
def tNum (K : PySem.W.Frag) (f : Str) (te : TE) : TE := fun σ H Q => te σ H fun x H1 => ∃ a C d v, x = .ref a ∧ XCl K C ∧ PySem.W.findIn K (Value.ref C) f = some none ∧ H1 a = some (exo a C (some d)) ∧ H1 d = some (exd d [(f, v)]) ∧ Q v H1
def rIsX (K : PySem.W.Frag) : List V → Hp → VK → Prop := fun xs H Q => ∃ a c u C d b, xs = [.ref a, c] ∧ ClsV c u ∧ H a = some (exo a C d) ∧ (∀ dd, d = some dd → ∃ fs, H dd = some (exd dd fs)) ∧ XCl K C ∧ PySem.W.kitOne K (.ref C) u = some b ∧ Q (.bl b) H
end
end Gx

/-! G3: the operators and built-in functions, over data. -/
namespace Gx
open PySem PySem.Spec L2
open PyProof.Rows hiding St

section
variable {X : Cx} {E : XK} {pos : Pos}
theorem opR_wk {f : Value → Value → Sem Value} {r r' : R2} (h : OpR X f r) (w : ∀ x y H Q, r' x y H Q → r x y H Q) : OpR X f r' := fun pins s σ H x y v u Q I rx ry q => h pins s σ H x y v u Q I rx ry (w _ _ _ _ q)
theorem callR_wk {f : Value} {r r' : List V → Hp → VK → Prop} (h : CallR X f r) (w : ∀ xs H Q, r' xs H Q → r xs H Q) : CallR X f r' := fun pins s σ H xs us Q I rx q => h pins s σ H xs us Q I rx (w _ _ _ q)
theorem ixR_wk {r r' : R2} (h : IxR X r) (w : ∀ x y H Q, r' x y H Q → r x y H Q) : IxR X r' := fun vl sl pins s σ H x y v u Q I rx ry q z => h vl sl pins s σ H x y v u Q I rx ry (w _ _ _ _ q) z
theorem unR_wk {f : Value → Sem Value} {r r' : V → Hp → VK → Prop} (h : UnR X f r) (w : ∀ x H Q, r' x H Q → r x H Q) : UnR X f r' := fun pins s σ H x v Q I rx q => h pins s σ H x v Q I rx (w _ _ _ q)
theorem len_le {vs : List V} {xs : List PyData} {F : Hp} (h : DqAll F vs xs) : vs.length = xs.length := dps_len h
def fI (i : Int) : Option Rv := some (.fz (.int i))
def fB (b : Bool) : Option Rv := some (.fz (.bool b))
/-! ### arithmetic -/
def addD (d e : PyData) : Option Rv := match d, e with
  | .int i, .int j => fI (i + j)
  | .list xs, .list ys => if okLen (xs.length + ys.length) then some (.ol (xs ++ ys)) else none
  | .tuple xs, .tuple ys => if okLen (xs.length + ys.length) then some (.fz (.tuple (xs ++ ys))) else none
  | _, _ => none
theorem op_addD : OpD X (binaryOp .Add) addD := opR_wk ((op_add.or op_cat).or op_catA) fun x y H Q h => by
  obtain ⟨F, d, e, r, s, h1, h2, hr, q⟩ := h
  cases h1 with
  | int i =>
    cases h2 with
    | int j => cases hr; exact .inl (.inl ⟨i, j, rfl, rfl, q _ F H (Grow.refl s) (.int _)⟩)
    | _ => cases hr
  | @lst a vs xs ha hx =>
    cases h2 with
    | @lst b us ys hb hy =>
      have hr' : (if okLen (xs.length + ys.length) then some (Rv.ol (xs ++ ys)) else none) = some r := hr
      by_cases hl : okLen (xs.length + ys.length) = true
      · rw [if_pos hl] at hr'
        cases hr'
        refine .inl (.inr ⟨a, b, vs, us, rfl, rfl, s _ _ ha, s _ _ hb, by rw [len_le hx, len_le hy]; exact okLen_le hl, fun p np => q _ _ _ (Grow.own s np) ⟨p, _, rfl, np, upd_same, s.free np, _, rfl, dps_app hx hy⟩⟩)
      · rw [if_neg hl] at hr'
        cases hr'
    | _ => cases hr
  | @tup a vs xs ha hx =>
    cases h2 with
    | @tup b us ys hb hy =>
      have hr' : (if okLen (xs.length + ys.length) then some (Rv.fz (.tuple (xs ++ ys))) else none) = some r := hr
      by_cases hl : okLen (xs.length + ys.length) = true
      · rw [if_pos hl] at hr'
        cases hr'
        refine .inr ⟨a, b, vs, us, rfl, rfl, .inl (.inl (s _ _ ha)), .inl (.inl (s _ _ hb)), by rw [len_le hx, len_le hy]; exact okLen_le hl, fun e0 => q _ F H (Grow.refl s) ?_, fun _ e0 => q _ F H (Grow.refl s) ?_, fun _ _ p np => q _ _ _ (Grow.new s np) (.tup upd_same (dps_mono (same_new (s.free np)) _ _ (dps_app hx hy)))⟩
        · subst e0
          cases hx
          exact .tup hb hy
        · subst e0
          cases hy
          rw [List.append_nil]
          exact .tup ha hx
      · rw [if_neg hl] at hr'
        cases hr'
    | _ => cases hr
  | _ => cases hr
def subD (d e : PyData) : Option Rv := match d, e with
  | .int i, .int j => fI (i - j)
  | _, _ => none
theorem op_subD : OpD X (binaryOp .Sub) subD := opR_wk op_sub fun x y H Q h => by
  obtain ⟨F, d, e, r, s, h1, h2, hr, q⟩ := h
  cases h1 with
  | int i =>
    cases h2 with
    | int j => cases hr; exact ⟨i, j, rfl, rfl, q _ F H (Grow.refl s) (.int _)⟩
    | _ => cases hr
  | _ => cases h2 <;> cases hr
def w64 (i : Int) : Bool := decide (-2 ^ 64 < i) && decide (i < 2 ^ 64)
theorem w64_ok {i : Int} (h : w64 i = true) : -2 ^ 64 < i ∧ i < 2 ^ 64 := by
  unfold w64 at h
  rw [Bool.and_eq_true] at h
  exact ⟨of_decide_eq_true h.1, of_decide_eq_true h.2⟩
def mulD (d e : PyData) : Option Rv := match d, e with
  | .int i, .int j => if w64 i || w64 j then fI (i * j) else none
  | .list xs, .int k => if small62 k && okLen (xs.length * k.toNat) then some (.ol (List.replicate k.toNat xs).flatten) else none
  | _, _ => none
theorem op_mulD : OpD X (binaryOp .Mult) mulD := opR_wk (op_mul.or op_rep) fun x y H Q h => by
  obtain ⟨F, d, e, r, s, h1, h2, hr, q⟩ := h
  cases h1 with
  | int i =>
    cases h2 with
    | int j =>
      have hr' : (if w64 i || w64 j then fI (i * j) else none) = some r := hr
      by_cases c : (w64 i || w64 j) = true
      · rw [if_pos c] at hr'
        cases hr'
        refine .inl ⟨i, j, rfl, rfl, ?_, q _ F H (Grow.refl s) (.int _)⟩
        rw [Bool.or_eq_true] at c
        rcases c with c | c
        · exact .inl (w64_ok c)
        · exact .inr (w64_ok c)
      · rw [if_neg c] at hr'
        cases hr'
    | _ => cases hr
  | @lst a vs xs ha hx =>
    cases h2 with
    | int k =>
      have hr' : (if small62 k && okLen (xs.length * k.toNat) then some (Rv.ol (List.replicate k.toNat xs).flatten) else none) = some r := hr
      by_cases c : (small62 k && okLen (xs.length * k.toNat)) = true
      · rw [if_pos c] at hr'
        cases hr'
        rw [Bool.and_eq_true] at c
        obtain ⟨b1, b2⟩ := small62_ok c.1
        exact .inr ⟨a, k, vs, rfl, rfl, s _ _ ha, by omega, by omega, by rw [len_le hx]; exact okLen_le c.2, fun p np => q _ _ _ (Grow.own s np) ⟨p, _, rfl, np, upd_same, s.free np, _, rfl, dps_rep hx _⟩⟩
      · rw [if_neg c] at hr'
        cases hr'
    | _ => cases hr
  | _ => cases h2 <;> cases hr
def modD (d e : PyData) : Option Rv := match d, e with
  | .int i, .int j => if 0 < j then fI (i % j) else none
  | _, _ => none
theorem op_modD : OpD X (binaryOp .Mod) modD := opR_wk op_mod fun x y H Q h => by
  obtain ⟨F, d, e, r, s, h1, h2, hr, q⟩ := h
  cases h1 with
  | int i =>
    cases h2 with
    | int j =>
      have hr' : (if 0 < j then fI (i % j) else none) = some r := hr
      by_cases c : 0 < j
      · rw [if_pos c] at hr'
        cases hr'
        exact ⟨i, j, rfl, rfl, c, q _ F H (Grow.refl s) (.int _)⟩
      · rw [if_neg c] at hr'
        cases hr'
    | _ => cases hr
  | _ => cases h2 <;> cases hr
def fdivD (d e : PyData) : Option Rv := match d, e with
  | .int i, .int j => if 0 < j ∧ j < 1073741824 then fI (i / j) else none
  | _, _ => none
theorem op_fdivD : OpD X (binaryOp .FloorDiv) fdivD := opR_wk op_fdiv fun x y H Q h => by
  obtain ⟨F, d, e, r, s, h1, h2, hr, q⟩ := h
  cases h1 with
  | int i =>
    cases h2 with
    | int j =>
      have hr' : (if 0 < j ∧ j < 1073741824 then fI (i / j) else none) = some r := hr
      by_cases c : 0 < j ∧ j < 1073741824
      · rw [if_pos c] at hr'
        cases hr'
        exact ⟨i, j, rfl, rfl, c, q _ F H (Grow.refl s) (.int _)⟩
      · rw [if_neg c] at hr'
        cases hr'
    | _ => cases hr
  | _ => cases h2 <;> cases hr
def powD (d e : PyData) : Option Rv := match d, e with
  | .int i, .int j => if 0 ≤ j ∧ j ≤ 100 ∧ i.natAbs < 1000 then fI (i ^ j.toNat) else none
  | _, _ => none
theorem op_powD : OpD X (binaryOp .Pow) powD := opR_wk op_pow fun x y H Q h => by
  obtain ⟨F, d, e, r, s, h1, h2, hr, q⟩ := h
  cases h1 with
  | int i =>
    cases h2 with
    | int j =>
      have hr' : (if 0 ≤ j ∧ j ≤ 100 ∧ i.natAbs < 1000 then fI (i ^ j.toNat) else none) = some r := hr
      by_cases c : 0 ≤ j ∧ j ≤ 100 ∧ i.natAbs < 1000
      · rw [if_pos c] at hr'
        cases hr'
        exact ⟨i, j, rfl, rfl, ⟨c.1, by omega, by omega⟩, q _ F H (Grow.refl s) (.int _)⟩
      · rw [if_neg c] at hr'
        cases hr'
    | _ => cases hr
  | _ => cases h2 <;> cases hr
/-! ### comparisons -/
def ciD (p : Int → Int → Bool) (d e : PyData) : Option Rv := match d, e with
  | .int i, .int j => fB (p i j)
  | _, _ => none
theorem op_ciD {op : CmpOp} {p : Int → Int → Bool} (h : OpR X (compareOp op) (rI0 fun i j => .bl (p i j))) : OpD X (compareOp op) (ciD p) := opR_wk h fun x y H Q h => by
  obtain ⟨F, d, e, r, s, h1, h2, hr, q⟩ := h
  cases h1 with
  | int i =>
    cases h2 with
    | int j => cases hr; exact ⟨i, j, rfl, rfl, q _ F H (Grow.refl s) (.bl _)⟩
    | _ => cases hr
  | _ => cases h2 <;> cases hr
def ltD := ciD fun i j => decide (i < j)
def gtD := ciD fun i j => decide (j < i)
def leD := ciD fun i j => decide (i ≤ j)
def geD := ciD fun i j => decide (j ≤ i)
theorem op_ltD : OpD X (compareOp .Lt) ltD := op_ciD op_lt
theorem op_gtD : OpD X (compareOp .Gt) gtD := op_ciD op_gt
theorem op_leD : OpD X (compareOp .LtE) leD := op_ciD op_le
theorem op_geD : OpD X (compareOp .GtE) geD := op_ciD op_ge
theorem ci_bool {p : Int → Int → Bool} (d e : PyData) (r : Rv) (h : ciD p d e = some r) : ∃ k, r = .fz (.bool k) := by
  unfold ciD at h
  cases d <;> cases e <;> first | cases h | skip
  exact ⟨_, rfl⟩
def okEq (d e : PyData) : Bool := (cln d && cln e) && (SeqAt.shaped d && SeqAt.shaped e)
def eqD (d e : PyData) : Option Rv := if okEq d e then fB (d.eqv e) else none
def neD (d e : PyData) : Option Rv := if okEq d e then fB (!d.eqv e) else none
theorem op_eqDD (hu : X.A.units + 64 < cLine) : OpD X (compareOp .Eq) eqD := opR_wk (op_eqD hu) fun x y H Q h => by
  obtain ⟨F, d, e, r, s, h1, h2, hr, q⟩ := h
  unfold eqD at hr
  by_cases c : okEq d e = true
  · rw [if_pos c] at hr
    cases hr
    unfold okEq at c
    simp only [Bool.and_eq_true] at c
    exact ⟨d, e, dq_dp d x c.1.1 (dp_mono s d x h1), dq_dp e y c.1.2 (dp_mono s e y h2), c.2.1, c.2.2, q _ F H (Grow.refl s) (.bl _)⟩
  · rw [if_neg c] at hr
    cases hr
theorem op_neDD (hu : X.A.units + 64 < cLine) : OpD X (compareOp .NotEq) neD := opR_wk (op_neD hu) fun x y H Q h => by
  obtain ⟨F, d, e, r, s, h1, h2, hr, q⟩ := h
  unfold neD at hr
  by_cases c : okEq d e = true
  · rw [if_pos c] at hr
    cases hr
    unfold okEq at c
    simp only [Bool.and_eq_true] at c
    exact ⟨d, e, dq_dp d x c.1.1 (dp_mono s d x h1), dq_dp e y c.1.2 (dp_mono s e y h2), c.2.1, c.2.2, q _ F H (Grow.refl s) (.bl _)⟩
  · rw [if_neg c] at hr
    cases hr
def isNone : PyData → Bool
  | .none => true
  | _ => false
def isND (d e : PyData) : Option Rv := match e with
  | .none => fB (isNone d)
  | _ => none
theorem dq_non {F : Hp} {x : V} {d : PyData} (h : Dq F x d) : decide (x = .non) = isNone d := by
  cases h <;> simp [isNone]
theorem op_isND : OpD X (compareOp .Is) isND := opR_wk op_isN fun x y H Q h => by
  obtain ⟨F, d, e, r, s, h1, h2, hr, q⟩ := h
  cases h2 with
  | non =>
    cases hr
    refine ⟨rfl, ?_⟩
    rw [dq_non h1]
    exact q _ F H (Grow.refl s) (.bl _)
  | _ => cases hr
/-! ### items, functions -/
def ixD (d e : PyData) : Option Rv := match d, e with
  | .list xs, .int i => (atI xs i).map .fz
  | .tuple xs, .int i => (atI xs i).map .fz
  | _, _ => none
theorem dqs_at {F : Hp} {vs : List V} {xs : List PyData} {i : Int} {d : PyData} (h : DqAll F vs xs) (e : atI xs i = some d) : ∃ v, atI vs i = some v ∧ Dq F v d := by
  unfold atI at e ⊢
  rw [len_le h]
  obtain ⟨j, h1, h2⟩ := Option.bind_eq_some_iff.mp e
  obtain ⟨v, e1, e2⟩ := dps_get h h2
  exact ⟨v, by rw [h1]; exact e1, e2⟩
theorem ix_D : IxD X ixD := ixR_wk (ix_list.or ix_tup) fun x y H Q h => by
  obtain ⟨F, d, e, r, s, h1, h2, hr, q⟩ := h
  cases h1 with
  | @lst a vs xs ha hx =>
    cases h2 with
    | int i =>
      have hr' : (atI xs i).map Rv.fz = some r := hr
      obtain ⟨d, e1, e2⟩ := Option.map_eq_some_iff.mp hr'
      subst e2
      obtain ⟨v, e3, e4⟩ := dqs_at hx e1
      exact .inl ⟨a, vs, i, v, rfl, rfl, .of (s _ _ ha), e3, q _ F H (Grow.refl s) e4⟩
    | _ => cases hr
  | @tup a vs xs ha hx =>
    cases h2 with
    | int i =>
      have hr' : (atI xs i).map Rv.fz = some r := hr
      obtain ⟨d, e1, e2⟩ := Option.map_eq_some_iff.mp hr'
      subst e2
      obtain ⟨v, e3, e4⟩ := dqs_at hx e1
      exact .inr ⟨a, vs, i, v, rfl, rfl, .of (s _ _ ha), e3, q _ F H (Grow.refl s) e4⟩
    | _ => cases hr
  | _ => cases h2 <;> cases hr
def lenD : List PyData → Option Rv
  | [.list xs] => fI xs.length
  | [.tuple xs] => fI xs.length
  | _ => none
def absD : List PyData → Option Rv
  | [.int i] => fI (if i < 0 then -i else i)
  | _ => none
theorem call_absD : CallD X (.builtin "abs") absD := callR_wk call_abs fun xs H Q h => by
  obtain ⟨F, ds, r, s, h1, hr, q⟩ := h
  cases h1 with
  | nil => cases hr
  | cons h1 h2 =>
    cases h2 with
    | cons _ _ => cases h1 <;> cases hr
    | nil =>
      cases h1 with
      | int i => cases hr; exact ⟨i, rfl, q _ F H (Grow.refl s) (.int _)⟩
      | _ => cases hr
def intD : List PyData → Option Rv
  | [.int i] => fI i
  | [.bool b] => fI (if b = true then 1 else 0)
  | _ => none
theorem call_intD : CallD X (.type "int") intD := callR_wk call_int1 fun xs H Q h => by
  obtain ⟨F, ds, r, s, h1, hr, q⟩ := h
  cases h1 with
  | nil => cases hr
  | cons h1 h2 =>
    cases h2 with
    | cons _ _ => cases h1 <;> cases hr
    | nil =>
      cases h1 with
      | int i => cases hr; exact .inl ⟨i, rfl, q _ F H (Grow.refl s) (.int _)⟩
      | bl b => cases hr; exact .inr ⟨b, rfl, q _ F H (Grow.refl s) (.int _)⟩
      | _ => cases hr
def listD : List PyData → Option Rv
  | [.list xs] => some (.ol xs)
  | [.tuple xs] => some (.ol xs)
  | _ => none
theorem call_listDD : CallD X (.type "list") listD := callR_wk call_list_of fun xs H Q h => by
  obtain ⟨F, ds, r, s, h1, hr, q⟩ := h
  cases h1 with
  | nil => cases hr
  | cons h1 h2 =>
    cases h2 with
    | cons _ _ => cases h1 <;> cases hr
    | nil =>
      cases h1 with
      | @lst a vs xs ha hx =>
        cases hr
        exact ⟨a, vs, rfl, .inl (.of (s _ _ ha)), fun l np => q _ _ _ (Grow.own s np) ⟨l, _, rfl, np, upd_same, s.free np, _, rfl, hx⟩⟩
      | @tup a vs xs ha hx =>
        cases hr
        exact ⟨a, vs, rfl, .inr (.of (s _ _ ha)), fun l np => q _ _ _ (Grow.own s np) ⟨l, _, rfl, np, upd_same, s.free np, _, rfl, hx⟩⟩
      | _ => cases hr
def tupleD : List PyData → Option Rv
  | [.list xs] => some (.fz (.tuple xs))
  | [.tuple xs] => some (.fz (.tuple xs))
  | _ => none
theorem call_tupleD : CallD X (.type "tuple") tupleD := callR_wk call_tuple_of fun xs H Q h => by
  obtain ⟨F, ds, r, s, h1, hr, q⟩ := h
  cases h1 with
  | nil => cases hr
  | cons h1 h2 =>
    cases h2 with
    | cons _ _ => cases h1 <;> cases hr
    | nil =>
      cases h1 with
      | @lst a vs xs ha hx =>
        cases hr
        exact ⟨a, vs, rfl, .inl ⟨.of (s _ _ ha), fun l np => q _ _ _ (Grow.new s np) (.tup upd_same (dps_mono (same_new (s.free np)) _ _ hx))⟩⟩
      | @tup a vs xs ha hx =>
        cases hr
        exact ⟨a, vs, rfl, .inr ⟨.of (s _ _ ha), q _ F H (Grow.refl s) (.tup ha hx)⟩⟩
      | _ => cases hr
def bools : List PyData → Option (List Bool)
  | [] => some []
  | .bool b :: ds => (bools ds).map (b :: ·)
  | _ :: _ => none
theorem dqs_bools {F : Hp} : ∀ {vs : List V} {ds : List PyData} {bs : List Bool}, DqAll F vs ds → bools ds = some bs → vs = bs.map V.bl
  | [], _, bs, h, e => by cases h; cases e; rfl
  | v :: vs, _, bs, h, e => by
    cases h with
    | cons h1 h2 =>
      cases h1 with
      | bl b =>
        obtain ⟨cs, e1, e2⟩ := Option.map_eq_some_iff.mp (show (bools _).map (b :: ·) = some bs from e)
        subst e2
        rw [dqs_bools h2 e1]
        rfl
      | _ => cases e
def allD : List PyData → Option Rv
  | [.list xs] => (bools xs).bind fun bs => fB (bs.all id)
  | _ => none
theorem call_allD (hc : X.calm = true) : CallD X (.builtin "all") allD := callR_wk (cr_all hc) fun xs H Q h => by
  obtain ⟨F, ds, r, s, h1, hr, q⟩ := h
  cases h1 with
  | nil => cases hr
  | cons h1 h2 =>
    cases h2 with
    | cons _ _ => cases h1 <;> cases hr
    | nil =>
      cases h1 with
      | @lst a vs xs ha hx =>
        obtain ⟨bs, e1, e2⟩ := Option.bind_eq_some_iff.mp (show (bools xs).bind (fun bs => fB (bs.all id)) = some r from hr)
        cases e2
        have e := dqs_bools hx e1
        subst e
        exact ⟨a, bs, rfl, .of (s _ _ ha), q _ F H (Grow.refl s) (.bl _)⟩
      | _ => cases hr
def negD : PyData → Option PyData
  | .int i => some (.int (-i))
  | _ => none
theorem un_negD : UnD X (unaryOp .USub) negD := unR_wk un_neg fun x H Q h => by
  obtain ⟨F, d, r, s, h1, hr, q⟩ := h
  cases h1 with
  | int i => cases hr; exact ⟨i, rfl, q _ (.int _)⟩
  | _ => cases hr
end
end Gx

/-! G8: a list looked at where it stands: items, length, slices; the script. -/
namespace Gx
open PySem PySem.Spec L2
open PyProof.Rows hiding St

def seqE : Option En → Option (List PyData)
  | some (.oo (.l xs)) => some xs
  | some (.bo (.l xs)) => some xs
  | some (.fz (.list xs)) => some xs
  | some (.fz (.tuple xs)) => some xs
  | some (.sc (.l ns)) => some (ns.map .int)
  | some (.sc (.t ns)) => some (ns.map .int)
  | _ => none
def isTupE : Option En → Bool
  | some (.fz (.tuple _)) => true
  | some (.sc (.t _)) => true
  | _ => false
theorem dqs_ints {F : Hp} : ∀ ns : List Int, DqAll F (ns.map V.int) (ns.map .int)
  | [] => .nil
  | n :: ns => .cons (.int n) (dqs_ints ns)
theorem seq_val {K : PySem.W.Frag} {ρ : Ev} {σ : St} {F H : Hp} {i : Nat} {xs : List PyData} (R : Rel K ρ σ F H) (h : seqE ρ[i]? = some xs) :
    ∃ p vs, σ[i]? = some (some (.ref p)) ∧ DqAll F vs xs ∧ (isTupE ρ[i]? = false → SqL K H p vs) ∧ (isTupE ρ[i]? = true → SqT K H p vs) := by
  cases e : ρ[i]? with
  | none => rw [e] at h; cases h
  | some en =>
    rw [e] at h
    cases en with
    | no => cases h
    | oo c =>
      cases c with
      | d _ => cases h
      | k _ => cases h
      | l ys =>
      cases h
      obtain ⟨p, vs, h1, h2, h3, h4⟩ := R.ls i xs (.inl e)
      exact ⟨p, vs, h1, h4, fun _ => .of h2, fun z => by cases z⟩
    | bo c =>
      cases c with
      | d _ => cases h
      | k _ => cases h
      | l ys =>
      cases h
      obtain ⟨p, vs, h1, h2, h3, h4⟩ := R.ls i xs (.inr e)
      exact ⟨p, vs, h1, h4, fun _ => .of h2, fun z => by cases z⟩
    | sc ns =>
      obtain ⟨a, h1, h2⟩ := R.sc i ns e
      cases ns with
      | l ns =>
        cases h
        exact ⟨a, _, h1, dqs_ints ns, fun _ => sc_keep (x := .l ns) R.sub h2, fun z => by cases z⟩
      | t ns =>
        cases h
        exact ⟨a, _, h1, dqs_ints ns, fun z => (by cases z), fun _ => sc_keep (x := .t ns) R.sub h2⟩
    | fz d =>
      obtain ⟨v, h1, h2⟩ := R.fz i d e
      cases h2 with
      | @lst a vs ys ha hx =>
        cases h
        exact ⟨a, vs, h1, hx, fun _ => .of (R.sub _ _ ha), fun z => by cases z⟩
      | @tup a vs ys ha hx =>
        cases h
        exact ⟨a, vs, h1, hx, fun z => (by cases z), fun _ => .of (R.sub _ _ ha)⟩
      | _ => cases h
section
variable {X : Cx} {E : XK} {pos : Pos}
def itemE (o : Option En) (k : PyData) : Option PyData := match seqE o, k with
  | some xs, .int n => atI xs n
  | _, _ => none
def dPeek (i : Nat) (f : Dn PyData) : Dn PyData := fun ρ => if (seqE ρ[i]?).isSome then bnd f (fun k ρ => match itemE ρ[i]? k with
  | some d => .ok (d, ρ)
  | none => .st) ρ else .st
theorem g_peek (i : Nat) {x : Str} {p2 : Pos} {e : Expr} {f : Dn PyData} (he : PE X e (tD X.K X.mg E f)) (hN : X.N[i]? = some x := by rfl) (hv : Vis X.env.scope x := by first | exact Or.inl rfl | exact Or.inr (Or.inl rfl) | exact Or.inr (Or.inr rfl))
    (hd : (x == ("__debug__" : Str)) = false := by decide) (hcd : (x == ("__classdict__" : Str)) = false := by decide) (hs : PlainIx e := by intro _ _; rfl) : PE X (.Subscript (.Name x p2) e pos) (tD X.K X.mg E (dPeek i f)) :=
  pe_wk (pe_ix (ix_list.or ix_tup) (pe_var hN hv hd hcd) he hs) fun σ H Q ⟨ρ, F, R, q⟩ => by
    unfold dPeek at q
    cases hb : (seqE ρ[i]?).isSome with
    | false => rw [hb] at q; exact (show False from q).elim
    | true =>
    rw [hb] at q
    obtain ⟨xs0, h0⟩ := Option.isSome_iff_exists.mp hb
    obtain ⟨p, vs0, hp, _⟩ := seq_val R h0
    refine ⟨.ref p, hp, ρ, F, R, (out_bnd (K := X.K) (F := F) q).mono fun k ρ1 kk v F1 H1 S1 dk => ?_⟩
    have q2 := kk _ _ _ S1
    unfold itemE at q2
    cases hx : seqE ρ1[i]? with
    | none => simp only [hx] at q2; exact (show False from q2).elim
    | some xs =>
      obtain ⟨p', vs, hp', dx, sl, st⟩ := seq_val S1.rel hx
      rw [hp] at hp'
      cases hp'
      cases dk with
      | int n =>
        simp only [hx] at q2
        cases hn : atI xs n with
        | none => simp only [hn] at q2; exact (show False from q2).elim
        | some d =>
          simp only [hn] at q2
          obtain ⟨u, e1, e2⟩ := dqs_at dx hn
          cases ht : isTupE ρ1[i]? with
          | false => exact .inl ⟨p, vs, n, u, rfl, rfl, sl ht, e1, q2 u F1 H1 S1 e2⟩
          | true => exact .inr ⟨p, vs, n, u, rfl, rfl, st ht, e1, q2 u F1 H1 S1 e2⟩
      | _ => simp only [hx] at q2; exact (show False from q2).elim
def dLenP (i : Nat) : Dn PyData := fun ρ => match seqE ρ[i]? with
  | some xs => .ok (.int xs.length, ρ)
  | none => .st
theorem g_lenP (i : Nat) {x : Str} {p p2 : Pos} (hg : Gl X "len") (hm : X.mg "len" = none) (hN : X.N[i]? = some x := by rfl) (hv : Vis X.env.scope x := by first | exact Or.inl rfl | exact Or.inr (Or.inl rfl) | exact Or.inr (Or.inr rfl))
    (hd : (x == ("__debug__" : Str)) = false := by decide) (hcd : (x == ("__classdict__" : Str)) = false := by decide) : PE X (.Call (.Name "len" p) [.Name x p2] [] pos) (tD X.K X.mg E (dLenP i)) :=
  pe_wk (pe_callB call_len_seq hg hm PySem.boot_len (pa_cons (pe_var hN hv hd hcd) pa_nil)) fun σ H Q ⟨ρ, F, R, q⟩ => by
    unfold dLenP at q
    cases hx : seqE ρ[i]? with
    | none => simp only [hx] at q; exact (show False from q).elim
    | some xs =>
      simp only [hx] at q
      obtain ⟨p, vs, hp, dx, sl, st⟩ := seq_val R hx
      refine ⟨.ref p, hp, p, vs, rfl, ?_, ?_⟩
      · cases ht : isTupE ρ[i]? with
        | false => exact .inl (sl ht)
        | true => exact .inr (st ht)
      · rw [len_le dx]
        exact q _ F H (Stp.refl R) (.int _)
def dSlP (i : Nat) (lo hi : Dn (Option Int)) : Dn Rv := fun ρ => if (seqE ρ[i]?).isSome then bnd lo (fun l => bnd hi fun h => fun ρ => match seqE ρ[i]? with
  | some xs => if isTupE ρ[i]? then .st else .ok (.ol (cutD xs l h), ρ)
  | none => .st) ρ else .st
theorem g_slP (i : Nat) {x : Str} {p2 p3 : Pos} {lo hi : Option Expr} {fl fh : Dn (Option Int)} (hl : PO X lo (tO X.K X.mg E fl)) (hu : PO X hi (tO X.K X.mg E fh)) (hN : X.N[i]? = some x := by rfl) (hv : Vis X.env.scope x := by first | exact Or.inl rfl | exact Or.inr (Or.inl rfl) | exact Or.inr (Or.inr rfl))
    (hd : (x == ("__debug__" : Str)) = false := by decide) (hcd : (x == ("__classdict__" : Str)) = false := by decide) : PE X (.Subscript (.Name x p3) (.Slice lo hi none p2) pos) (tE X.K X.mg E (dSlP i fl fh)) :=
  pe_wk (pe_slice sl_list (pe_var hN hv hd hcd) hl hu) fun σ H Q ⟨ρ, F, R, q⟩ => by
    unfold dSlP at q
    cases hb : (seqE ρ[i]?).isSome with
    | false => rw [hb] at q; exact (show False from q).elim
    | true =>
    rw [hb] at q
    obtain ⟨xs0, h0⟩ := Option.isSome_iff_exists.mp hb
    obtain ⟨p, vs0, hp, _⟩ := seq_val R h0
    refine ⟨.ref p, hp, ρ, F, R, (out_bnd (K := X.K) (F := F) q).mono fun l ρ1 k F1 H1 S1 => ?_⟩
    refine ⟨ρ1, F1, S1.rel, (out_bnd (K := X.K) (F := F1) (k _ _ _ S1)).mono fun h ρ2 k2 F2 H2 S2 => ?_⟩
    have q2 := k2 _ _ _ S2
    cases hx : seqE ρ2[i]? with
    | none => simp only [hx] at q2; exact (show False from q2).elim
    | some xs =>
      obtain ⟨p', vs, hp', dx, sl, st⟩ := seq_val S2.rel hx
      rw [hp] at hp'
      cases hp'
      simp only [hx] at q2
      cases ht : isTupE ρ2[i]? with
      | true => simp only [ht] at q2; exact (show False from q2).elim
      | false =>
        simp only [ht] at q2
        refine ⟨p, vs, rfl, sl ht, fun a np => ?_⟩
        have S12 := S1.trans S2
        have gr := Grow.own (o := .lst (cutV vs l h)) S2.rel.sub np
        have nk : NOk H2 F2 (upd H2 a (.lst (cutV vs l h))) (.ol (cutD xs l h)) (.ref a) := ⟨a, _, rfl, np, upd_same, S2.rel.sub.free np, _, rfl, dqs_cut dx l h⟩
        exact q2 _ F2 _ (S12.trans (gr.stp S2.rel)) ((nk.rok S2.rel).before S12)
end
end Gx

/-! X5: exceptions, over data. -/
namespace Gx
open PySem PySem.Spec L2
open PyProof.Rows hiding St

section
variable {X : Cx} {E : XK} {pos p : Pos} {C fI : Addr} {x : Str} {B newId initId : String} {bmB : List Value} {k : Nat} {fd : FuncData} {ps : List Str}
def mkD (C : Addr) : PyData → Dn PyData
  | .int n => if okN n then ret (exD1 C n) else lft none
  | _ => lft none
def dMk (C : Addr) (f : Dn PyData) : Dn PyData := bnd f (mkD C)
def numD (tb : List Addr) : PyData → Option PyData
  | .dict [(.int c, .int n)] => if tb.any fun C => (C : Int) == c then some (.int n) else none
  | _ => none
def excC : PyData → Option Int
  | .dict [(.int c, .int _)] => some c
  | .dict [(.int c, .none)] => some c
  | _ => none
def isXD (tb : List (Addr × Bool)) (d : PyData) : Option PyData := (excC d).bind fun c => (tb.find? fun q => (q.1 : Int) == c).map fun q => .bool q.2
end
end Gx

/-! X6: isinstance of plain data. -/
namespace Gx
open PySem PySem.Spec L2
open PyProof.Rows hiding St

inductive Ty where
  | non | bl | int | str | lst | tup
deriving DecidableEq
def Ty.nm : Ty → String
  | .non => "NoneType"
  | .bl => "bool"
  | .int => "int"
  | .str => "str"
  | .lst => "list"
  | .tup => "tuple"
def tyOf : PyData → Option Ty
  | .none => some .non
  | .bool _ => some .bl
  | .int _ => some .int
  | .str _ => some .str
  | .list _ => some .lst
  | .tuple _ => some .tup
  | .dict _ => none
def isa (a b : Ty) : Bool := a == b || (a == .bl && b == .int)
theorem tyX_of {K : PySem.W.Frag} {F H : Hp} {v : V} {d : PyData} {t : Ty} (s : Same F H) (h : Dq F v d) (e : tyOf d = some t) : TyX K H v (.type t.nm) := by
  cases h with
  | non => cases e; exact .base .non
  | bl b => cases e; exact .base (.bl b)
  | int i => cases e; exact .base (.int i)
  | str x => cases e; exact .base (.str x)
  | lst ha _ => cases e; exact .base (.lst (s _ _ ha))
  | tup ha _ => cases e; exact .base (.tup (s _ _ ha))
  | _ => cases e
theorem kit_ok (K : PySem.W.Frag) (a b : Ty) : PySem.W.kitOne K (.type a.nm) (.type b.nm) = some (isa a b) := by
  cases a <;> cases b <;> rfl
theorem kit_any (K : PySem.W.Frag) (a b c : Ty) : PySem.W.kitAny K (.type a.nm) [.type b.nm, .type c.nm] = some (isa a b || isa a c) := by
  rw [PySem.W.kitAny.eq_2, kit_ok, PySem.W.kitAny.eq_2, kit_ok, PySem.W.kitAny.eq_1]
  cases isa a b <;> cases isa a c <;> rfl
def isiD (b : Ty) (d : PyData) : Option PyData := (tyOf d).map fun a => .bool (isa a b)
def isi2D (b c : Ty) (d : PyData) : Option PyData := (tyOf d).map fun a => .bool (isa a b || isa a c)
section
variable {X : Cx} {E : XK} {pos p : Pos} {x y : Str}
theorem g_isi {e : Expr} {f : Dn PyData} {p2 p3 : Pos} (b : Ty) (hi : Gl X "isinstance") (hj : X.mg "isinstance" = none) (hg : Gl X x) (hm : X.mg x = none) (hv : bootBuiltins x = some (.type b.nm)) (he : PE X e (tD X.K X.mg E f))
    (hn : x ≠ "__name__" := by decide) (hdb : (x == ("__debug__" : Str)) = false := by decide) (hs : starEach [e, .Name x p3] X.env = (false, eval e X.env) :: starEach [.Name x p3] X.env := by rfl) (hpl : (backTo pos (starEach [.Name x p3] X.env)).any (·.1) = false := by rfl) :
    PE X (.Call (.Name "isinstance" p2) [e, .Name x p3] [] pos) (tD X.K X.mg E (dUn (isiD b) f)) :=
  pe_wk (pe_callB call_isi hi hj PyProof.Rows.Boot.isinstance (pa_cons he (pa_cons (pe_bltn (v := .ty b.nm) hg hm hv rfl hn hdb) pa_nil) hs) (he := hs) (hpl := hpl)) fun σ H Q ⟨ρ, F, R, q⟩ => ⟨ρ, F, R, (out_bnd (K := X.K) (F := F) q).mono fun d ρ1 k v F1 H1 S1 d1 => by
    obtain ⟨r, hr, q2⟩ := out_lft (k _ _ _ S1)
    obtain ⟨a, h1, h2⟩ := Option.map_eq_some_iff.mp hr
    subst h2
    exact ⟨v, _, _, _, _, rfl, .ty _, tyX_of S1.rel.sub d1 h1, kit_ok X.K a b, q2 _ F1 H1 S1 (.bl _)⟩⟩
theorem g_isi2 {e : Expr} {f : Dn PyData} {p2 p3 p4 p5 : Pos} {kk : Nat} (b c : Ty) (hi : Gl X "isinstance") (hj : X.mg "isinstance" = none) (hg : Gl X x) (hm : X.mg x = none) (hv : bootBuiltins x = some (.type b.nm)) (hg2 : Gl X y) (hm2 : X.mg y = none) (hv2 : bootBuiltins y = some (.type c.nm)) (he : PE X e (tD X.K X.mg E f))
    (hn : x ≠ "__name__" := by decide) (hdb : (x == ("__debug__" : Str)) = false := by decide) (hn2 : y ≠ "__name__" := by decide) (hdb2 : (y == ("__debug__" : Str)) = false := by decide)
    (hs : starEach [e, .Tuple [.Name x p3, .Name y p4] kk p5] X.env = (false, eval e X.env) :: starEach [.Tuple [.Name x p3, .Name y p4] kk p5] X.env := by rfl) (hpl : (backTo pos (starEach [.Tuple [.Name x p3, .Name y p4] kk p5] X.env)).any (·.1) = false := by rfl) :
    PE X (.Call (.Name "isinstance" p2) [e, .Tuple [.Name x p3, .Name y p4] kk p5] [] pos) (tD X.K X.mg E (dUn (isi2D b c) f)) :=
  pe_wk (pe_callB call_isiT hi hj PyProof.Rows.Boot.isinstance (pa_cons he (pa_cons (pe_tup (pa_cons (pe_bltn (v := .ty b.nm) hg hm hv rfl hn hdb) (pa_cons (pe_bltn (v := .ty c.nm) hg2 hm2 hv2 rfl hn2 hdb2) pa_nil))) pa_nil) hs) (he := hs) (hpl := hpl)) fun σ H Q ⟨ρ, F, R, q⟩ => ⟨ρ, F, R, (out_bnd (K := X.K) (F := F) q).mono fun d ρ1 k v F1 H1 S1 d1 => by
    obtain ⟨r, hr, q2⟩ := out_lft (k _ _ _ S1)
    obtain ⟨a, h1, h2⟩ := Option.map_eq_some_iff.mp hr
    subst h2
    refine ⟨by rw [sizeLine_eq]; show 2 ≤ _; decide, fun t nt => ?_⟩
    have gr := Grow.own (o := .tup [.ty b.nm, .ty c.nm]) S1.rel.sub nt
    exact ⟨v, t, _, _, _, _, rfl, upd_same, .cons (.ty _) (.cons (.ty _) .nil), tyX_of gr.sub d1 h1, kit_any X.K a b c, q2 _ F1 _ (S1.trans (gr.stp S1.rel)) (.bl _)⟩⟩
end
end Gx

/-! X7: what a text says of its defs and classes. -/
namespace Gx
open PySem PySem.Spec L2
open PyProof.Rows hiding St

structure DefAt (K : PySem.W.Frag) (mg : Str → Option Value) (x : Str) (st : Stmt) (ps : List Str) : Prop where
  ex : ∃ f fd, Fun K x x st f fd ∧ mg x = some (.ref f) ∧ Binds K fd ps []
theorem calOf {P : Program} {w : World} {K : PySem.W.Frag} {mg : Str → Option Value} {base : Heap} {k n : Nat} {x : Str} {st : Stmt} {ps : List Str} {den : Den} (D : DefAt K mg x st ps) (h : ∀ f fd, Fun K x x st f fd → FnOk P w K mg base (L2.CX P w) k f fd ps (spD K mg n den)) : Cal P w K mg base k x n den := by
  obtain ⟨f, fd, Fn, hm, hb⟩ := D.ex
  exact ⟨f, fd, ps, h f fd Fn, hm, Fn.kp, hb⟩
theorem room_u {k : Nat} {A : Around} (h : Room k A) : A.units + 64 < cLine := by
  have := h.un
  omega
structure MkAt (K : PySem.W.Frag) (mg : Str → Option Value) (C : Addr) : Prop where
  ex : ∃ B newId initId bmB fI fd, BaseG B newId initId bmB ∧ OexG K C B newId bmB ∧ PySem.W.findIn K (Value.ref C) "__init__" = some (some (.ref fI)) ∧ PySem.W.typeIn K (.ref fI) = some (.type "function") ∧
    (∀ (P : Program) (w : World) (base : Heap), FnOk P w K mg base (L2.CX P w) 2 fI fd ["self", "number"] (spI C)) ∧ Binds K fd ["self", "number"] [] ∧ ∀ (s : Shared) (u v : Value), BindsTo s fd ⟨[u], [("number", v)]⟩ ((["self", "number"] : List Str).zip [u, v])
section
variable {X : Cx} {E : XK} {pos p : Pos} {C : Addr} {x : Str} {k : Nat}
abbrev dChT (g g' : PyData → PyData → Option Rv) (fa fb fc : Dn PyData) : Dn Bool := bnd (dChain g g' fa fb fc) fun r => lft (boolOf r.d)
def dOrD (f g : Dn PyData) : Dn PyData := bnd f fun x => bnd (lft (truth x)) fun b => if b then ret x else g
def nmAll : List Nat → List PyData → Ev → Option Ev
  | [], [], ρ => some ρ
  | i :: is, d :: ds, ρ => (hName i d ρ).bind (nmAll is ds)
  | _, _, _ => none
def sPar (is : List Nat) (f : Dn (List PyData)) : Dn Fl := bnd f fun ds => fun ρ => match nmAll is ds ρ with
  | none => .st
  | some ρ' => .ok (.nx, ρ')
theorem nmAll_stp {K : PySem.W.Frag} {F H : Hp} : ∀ {is : List Nat} {ds : List PyData} {vs : List V} {ρ ρ' : Ev} {σ : St}, Rel K ρ σ F H → DqAll F vs ds → nmAll is ds ρ = some ρ' → Stp K ρ σ F H ρ' ((is.zip vs).foldl (fun σ p => σ.set p.1 (some p.2)) σ) F H ∧ is.length = vs.length
  | [], _, _, ρ, ρ', σ, R, dq, e => by
    cases dq with
    | nil => cases e; exact ⟨Stp.refl R, rfl⟩
    | cons _ _ => cases e
  | i :: is, _, _, ρ, ρ', σ, R, dq, e => by
    cases dq with
    | nil => cases e
    | @cons v vs d ds d1 d2 =>
      obtain ⟨ρ1, e1, e2⟩ := Option.bind_eq_some_iff.mp (show (hName i d ρ).bind (nmAll is ds) = some ρ' from e)
      have S1 := hName_stp R d1 e1
      obtain ⟨S2, hl⟩ := nmAll_stp S1.rel d2 e2
      exact ⟨S1.trans S2, by simp [hl]⟩
theorem par_end {K : PySem.W.Frag} {mg : Str → Option Value} {is : List Nat} {ds : List PyData} {vs : List V} {ρ ρ1 : Ev} {σ : St} {F H F1 H1 : Hp} {P : Fl → Ev → Prop} (S1 : Stp K ρ σ F H ρ1 σ F1 H1) (dq : DqAll F1 vs ds) (q : Out mg E ρ1 σ H1 ((fun ρ => match nmAll is ds ρ with
    | none => .st
    | some ρ' => .ok (.nx, ρ') : Dn Fl) ρ1) P) : ∃ ρ2, P .nx ρ2 ∧ Stp K ρ σ F H ρ2 ((is.zip vs).foldl (fun σ p => σ.set p.1 (some p.2)) σ) F1 H1 ∧ is.length = vs.length := by
  cases e : nmAll is ds ρ1 with
  | none => simp only [e] at q; exact (show False from q).elim
  | some ρ2 =>
    simp only [e] at q
    obtain ⟨S2, hl⟩ := nmAll_stp S1.rel dq e
    exact ⟨ρ2, q, S1.trans S2, hl⟩
theorem gs_par (i j : Nat) {x y : Str} {a b : Expr} {f : Dn (List PyData)} {px py pt pt2 : Pos} {kt k2 : Nat} (hc : X.calm = true) (nd : X.N.Nodup) (hi : X.N[i]? = some x) (hj : X.N[j]? = some y) (ij : i ≠ j) (hx : List.lookup x X.env.scope.names = some .local) (hy : List.lookup y X.env.scope.names = some .local)
    (ha : PA X [a, b] (tDs X.K X.mg E f)) (hs : swappedStores [.Tuple [.Name x px, .Name y py] kt pt] (.Tuple [a, b] k2 pt2) X.env = pure (some [x, y])) (hw : swapsWithSole [.Tuple [.Name x px, .Name y py] kt pt] (.Tuple [a, b] k2 pt2) pos.line X.env = pure false := by rfl) :
    PS X (.Assign [.Tuple [.Name x px, .Name y py] kt pt] (.Tuple [a, b] k2 pt2) pos) (tS X.K X.mg E (sPar [i, j] f)) :=
  ps_wk (ps_par hc nd hi hj ij hx hy ha hs hw) fun D σ H ⟨ρ, F, R, q⟩ => ⟨ρ, F, R, (out_bnd (K := X.K) (F := F) q).mono fun ds ρ1 k vs F1 H1 S1 dq => by
    obtain ⟨ρ2, q2, S2, hl⟩ := par_end S1 dq (k _ _ _ S1)
    match vs, hl with
    | [v, w], _ => exact ⟨v, w, rfl, q2 _ F1 H1 S2⟩⟩
end
end Gx

/-! G9: bits, least and greatest, sums. -/
namespace Gx
open PySem PySem.Spec L2
open PyProof.Rows hiding St

section
variable {X : Cx} {E : XK} {pos : Pos}
def i2D (cb : Int → Int → Bool) (v : Int → Int → Int) (d e : PyData) : Option Rv := match d, e with
  | .int i, .int j => if cb i j then fI (v i j) else none
  | _, _ => none
def shlD := i2D (fun i j => decide (0 ≤ j) && (decide (j ≤ 1000000) && decide (i.natAbs < 2 ^ 64))) fun i j => i * 2 ^ j.toNat
def shrD := i2D (fun _ j => decide (0 ≤ j)) fun i j => i / 2 ^ j.toNat
def bandD := i2D (fun _ _ => true) Builtin.bitAnd
def borD := i2D (fun _ _ => true) Builtin.bitOr
def intsD : List PyData → Option (List Int)
  | [] => some []
  | .int i :: ds => (intsD ds).map (i :: ·)
  | _ :: _ => none
theorem dqs_intsD {F : Hp} : ∀ {vs : List V} {ds : List PyData} {ns : List Int}, DqAll F vs ds → intsD ds = some ns → vs = ns.map V.int
  | [], _, bs, h, e => by cases h; cases e; rfl
  | v :: vs, _, bs, h, e => by
    cases h with
    | cons h1 h2 =>
      cases h1 with
      | int i =>
        obtain ⟨cs, e1, e2⟩ := Option.map_eq_some_iff.mp (show (intsD _).map (i :: ·) = some bs from e)
        subst e2
        rw [dqs_intsD h2 e1]
        rfl
      | _ => cases e
def leastL : List Int → Option Int
  | [] => none
  | [n] => some n
  | n :: ns => (leastL ns).map fun m => if m < n then m else n
theorem leastL_ok : ∀ {ns : List Int} {m : Int}, leastL ns = some m → m ∈ ns ∧ ∀ y ∈ ns, m ≤ y
  | [], _, h => by cases h
  | [n], m, h => by cases h; simp
  | n :: k :: ns, m, h => by
    obtain ⟨l, h1, h2⟩ := Option.map_eq_some_iff.mp (show (leastL (k :: ns)).map (fun m => if m < n then m else n) = some m from h)
    obtain ⟨i1, i2⟩ := leastL_ok h1
    by_cases c : l < n
    · rw [if_pos c] at h2
      subst h2
      refine ⟨List.mem_cons_of_mem _ i1, fun y hy => ?_⟩
      rcases List.mem_cons.mp hy with rfl | hy
      · omega
      · exact i2 y hy
    · rw [if_neg c] at h2
      subst h2
      refine ⟨List.mem_cons_self, fun y hy => ?_⟩
      rcases List.mem_cons.mp hy with rfl | hy
      · omega
      · have := i2 y hy; omega
def minD : List PyData → Option Rv
  | [.int i, .int j] => fI (if j < i then j else i)
  | [.list xs] => ((intsD xs).bind leastL).bind fI
  | _ => none
theorem call_minD (hc : X.calm = true) : CallD X (.builtin "min") minD := callR_wk ((call_min2 hc).or (cr_min hc)) fun xs H Q h => by
  obtain ⟨F, ds, r, s, h1, hr, q⟩ := h
  cases h1 with
  | nil => cases hr
  | cons h1 h2 =>
    cases h2 with
    | nil =>
      cases h1 with
      | @lst a vs xs ha hx =>
        obtain ⟨m, e1, e2⟩ := Option.bind_eq_some_iff.mp (show ((intsD xs).bind leastL).bind fI = some r from hr)
        obtain ⟨ns, e3, e4⟩ := Option.bind_eq_some_iff.mp e1
        cases e2
        have e := dqs_intsD hx e3
        subst e
        obtain ⟨m1, m2⟩ := leastL_ok e4
        refine .inr ⟨a, ns, rfl, .of (s _ _ ha), List.length_pos_of_mem m1, fun k k1 k2 => ?_⟩
        have : k = m := by have := k2 m m1; have := m2 k k1; omega
        subst this
        exact q _ F H (Grow.refl s) (.int _)
      | _ => cases hr
    | cons h3 h4 =>
      cases h4 with
      | cons _ _ => cases h1 <;> cases h3 <;> cases hr
      | nil =>
        cases h1 with
        | int i =>
          cases h3 with
          | int j => cases hr; exact .inl ⟨i, j, rfl, q _ F H (Grow.refl s) (.int _)⟩
          | _ => cases hr
        | _ => cases h3 <;> cases hr
def maxD : List PyData → Option Rv
  | [.int i, .int j] => fI (if j > i then j else i)
  | _ => none
def sumD : List PyData → Option Rv
  | [.list xs] => (intsD xs).bind fun ns => fI ns.sum
  | _ => none
def bitsD : PyData → Option PyData
  | .int i => some (.int (Builtin.Int.intBits i))
  | _ => none
end
end Gx

/-! X8: raise. -/
namespace Gx
open PySem PySem.Spec L2
open PyProof.Rows hiding St

section
variable {X : Cx} {E : XK} {pos p : Pos} {C fI : Addr} {x : Str} {B newId initId : String} {bmB : List Value} {k : Nat} {fd : FuncData} {ps : List Str} {sp : Sp}
def tMkR (C : Addr) (sp : Sp) (ta : TA) : St → Hp → XK → Prop := fun σ H Q => ta σ H fun vs H1 => vs.length ≤ 1000 ∧ ∀ a : Addr, H1 a = none → sp (V.ref a :: vs) (upd H1 a (exo a C none))
  (fun v H2 => v = .non ∧ ∃ d fs, H2 a = some (exo a C (some d)) ∧ H2 d = some (exd d fs) ∧ H1 d = none ∧ Q (.ref C) (some d) (upd (L2.del H2 a) d (.xd fs))) fun _ _ _ => False
def raiD (x : Str) : PyData → Dn Fl
  | .int n => fun _ => if okN n then .ex ⟨x, some n⟩ else .st
  | _ => fun _ => .st
def sRaise (x : Str) (f : Dn PyData) : Dn Fl := bnd f (raiD x)
def sRaise0 (x : Str) : Dn Fl := fun _ => .ex ⟨x, none⟩
end
end Gx

/-! G10: in, not in. -/
namespace Gx
open PySem PySem.Spec L2
open PyProof.Rows hiding St

section
variable {X : Cx}
def inB (d e : PyData) : Option Bool := match e with
  | .list ds => if (cln d && clns ds) && (SeqAt.shaped d && SeqAt.shaped (.list ds)) then some (ds.any fun z => z.eqv d) else none
  | .tuple ds => match d with
    | .int i => (intsD ds).map fun ns => ns.any (· == i)
    | _ => none
  | _ => none
def inD (d e : PyData) : Option Rv := (inB d e).bind fB
def notInD (d e : PyData) : Option Rv := (inB d e).bind fun b => fB (!b)
theorem inV_ints (i : Int) : ∀ ns : List Int, inV (.int i) (ns.map V.int) = ns.any (· == i)
  | [] => rfl
  | n :: ns => by
    have ih := inV_ints i ns
    unfold inV at ih ⊢
    rw [List.map_cons, List.any_cons, List.any_cons, ih]
    have : eqV (.int n) (.int i) = (n == i) := by
      unfold eqV
      rfl
    rw [this]
theorem flat_ints : ∀ ns : List Int, (ns.map V.int).all flatV = true
  | [] => rfl
  | n :: ns => by
    rw [List.map_cons, List.all_cons, flat_ints ns]
    rfl
theorem in_end {K : PySem.W.Frag} {x y : V} {H F : Hp} {d e : PyData} {b : Bool} (s : Same F H) (h1 : Dq F x d) (h2 : Dq F y e) (hb : inB d e = some b) : (∃ ds, Dp K H x d ∧ Dp K H y (.list ds) ∧ SeqAt.shaped d = true ∧ SeqAt.shaped (.list ds) = true ∧ b = ds.any fun z => z.eqv d) ∨ ∃ p xs, y = .ref p ∧ (SqL K H p xs ∨ SqT K H p xs) ∧ flatV x = true ∧ xs.all flatV = true ∧ b = inV x xs := by
  cases h2 with
  | @lst a vs ds ha hx =>
    have hb' : (if (cln d && clns ds) && (SeqAt.shaped d && SeqAt.shaped (.list ds)) then some (ds.any fun z => z.eqv d) else none) = some b := hb
    by_cases c : ((cln d && clns ds) && (SeqAt.shaped d && SeqAt.shaped (.list ds))) = true
    · rw [if_pos c] at hb'
      cases hb'
      simp only [Bool.and_eq_true] at c
      exact .inl ⟨ds, dq_dp d x c.1.1 (dp_mono s d x h1), .lst (.of (s _ _ ha)) (dqs_dp ds vs c.1.2 (dps_mono s ds vs hx)), c.2.1, c.2.2, rfl⟩
    · rw [if_neg c] at hb'
      cases hb'
  | @tup a vs ds ha hx =>
    cases h1 with
    | int i =>
      obtain ⟨ns, e1, e2⟩ := Option.map_eq_some_iff.mp (show (intsD ds).map (fun ns => ns.any (· == i)) = some b from hb)
      have e := dqs_intsD hx e1
      subst e
      refine .inr ⟨a, _, rfl, .inr (.of (s _ _ ha)), rfl, flat_ints ns, ?_⟩
      rw [inV_ints]
      exact e2.symm
    | _ => cases hb
  | _ => cases hb
theorem op_inDD (hu : X.A.units + 65 < cLine) : OpD X (compareOp .In) inD := opR_wk ((op_inD hu).or op_in_seq) fun x y H Q h => by
  obtain ⟨F, d, e, r, s, h1, h2, hr, q⟩ := h
  obtain ⟨b, e1, e2⟩ := Option.bind_eq_some_iff.mp hr
  cases e2
  have k := q (.bl b) F H (Grow.refl s) (.bl b)
  rcases in_end (K := X.K) s h1 h2 e1 with ⟨ds, a1, a2, a3, a4, a5⟩ | ⟨p, xs, a1, a2, a3, a4, a5⟩
  · subst a5
    exact .inl ⟨d, ds, a1, a2, a3, a4, k⟩
  · subst a5
    exact .inr ⟨p, xs, a1, a2, a3, a4, k⟩
theorem op_notInDD (hu : X.A.units + 65 < cLine) : OpD X (compareOp .NotIn) notInD := opR_wk ((op_notInD hu).or op_notIn_seq) fun x y H Q h => by
  obtain ⟨F, d, e, r, s, h1, h2, hr, q⟩ := h
  obtain ⟨b, e1, e2⟩ := Option.bind_eq_some_iff.mp hr
  cases e2
  have k := q (.bl (!b)) F H (Grow.refl s) (.bl _)
  rcases in_end (K := X.K) s h1 h2 e1 with ⟨ds, a1, a2, a3, a4, a5⟩ | ⟨p, xs, a1, a2, a3, a4, a5⟩
  · subst a5
    exact .inl ⟨d, ds, a1, a2, a3, a4, k⟩
  · subst a5
    exact .inr ⟨p, xs, a1, a2, a3, a4, k⟩
end
end Gx

/-! G11: ranges as lists and tuples; what is never reached. -/
namespace Gx
open PySem PySem.Spec L2
open PyProof.Rows hiding St

theorem room_u1 {k : Nat} {A : Around} (h : Room k A) : A.units + 65 < cLine := by
  have := h.un
  omega
section
variable {X : Cx} {E : XK} {pos : Pos}
def sNever : Dn Fl := fun _ => .st
theorem dqs_rg {F : Hp} (a b : Int) : DqAll F (rgV a b) (rgD a (b - a).toNat) := by
  unfold rgV rgD
  generalize List.range (b - a).toNat = l
  induction l with
  | nil => exact .nil
  | cons i l ih => exact .cons (.int _) ih
def rgOkB (a b : Int) : Bool := (small62 a && small62 b) && decide ((b - a).toNat ≤ 2 ^ 24)
theorem rgOkB_ok {a b : Int} (h : rgOkB a b = true) (ha : a < 2 ^ 62) : RgOk a b := by
  unfold rgOkB at h
  simp only [Bool.and_eq_true, decide_eq_true_eq] at h
  obtain ⟨⟨h1, h2⟩, h3⟩ := h
  have := small62_ok h1
  have := small62_ok h2
  exact ⟨by omega, by omega, by omega, by omega, h3⟩
theorem small62_lt {i : Int} (h : small62 i = true) : i < 2 ^ 62 := by
  unfold small62 at h
  rw [Bool.and_eq_true, decide_eq_true_eq, decide_eq_true_eq] at h
  omega
theorem rgOkB_lt {a b : Int} (h : rgOkB a b = true) : a < 2 ^ 62 := by
  unfold rgOkB at h
  simp only [Bool.and_eq_true] at h
  exact small62_lt h.1.1
def rgX (t : Bool) (i j : Int) : Option Rv := if rgOkB i j then some (if t then .fz (.tuple (rgD i (j - i).toNat)) else .ol (rgD i (j - i).toNat)) else none
def rg1X (t : Bool) (d : PyData) : Option Rv := match d with
  | .int j => rgX t 0 j
  | _ => none
def rg2X (t : Bool) (d e : PyData) : Option Rv := match d, e with
  | .int i, .int j => rgX t i j
  | _, _ => none
def dR1 (g : PyData → Option Rv) (f : Dn PyData) : Dn Rv := bnd f fun d => lft (g d)
theorem rg_lst {K : PySem.W.Frag} {ρ ρ1 : Ev} {σ : St} {F H F1 H1 : Hp} {Q : VK} {i j : Int} {r : Rv} (S1 : Stp K ρ σ F H ρ1 σ F1 H1) (hr : rgX false i j = some r) (q : ∀ v F' H', Stp K ρ σ F H ρ1 σ F' H' → ROk ρ σ H ρ1 σ F' H' r v → Q v H') : RgOk i j ∧ ∀ a : Addr, H1 a = none → Q (.ref a) (upd H1 a (.lst (rgV i j))) := by
  unfold rgX at hr
  by_cases c : rgOkB i j = true
  · rw [if_pos c] at hr
    cases hr
    refine ⟨rgOkB_ok c (rgOkB_lt c), fun a na => ?_⟩
    have gr := Grow.own (o := .lst (rgV i j)) S1.rel.sub na
    have nk : NOk H1 F1 (upd H1 a (.lst (rgV i j))) (.ol (rgD i (j - i).toNat)) (.ref a) := ⟨a, _, rfl, na, upd_same, S1.rel.sub.free na, _, rfl, dqs_rg i j⟩
    exact q _ F1 _ (S1.trans (gr.stp S1.rel)) ((nk.rok S1.rel).before S1)
  · rw [if_neg c] at hr
    cases hr
theorem g_lstRg1 {a : Expr} {p p2 pos2 : Pos} {f : Dn PyData} (hc : X.calm = true) (hg : Gl X "list") (hm : X.mg "list" = none) (hg2 : Gl X "range") (hm2 : X.mg "range" = none) (ha : PE X a (tD X.K X.mg E f)) (hs2 : starEach [a] X.env = (false, eval a X.env) :: starEach [] X.env := by rfl)
    (hs : starEach [.Call (.Name "range" p2) [a] [] pos2] X.env = (false, eval (.Call (.Name "range" p2) [a] [] pos2) X.env) :: starEach [] X.env := by rfl) :
    PE X (.Call (.Name "list" p) [.Call (.Name "range" p2) [a] [] pos2] [] pos) (tE X.K X.mg E (dR1 (rg1X false) f)) :=
  pe_wk (pe_listRg hc hg hm (prg_1 hg2 hm2 ha hs2) hs) fun σ H Q ⟨ρ, F, R, q⟩ => ⟨ρ, F, R, (out_bnd (K := X.K) (F := F) q).mono fun d ρ1 k v F1 H1 S1 d1 => by
    obtain ⟨r, hr, q2⟩ := out_lft (k _ _ _ S1)
    cases d1 with
    | int j => exact ⟨j, rfl, rg_lst S1 hr q2⟩
    | _ => cases hr⟩
end
end Gx

/-! ST: sorted, of tuples of numbers, the empty one among them. -/
namespace Gx
open PySem PySem.Spec L2
open PyProof.Rows (IsTup IntsAre keyKind' keyLt' oneLt' firstOfTuple' oneTypeOnly' SortKind)
def TI (h : Heap) (v : Value) (ns : List Int) : Prop := ∃ a items, v = .ref a ∧ IsTup h a items ∧ IntsAre items.toList ns
section
variable {prog : Program} {w : World} {A : Around} {E : Value → Shared → Prop} {s : Shared}
theorem ti_type {h : Heap} {v : Value} {ns : List Int} (t : TI h v ns) : PySem.W.Looks (model prog w) h (typeOf v) (.type "tuple") := by
  obtain ⟨a, items, rfl, ⟨o, ho, hc, n, hd⟩, hi⟩ := t
  intro A Q E s k q
  obtain ⟨hp, g, d, tk, os⟩ := s
  unfold typeOf
  refine wpAny_bind (wpAny_loadPart_at (k _ _ ho) (wpAny_pure ?_))
  rw [hc]
  exact q
theorem ti_is {v : Value} {ns : List Int} (t : TI s.heap v ns) : s.TypeIs v "tuple" := by
  obtain ⟨a, items, rfl, ⟨o, ho, hc, n, hd⟩, hi⟩ := t
  exact ⟨o, ho, hc⟩
theorem rc_lt {v u : Value} {ns ms : List Int} {Q : Value → Shared → Prop} (t1 : TI s.heap v ns) (t2 : TI s.heap u ms) (hu : A.units < cLine) (q : Q (.bool (HT.lexLt ns ms)) s) : wpAny (model prog w) A (richCompare .Lt v u) Q E s := by
  obtain ⟨a, i1, rfl, h1, g1⟩ := t1
  obtain ⟨b, i2, rfl, h2, g2⟩ := t2
  exact HT.lt_tupInts h1 h2 g1 g2 hu q
theorem drop_bool {b : Bool} {Q : Bool → Shared → Prop} (q : Q b s) : wpAny (model prog w) A (truthOfDropped (.bool b)) Q E s := by
  show wpAny _ _ (truthy (.bool b)) _ _ _
  exact wpAny_pure q
theorem one_ltF {v u : Value} {ns ms : List Int} {Q : Bool → Shared → Prop} (t1 : TI s.heap v ns) (t2 : TI s.heap u ms) (hu : A.units < cLine) (q : Q (HT.lexLt ns ms) s) : wpAny (model prog w) A (oneLt' false v u) Q E s := by
  rw [PyProof.Rows.oneLt'_eq]
  refine wpAny_ite_false rfl ?_
  exact wpAny_bind (rc_lt t1 t2 hu (drop_bool q))
theorem one_ltT {v u : Value} {ns ms : List Int} {Q : Bool → Shared → Prop} (t1 : TI s.heap v ns) (t2 : TI s.heap u ms) (hu : A.units < cLine) (q : Q (HT.lexLt ns ms) s) : wpAny (model prog w) A (oneLt' true v u) Q E s := by
  have ty := ti_is t1
  obtain ⟨a, i1, rfl, ⟨⟨c1, dd, d1, sl⟩, ho, hc, n, hd⟩, g1⟩ := t1
  obtain ⟨b, i2, rfl, ⟨⟨c2, dd2, d2, sl2⟩, ho2, hc2, n2, hd2⟩, g2⟩ := t2
  cases hc
  cases hd
  cases hc2
  cases hd2
  rw [PyProof.Rows.oneLt'_eq]
  refine wpAny_ite_true rfl (wpAny_bind (wpAny_cRoomFor hu (wpAny_bind (wpAny_callSpecialIfBound?_slot ty F.slot_tuple_lt ?_))))
  exact call_meets F.slot_tuple_lt ty F.entry_tuple_lt (F.args_tuple_lt_2 (Value.ref a) (Value.ref b)) (HT.tuple_lt_ints a b i1 i2 n n2 dd dd2 sl sl2 ns ms g1 g2) ⟨ho, ho2, drop_bool q⟩
theorem first_of {h : Heap} {v : Value} {ns : List Int} (t : TI h v ns) : ∃ o : Option Value, PySem.W.Looks (model prog w) h (firstOfTuple' v) o ∧ (o.isSome = !ns.isEmpty) := by
  have ty := ti_type (prog := prog) (w := w) t
  obtain ⟨a, items, rfl, ⟨o, ho, hc, n, hd⟩, hi⟩ := t
  refine ⟨items[0]?, ?_, ?_⟩
  · show PySem.W.Looks (model prog w) h (do
      let t ← typeOf (Value.ref a)
      if (t != Value.type "tuple") = true then pure none
        else do
          let xs ← Builtin.List.listItems (Value.ref a)
          pure xs[0]?) _
    refine ty.andThen ?_
    show PySem.W.Looks (model prog w) h (do
          let xs ← Builtin.List.listItems (Value.ref a)
          pure xs[0]?) _
    refine PySem.W.Looks.andThen (a := items) ?_ PySem.W.Looks.now
    intro A Q E s k q
    unfold Builtin.List.listItems
    exact wpAny_bind (wpAny_seqItems (k _ _ ho) hd (wpAny_pure q))
  · cases items with
    | mk l =>
      cases hi with
      | nil => rfl
      | cons _ _ => rfl
theorem mapM_looks {α β : Type} {M : Model} {h : Heap} {f : α → Sem β} {P : α → β → Prop} : ∀ (l : List α), (∀ x ∈ l, ∃ y, PySem.W.Looks M h (f x) y ∧ P x y) → ∃ ys : List β, PySem.W.Looks M h (List.mapM f l) ys ∧ PySem.Paired P l ys
  | [], _ => ⟨[], by rw [List.mapM_nil]; exact PySem.W.Looks.now, .nil⟩
  | x :: l, hx => by
    obtain ⟨y, h1, h2⟩ := hx x (by simp)
    obtain ⟨ys, h3, h4⟩ := mapM_looks l fun z hz => hx z (by simp [hz])
    refine ⟨y :: ys, ?_, .cons h2 h4⟩
    rw [List.mapM_cons]
    exact h1.andThen (h3.andThen PySem.W.Looks.now)
theorem paired_at {α β : Type} {P : α → β → Prop} : ∀ {l : List α} {ys : List β} {x : α}, PySem.Paired P l ys → x ∈ l → ∃ y ∈ ys, P x y
  | _, _, x, .nil, h => by cases h
  | _, _, x, .cons h1 h2, h => by
    rcases List.mem_cons.mp h with rfl | h
    · exact ⟨_, by simp, h1⟩
    · obtain ⟨y, a, b⟩ := paired_at h2 h
      exact ⟨y, by simp [a], b⟩
theorem looks_arr {α β : Type} {M : Model} {h : Heap} {f : α → Sem β} {l : List α} {ys : List β} (hl : PySem.W.Looks M h (List.mapM f l) ys) : PySem.W.Looks M h (Array.mapM f l.toArray) ys.toArray := by
  rw [List.mapM_toArray]
  show PySem.W.Looks M h (List.toArray <$> List.mapM f l) _
  rw [← bind_pure_comp]
  exact hl.andThen PySem.W.Looks.now
theorem one_type {h : Heap} {vs : List Value} {k : Value → List Int} (hk : ∀ v ∈ vs, TI h v (k v)) (hn : vs ≠ []) : ∃ t, PySem.W.Looks (model prog w) h (oneTypeOnly' vs.toArray) (some t) := by
  obtain ⟨ts, l1, p1⟩ := mapM_looks (M := model prog w) (h := h) (f := typeOf) (P := fun _ t => t = Value.type "tuple") vs fun v hv => ⟨_, ti_type (hk v hv), rfl⟩
  have all : ∀ t ∈ ts, t = Value.type "tuple" := by
    clear l1 hk hn
    induction p1 with
    | nil => simp
    | cons h1 _ ih =>
      intro t ht
      rcases List.mem_cons.mp ht with rfl | ht
      · exact h1
      · exact ih t ht
  cases ts with
  | nil =>
    cases p1
    exact absurd rfl hn
  | cons t ts =>
    refine ⟨t, ?_⟩
    rw [PyProof.Rows.oneTypeOnly'_eq]
    refine (looks_arr l1).andThen ?_
    have : ((t :: ts).toArray.all fun x => x == t) = true := by
      rw [List.all_toArray, List.all_eq_true]
      intro x hx
      rw [all x hx, all t (by simp)]
      rfl
    show PySem.W.Looks _ h (pure (if ((t :: ts).toArray.all fun x => x == t) = true then some t else none)) _
    rw [if_pos this]
    exact PySem.W.Looks.now
theorem key_kind {h : Heap} {vs : List Value} {k : Value → List Int} (hk : ∀ v ∈ vs, TI h v (k v)) (h0 : ∃ v ∈ vs, k v = []) : ∃ b : Bool, PySem.W.Looks (model prog w) h (keyKind' vs.toArray) (if b then PyProof.Rows.oneType' else PyProof.Rows.general') := by
  obtain ⟨os, l1, p1⟩ := mapM_looks (M := model prog w) (h := h) (f := firstOfTuple') (P := fun v o => o.isSome = !(k v).isEmpty) vs fun v hv => by
    obtain ⟨o, a, b⟩ := first_of (prog := prog) (w := w) (hk v hv)
    exact ⟨o, a, b⟩
  obtain ⟨v0, hv0, e0⟩ := h0
  have hall : ¬ (os.toArray.all fun x => x.isSome) = true := by
    obtain ⟨o, ho, hp⟩ := paired_at p1 hv0
    rw [List.all_toArray, List.all_eq_true]
    intro z
    have := z o ho
    rw [hp, e0] at this
    cases this
  by_cases hf : (os.toArray[0]?.bind id).isSome = true
  · refine ⟨false, ?_⟩
    rw [PyProof.Rows.keyKind'_eq]
    refine (looks_arr l1).andThen ?_
    rw [if_neg hall, if_pos hf]
    exact PySem.W.Looks.now
  · refine ⟨true, ?_⟩
    obtain ⟨t, ht⟩ := one_type (prog := prog) (w := w) hk (by intro z; rw [z] at hv0; cases hv0)
    rw [PyProof.Rows.keyKind'_eq]
    refine (looks_arr l1).andThen ?_
    rw [if_neg hall, if_neg hf]
    exact ht.andThen PySem.W.Looks.now
theorem lex_asym : ∀ x y : List Int, HT.lexLt x y = true → HT.lexLt y x = false
  | [], [], h => by rw [HT.lexLt.eq_1] at h; cases h
  | [], b :: y, _ => HT.lexLt.eq_3 b y
  | a :: x, [], h => by rw [HT.lexLt.eq_3] at h; cases h
  | a :: x, b :: y, h => by
    rw [HT.lexLt.eq_4] at h ⊢
    by_cases e : a = b
    · subst e
      rw [if_pos rfl] at h ⊢
      exact lex_asym x y h
    · rw [if_neg e] at h
      rw [if_neg (Ne.symm e)]
      have := of_decide_eq_true h
      exact decide_eq_false (by omega)
theorem lex_tr : ∀ x y z : List Int, HT.lexLt y x = false → HT.lexLt z y = false → HT.lexLt z x = false
  | [], _, [], _, _ => HT.lexLt.eq_1
  | [], _, c :: z, _, _ => HT.lexLt.eq_3 c z
  | a :: x, [], _, h, _ => by rw [HT.lexLt.eq_2] at h; cases h
  | a :: x, b :: y, [], _, h => by rw [HT.lexLt.eq_2] at h; cases h
  | a :: x, b :: y, c :: z, h1, h2 => by
    rw [HT.lexLt.eq_4] at h1 h2 ⊢
    by_cases e1 : b = a
    · subst e1
      rw [if_pos rfl] at h1
      by_cases e2 : c = b
      · subst e2
        rw [if_pos rfl] at h2 ⊢
        exact lex_tr x y z h1 h2
      · rw [if_neg e2] at h2 ⊢
        exact h2
    · rw [if_neg e1] at h1
      have q1 := of_decide_eq_false h1
      by_cases e2 : c = b
      · subst e2
        rw [if_neg e1]
        exact h1
      · rw [if_neg e2] at h2
        have q2 := of_decide_eq_false h2
        by_cases e3 : c = a
        · omega
        · rw [if_neg e3]
          exact decide_eq_false (by omega)
theorem lex_swo (k : Value → List Int) : SrtO.Swo fun v u => HT.lexLt (k v) (k u) := ⟨fun x y => lex_asym _ _, fun x y z => lex_tr _ _ _⟩
theorem ti_keep {h h' : Heap} {a : Addr} {v : Value} {ns : List Int} (t : TI h v ns) (ha : ∀ o, h.get? a = some o → o.cls ≠ Value.type "tuple") (k : ∀ b o, b ≠ a → h.get? b = some o → h'.get? b = some o) : TI h' v ns := by
  obtain ⟨b, items, rfl, ⟨o, ho, hc, r⟩, hi⟩ := t
  exact ⟨b, items, rfl, ⟨o, k b o (fun z => by subst z; exact ha o ho hc) ho, hc, r⟩, hi⟩
theorem tups_sortable {a : Addr} {vs : List Value} {k : Value → List Int} (hu : A.units < cLine) (hk : ∀ v ∈ vs, TI s.heap v (k v)) (h0 : ∃ v ∈ vs, k v = []) (ha : ∀ o, s.heap.get? a = some o → o.cls ≠ Value.type "tuple") : SrtO.SortableO prog w A s a vs fun v u => HT.lexLt (k v) (k u) := by
  intro h' kp
  have hk' : ∀ v ∈ vs, TI h' v (k v) := fun v hv => ti_keep (hk v hv) ha kp
  obtain ⟨b, hb⟩ := key_kind (prog := prog) (w := w) hk' h0
  refine ⟨if b then PyProof.Rows.oneType' else PyProof.Rows.general', fun Q E q => hb.at q, fun p q hp hq => ?_⟩
  cases b with
  | true =>
    show wpAny _ _ (keyLt' PyProof.Rows.oneType' p.fst q.fst) _ _ _
    rw [PyProof.Rows.keyLt'_oneType]
    exact one_ltT (hk' _ hp) (hk' _ hq) hu ⟨rfl, rfl⟩
  | false =>
    show wpAny _ _ (oneLt' false p.fst q.fst) _ _ _
    exact one_ltF (hk' _ hp) (hk' _ hq) hu ⟨rfl, rfl⟩
end
end Gx

/-! ST2: sorted of lots, as a rule. -/
namespace Gx
open PySem PySem.Spec L2
open PyProof.Rows (IsTup IntsAre)
theorem ints_of : ∀ {ns : List Int} {us : List Value}, Vals (ns.map V.int) us → IntsAre us ns
  | [], _, h => by cases h; exact .nil
  | n :: ns, _, h => by
    cases h with
    | cons h1 h2 =>
      obtain ⟨t, rfl⟩ := h1
      exact .cons n t (ints_of h2)
def rLots (K : PySem.W.Frag) : List V → Hp → VK → Prop := fun vs H Q => ∃ (a : Addr) (xs : List V) (k : V → List Int), vs = [.ref a] ∧ SqL K H a xs ∧ (∀ x ∈ xs, ∃ t, x = .ref t ∧ SqT K H t ((k x).map V.int)) ∧ (∃ x ∈ xs, k x = []) ∧
  ∀ (ys : List V) (p : Addr), ys.Perm xs → ys.Pairwise (fun x y => HT.lexLt (k y) (k x) = false) → H p = none → Q (.ref p) (upd H p (.lst ys))
end Gx

/-! ST3: sorted of lots, over data. -/
namespace Gx
open PySem PySem.Spec L2

def lotD : PyData → Option (List Int)
  | .tuple ds => intsD ds
  | _ => none
def lotsD : List PyData → Option (List (List Int))
  | [] => some []
  | d :: ds => (lotD d).bind fun ns => (lotsD ds).map (ns :: ·)
def tupI (ns : List Int) : PyData := .tuple (ns.map .int)
theorem intsD_eq : ∀ {ds : List PyData} {ns : List Int}, intsD ds = some ns → ds = ns.map .int
  | [], _, h => by cases h; rfl
  | .int i :: ds, ns, h => by
    obtain ⟨ms, h1, h2⟩ := Option.map_eq_some_iff.mp (show (intsD ds).map (i :: ·) = some ns from h)
    subst h2
    rw [intsD_eq h1]
    rfl
  | .none :: _, _, h => by cases h
  | .bool _ :: _, _, h => by cases h
  | .str _ :: _, _, h => by cases h
  | .list _ :: _, _, h => by cases h
  | .tuple _ :: _, _, h => by cases h
  | .dict _ :: _, _, h => by cases h
theorem lotD_eq {d : PyData} {ns : List Int} (h : lotD d = some ns) : d = tupI ns := by
  cases d with
  | tuple ds => rw [intsD_eq (show intsD ds = some ns from h)]; rfl
  | _ => cases h
def kF (F : Hp) : V → List Int
  | .ref t => match F t with
    | some (.tup vs) => vs.filterMap fun v => match v with
      | .int i => some i
      | _ => none
    | _ => []
  | _ => []
theorem kF_ints (ns : List Int) : (ns.map V.int).filterMap (fun v => match v with
      | .int i => some i
      | _ => none) = ns := by
  induction ns with
  | nil => rfl
  | cons n ns ih => simp [ih]
theorem lot_at {F : Hp} {v : V} {ns : List Int} (h : Dq F v (tupI ns)) : ∃ t, v = .ref t ∧ F t = some (.tup (ns.map V.int)) ∧ kF F v = ns := by
  cases h with
  | @tup a vs _ ha hx =>
    have e : intsD (ns.map PyData.int) = some ns := by
      clear ha hx
      induction ns with
      | nil => rfl
      | cons n ns ih =>
        show (intsD (ns.map PyData.int)).map (n :: ·) = _
        rw [ih]
        rfl
    have e2 := dqs_intsD hx e
    subst e2
    refine ⟨a, rfl, ha, ?_⟩
    unfold kF
    simp only [ha]
    exact kF_ints ns
theorem lots_at {F : Hp} : ∀ {vs : List V} {ds : List PyData} {nss : List (List Int)}, DqAll F vs ds → lotsD ds = some nss → ds = nss.map tupI ∧ vs.map (kF F) = nss ∧ ∀ v ∈ vs, ∃ t, v = .ref t ∧ F t = some (.tup ((kF F v).map V.int))
  | [], _, nss, h, e => by cases h; cases e; exact ⟨rfl, rfl, fun v hv => by cases hv⟩
  | v :: vs, _, nss, h, e => by
    cases h with
    | @cons _ _ d ds h1 h2 =>
      obtain ⟨ns, e1, e2⟩ := Option.bind_eq_some_iff.mp (show (lotD d).bind (fun ns => (lotsD ds).map (ns :: ·)) = some nss from e)
      obtain ⟨ms, e3, e4⟩ := Option.map_eq_some_iff.mp e2
      subst e4
      have hd := lotD_eq e1
      subst hd
      obtain ⟨t, a1, a2, a3⟩ := lot_at h1
      obtain ⟨b1, b2, b3⟩ := lots_at h2 e3
      subst b1
      refine ⟨rfl, by rw [List.map_cons, a3, b2], fun u hu => ?_⟩
      rcases List.mem_cons.mp hu with rfl | hu
      · exact ⟨t, a1, by rw [a3]; exact a2⟩
      · exact b3 u hu
theorem dqs_lots {F : Hp} : ∀ (vs : List V), (∀ v ∈ vs, ∃ t, v = .ref t ∧ F t = some (.tup ((kF F v).map V.int))) → DqAll F vs ((vs.map (kF F)).map tupI)
  | [], _ => .nil
  | v :: vs, h => by
    obtain ⟨t, e, ht⟩ := h v (by simp)
    refine .cons ?_ (dqs_lots vs fun u hu => h u (by simp [hu]))
    have : Dq F (.ref t) (.tuple ((kF F v).map .int)) := .tup ht (by
      generalize kF F v = l
      induction l with
      | nil => exact .nil
      | cons n l ih => exact .cons (.int n) ih)
    rw [e] at this ⊢
    exact this
def lexSort (nss : List (List Int)) : List (List Int) := nss.mergeSort fun x y => !HT.lexLt y x
theorem lex_eq : ∀ x y : List Int, HT.lexLt x y = false → HT.lexLt y x = false → x = y
  | [], [], _, _ => rfl
  | [], b :: y, h, _ => by rw [HT.lexLt.eq_2] at h; cases h
  | a :: x, [], _, h => by rw [HT.lexLt.eq_2] at h; cases h
  | a :: x, b :: y, h1, h2 => by
    rw [HT.lexLt.eq_4] at h1 h2
    by_cases e : a = b
    · subst e
      rw [if_pos rfl] at h1 h2
      rw [lex_eq x y h1 h2]
    · rw [if_neg e] at h1
      rw [if_neg (Ne.symm e)] at h2
      have := of_decide_eq_false h1
      have := of_decide_eq_false h2
      omega
theorem srt_uniq : ∀ {l m : List (List Int)}, l.Perm m → l.Pairwise (fun x y => HT.lexLt y x = false) → m.Pairwise (fun x y => HT.lexLt y x = false) → l = m := fun {l m} p h1 h2 => p.eq_of_pairwise (fun a b _ _ x y => lex_eq a b y x) h1 h2
def sortLD : List PyData → Option Rv
  | [.list ds] => (lotsD ds).bind fun nss => if nss.any (·.isEmpty) then some (.ol ((lexSort nss).map tupI)) else none
  | _ => none
end Gx

/-! ST4: sorted of numbers, over data. -/
namespace Gx
open PySem PySem.Spec L2
def intSort (ns : List Int) : List Int := ns.mergeSort fun x y => decide (x ≤ y)
def sortID : List PyData → Option Rv
  | [.list ds] => (intsD ds).bind fun ns => if ns.length < 64 then some (.ol ((intSort ns).map .int)) else none
  | _ => none
end Gx

/-! G12: x, y = a, b with lists of one's own among them. -/
namespace Gx
open PySem PySem.Spec L2
open PyProof.Rows hiding St

def rvA : Ar → Option Rv
  | .fz d => some (.fz d)
  | .tq xs => some (.oo xs)
  | _ => none
def parA (i j : Nat) : List Ar → Dn Fl
  | [a, b] => fun ρ => match rvA a, rvA b with
    | some r, some t => if isBl ρ[i]? || isBl (ρ.set i r.en)[j]? then .st else .ok (.nx, (ρ.set i r.en).set j t.en)
    | _, _ => .st
  | _ => fun _ => .st
def sParA (i j : Nat) (f : Dn (List Ar)) : Dn Fl := bnd f (parA i j)
theorem rok_ar {K : PySem.W.Frag} {ρ ρ1 : Ev} {σ : St} {H F1 H1 : Hp} {as : List Ar} {vs : List V} {k : Nat} {a : Ar} {v : V} {r : Rv} (A : AOk K ρ σ H ρ1 F1 H1 as vs) (ha : as[k]? = some a) (hv : vs[k]? = some v) (hr : rvA a = some r) : ROk ρ σ H ρ1 σ F1 H1 r v := by
  cases a with
  | fz d =>
    cases hr
    obtain ⟨u, e, q⟩ := A.fz k d ha
    rw [hv] at e
    cases e
    exact q
  | tq xs =>
    cases hr
    obtain ⟨p, ws, e, q⟩ := A.tp k xs ha
    rw [hv] at e
    cases e
    exact ⟨p, ws, rfl, q⟩
  | _ => cases hr
theorem rok_put {ρ ρ1 : Ev} {σ : St} {H F1 H1 : Hp} {i : Nat} {r t : Rv} {v w : V} (rr : ROk ρ σ H ρ1 σ F1 H1 r v) (rt : ROk ρ σ H ρ1 σ F1 H1 t w) (ap : ∀ (xs ys : Cn) (p : Addr), r = .oo xs → t = .oo ys → v = .ref p → w = .ref p → False) (hl : i < σ.length) (hl2 : i < ρ1.length) : ROk ρ σ H (ρ1.set i r.en) (σ.set i (some v)) F1 H1 t w := by
  cases t with
  | fz d => exact rt
  | oo ys =>
    obtain ⟨p, ws, e, h1, h2, h3, h4, h5⟩ := rt
    refine ⟨p, ws, e, h1, h2, h3, h4, fun z => ?_⟩
    obtain ⟨j, hj, ej⟩ := own_ex z
    by_cases c : j = i
    · subst c
      rw [List.getElem?_set_self hl] at ej
      have ev : v = .ref p := by
        have := Option.some.inj ej
        exact Option.some.inj this
      cases r with
      | fz d =>
        rcases hj with ⟨xs, hj⟩ | ⟨xs, hj⟩ <;> (rw [List.getElem?_set_self hl2] at hj; cases hj)
      | oo xs => exact ap xs ys p rfl rfl ev e
    · rw [List.getElem?_set_ne (Ne.symm c)] at ej
      refine h5 (own_at ?_ ej)
      rcases hj with ⟨xs, hj⟩ | ⟨xs, hj⟩
      · rw [List.getElem?_set_ne (Ne.symm c)] at hj; exact .inl ⟨xs, hj⟩
      · rw [List.getElem?_set_ne (Ne.symm c)] at hj; exact .inr ⟨xs, hj⟩
section
variable {X : Cx} {E : XK} {pos : Pos}
theorem gs_parA (i j : Nat) {x y : Str} {a b : Expr} {f : Dn (List Ar)} {px py pt pt2 : Pos} {kt k2 : Nat} (hc : X.calm = true) (nd : X.N.Nodup) (hi : X.N[i]? = some x) (hj : X.N[j]? = some y) (ij : i ≠ j) (hx : List.lookup x X.env.scope.names = some .local) (hy : List.lookup y X.env.scope.names = some .local)
    (ha : PA X [a, b] (tAr X.K X.mg E f)) (hs : swappedStores [.Tuple [.Name x px, .Name y py] kt pt] (.Tuple [a, b] k2 pt2) X.env = pure (some [x, y])) (hw : swapsWithSole [.Tuple [.Name x px, .Name y py] kt pt] (.Tuple [a, b] k2 pt2) pos.line X.env = pure false := by rfl) :
    PS X (.Assign [.Tuple [.Name x px, .Name y py] kt pt] (.Tuple [a, b] k2 pt2) pos) (tS X.K X.mg E (sParA i j f)) :=
  ps_wk (ps_par hc nd hi hj ij hx hy ha hs hw) fun D σ H ⟨ρ, F, R, q⟩ => ⟨ρ, F, R, (out_bnd (K := X.K) (F := F) q).mono fun as ρ1 k vs F1 H1 S1 A => by
    have q2 := k _ _ _ S1
    have hlen := A.ln
    match as, hlen, q2, A with
    | [], _, q2, _ => exact (show False from q2).elim
    | [_], _, q2, _ => exact (show False from q2).elim
    | _ :: _ :: _ :: _, _, q2, _ => exact (show False from q2).elim
    | [a1, b1], hlen, q2, A =>
      match vs, hlen, A with
      | [v, w], _, A =>
        cases hr : rvA a1 with
        | none => unfold parA at q2; simp only [hr] at q2; exact (show False from q2).elim
        | some r =>
        cases ht : rvA b1 with
        | none => unfold parA at q2; simp only [hr, ht] at q2; exact (show False from q2).elim
        | some t =>
        unfold parA at q2
        simp only [hr, ht] at q2
        by_cases hp : (isBl ρ1[i]? || isBl (ρ1.set i r.en)[j]?) = true
        · rw [if_pos hp] at q2
          exact (show False from q2).elim
        · rw [if_neg hp] at q2
          simp only [Bool.or_eq_true, not_or, Bool.not_eq_true] at hp
          have rr := rok_ar A (k := 0) rfl rfl hr
          have rt := rok_ar A (k := 1) rfl rfl ht
          have hl := (isBl_f hp.1).2
          have hlσ : i < σ.length := by rw [← S1.rel.ln]; exact hl
          obtain ⟨_, S2⟩ := put_stp (P := fun _ _ => True) (E := E) (mg := X.mg) S1 rr (by unfold put; rw [hp.1]; trivial)
          have rt2 := rok_put rr rt (fun xs ys p e1 e2 e3 e4 => by
            subst e3
            subst e4
            have z1 : [a1, b1][0]? = some (.tq xs) := by
              cases a1 <;> simp [rvA] at hr <;> subst e1 <;> simp_all
            have z2 : [a1, b1][1]? = some (.tq ys) := by
              cases b1 <;> simp [rvA] at ht <;> subst e2 <;> simp_all
            exact absurd (A.ap 0 1 xs ys p z1 z2 rfl rfl) (by decide)) hlσ hl
          obtain ⟨_, S3⟩ := put_stp (P := fun _ _ => True) (E := E) (mg := X.mg) S2 rt2 (by unfold put; rw [hp.2]; trivial)
          exact ⟨v, w, rfl, q2 _ F1 H1 S3⟩⟩
theorem callD_or {f : Value} {g1 g2 : List PyData → Option Rv} (h1 : CallD X f g1) (h2 : CallD X f g2) : CallD X f fun ds => (g1 ds).or (g2 ds) := callR_wk (h1.or h2) fun xs H Q ⟨F, ds, r, s, d, hr, q⟩ => by
  cases e : g1 ds with
  | some r' =>
    simp only [e, Option.or] at hr
    cases hr
    exact .inl ⟨F, ds, _, s, d, e, q⟩
  | none =>
    simp only [e, Option.or] at hr
    exact .inr ⟨F, ds, r, s, d, hr, q⟩
def sortD (ds : List PyData) : Option Rv := (sortID ds).or (sortLD ds)
end
end Gx

/-! G13: calls by names alone. -/
namespace Gx
open PySem PySem.Spec L2
open PyProof.Rows hiding St

theorem pk_wk {X : Cx} {kws : List Keyword} {t t' : TA} (h : PK X kws t) (w : ∀ σ H Q, t' σ H Q → t σ H Q) : PK X kws t' := ⟨fun pos pins s σ H Q I q => h.run pos pins s σ H Q I (w σ H Q q)⟩
section
variable {X : Cx} {E : XK} {pos p : Pos}
theorem gk_nil : PK X [] (tDs X.K X.mg E dNil) := pk_wk pk_nil fun σ H Q ⟨ρ, F, R, q⟩ => out_ret q [] F H (Stp.refl R) .nil
theorem gk_cons {e : Expr} {kpos : Pos} {nm : Option Str} {kws : List Keyword} {f : Dn PyData} {g : Dn (List PyData)} (h1 : PE X e (tD X.K X.mg E f)) (h2 : PK X kws (tDs X.K X.mg E g)) : PK X (⟨nm, e, kpos⟩ :: kws) (tDs X.K X.mg E (dCons f g)) :=
  pk_wk (pk_cons h1 h2) fun σ H Q ⟨ρ, F, R, q⟩ => ⟨ρ, F, R, (out_bnd (K := X.K) (F := F) q).mono fun x ρ1 k v F1 H1 S1 d1 =>
    ⟨ρ1, F1, S1.rel, (out_bnd (K := X.K) (F := F1) (k _ _ _ S1)).mono fun ds ρ2 k2 vs F2 H2 S2 d2 => out_ret (k2 _ _ _ S2) _ F2 H2 (S1.trans S2) (.cons (dp_mono S2.ff x v d1) d2)⟩⟩
def prm {α : Type} (is : List Nat) (l : List α) : List α := is.filterMap fun i => l[i]?
theorem prm_dqs {F : Hp} {vs : List V} {ds : List PyData} (h : DqAll F vs ds) : ∀ is : List Nat, DqAll F (prm is vs) (prm is ds)
  | [] => .nil
  | i :: is => by
    have ih := prm_dqs h is
    unfold prm at ih ⊢
    cases e : ds[i]? with
    | none =>
      have e2 : vs[i]? = none := by
        rw [List.getElem?_eq_none_iff] at e ⊢
        rw [dps_len h]; exact e
      rw [List.filterMap_cons_none e2, List.filterMap_cons_none e]
      exact ih
    | some d =>
      obtain ⟨v, e2, dq⟩ := dps_get h e
      rw [List.filterMap_cons_some e2, List.filterMap_cons_some e]
      exact .cons dq ih
theorem prm_vals : ∀ {vs : List V} {us : List Value} (is : List Nat), Vals vs us → Vals (prm is vs) (prm is us)
  | vs, us, [], h => .nil
  | vs, us, i :: is, h => by
    have ih := prm_vals is h
    unfold prm at ih ⊢
    have key : ∀ {vs : List V} {us : List Value} (i : Nat), Vals vs us → (vs[i]? = none ∧ us[i]? = none) ∨ ∃ v u, vs[i]? = some v ∧ us[i]? = some u ∧ RelV v u := by
      intro vs us i h
      induction h generalizing i with
      | nil => exact .inl ⟨by simp, by simp⟩
      | @cons a b l1 l2 h1 h2 ih =>
        cases i with
        | zero => exact .inr ⟨a, b, rfl, rfl, h1⟩
        | succ i => simpa using ih i
    rcases key i h with ⟨e1, e2⟩ | ⟨v, u, e1, e2, r⟩
    · rw [List.filterMap_cons_none e1, List.filterMap_cons_none e2]
      exact ih
    · rw [List.filterMap_cons_some e1, List.filterMap_cons_some e2]
      exact .cons r ih
def dArP (is : List Nat) (f : Dn (List PyData)) : Dn (List Ar) := bnd f fun ds => ret ((prm is ds).map Ar.fz)
theorem aok_fz {K : PySem.W.Frag} {ρ ρ1 : Ev} {σ : St} {H F1 H1 : Hp} {vs : List V} {ds : List PyData} (h : DqAll F1 vs ds) : AOk K ρ σ H ρ1 F1 H1 (ds.map Ar.fz) vs := by
  have no : ∀ (k : Nat) (a : Ar), (ds.map Ar.fz)[k]? = some a → ∃ d, a = .fz d ∧ ds[k]? = some d := fun k a e => by
    rw [List.getElem?_map] at e
    obtain ⟨d, e1, e2⟩ := Option.map_eq_some_iff.mp e
    exact ⟨d, e2.symm, e1⟩
  refine ⟨by rw [List.length_map]; exact dps_len h, fun k d e => ?_, fun k i e => ?_, fun k xs e => ?_, fun k ns e => ?_, fun k l xs ys p e => ?_⟩
  · obtain ⟨d', e1, e2⟩ := no k _ e
    cases e1
    exact dps_get h e2
  · obtain ⟨d', e1, _⟩ := no k _ e; cases e1
  · obtain ⟨d', e1, _⟩ := no k _ e; cases e1
  · obtain ⟨d', e1, _⟩ := no k _ e; cases e1
  · obtain ⟨d', e1, _⟩ := no k _ e; cases e1
theorem ar_of_ds {K : PySem.W.Frag} {mg : Str → Option Value} {is : List Nat} {f : Dn (List PyData)} {σ : St} {H : Hp} {Q : List V → Hp → Prop} {n : Nat} (hn : ∀ ρ ds ρ', f ρ = .ok (ds, ρ') → ds.length = n) (h : tAr K mg E (dArP is f) σ H Q) : tDs K mg E f σ H fun vs H1 => vs.length = n ∧ Q (prm is vs) H1 := by
  obtain ⟨ρ, F, R, q⟩ := h
  refine ⟨ρ, F, R, ?_⟩
  have q' := out_bnd (K := K) (F := F) q
  cases ef : f ρ with
  | st => rw [ef] at q'; exact q'
  | ex e => rw [ef] at q'; exact q'
  | ok t =>
    obtain ⟨ds, ρ1⟩ := t
    rw [ef] at q'
    have k : ∀ σ1 F1 H1, Stp K ρ σ F H ρ1 σ1 F1 H1 → Out mg E ρ1 σ1 H1 (ret ((prm is ds).map Ar.fz) ρ1) _ := q'
    intro vs F1 H1 S1 d1
    exact ⟨by rw [dps_len d1]; exact hn _ _ _ ef, out_ret (k _ _ _ S1) (prm is vs) F1 H1 S1 (aok_fz (prm_dqs d1 is))⟩
theorem g_callKW {x : Str} {kws : List Keyword} {j k n : Nat} {den : Den} {f : Dn (List PyData)} {ks : List Str} {st : Stmt} {ps : List Str} (is : List Nat) (D : DefAt X.K X.mg x st ps) (c : ∀ f fd, Fun X.K x x st f fd → FnOk X.prog X.w X.K X.mg X.base (L2.CX X.prog X.w) j f fd ps (spD X.K X.mg n den)) (hr : Room k X.A) (hj : j ≤ k) (hg : Gl X x) (hx : Passes (L2.CX X.prog X.w) X E)
    (hb : ∀ (kV doc pm : Value) (an : Option Addr) (cdv ct : Value) (s : Shared) (ws : List Value), ws.length = ks.length → BindsTo s (PySem.W.fnOf x x (defArgs st) (defBody st) (defScope st) Value.none kV doc pm an cdv ct) ⟨[], ks.zip ws⟩ (ps.zip (prm is ws)))
    (ha : PK X kws (tDs X.K X.mg E f)) (hn : ∀ ρ ds ρ', f ρ = .ok (ds, ρ') → ds.length = ks.length) (hp : is.length = n) (hi : ∀ i ∈ is, i < ks.length)
    (hdb : (x == ("__debug__" : Str)) = false := by decide) (h1 : ((backToKw pos (keywordEach kws X.env)).all fun x => x.fst.isSome) = true := by rfl) (h2 : List.filterMap (fun x => x.fst) (backToKw pos (keywordEach kws X.env)) = ks := by rfl)
    (h3 : (((backTo pos (starEach [] X.env)).any fun x => x.fst) || (backToKw pos (keywordEach kws X.env)).any fun x => x.fst.isNone) = false := by rfl) :
    PE X (.Call (.Name x p) [] kws pos) (tE X.K X.mg E (dFn den (dArP is f))) := by
  obtain ⟨fa, fd, Fn, hm, _⟩ := D.ex
  have F1 := c fa fd Fn
  have hb' : ∀ (s : Shared) (ws : List Value), ws.length = ks.length → BindsTo s fd ⟨[], ks.zip ws⟩ (ps.zip (prm is ws)) := by
    obtain ⟨oc, od, kV, doc, pm, an, cdv, ct, osl, e, _, _⟩ := Fn.ex
    subst e
    exact hb kV doc pm an cdv ct
  have plen : ∀ {α : Type} (l : List α), l.length = ks.length → ∀ is' : List Nat, (∀ i ∈ is', i < ks.length) → (prm is' l).length = is'.length := by
    intro α l hl is'
    induction is' with
    | nil => intro _; rfl
    | cons i is' ih =>
      intro h
      unfold prm at ih ⊢
      have hi' : i < l.length := by rw [hl]; exact h i (by simp)
      rw [List.filterMap_cons_some (List.getElem?_eq_getElem hi'), List.length_cons, ih fun y hy => h y (by simp [hy])]
      rfl
  refine ⟨fun pins s σ H Q I h => ?_⟩
  refine wpAny_Call_Name_kw (ld_glob I hg hm ?_ hdb)
  have reading2 := ar_of_ds (n := ks.length) hn (spD_call (K := X.K) (mg := X.mg) (E := E) (n := n) (den := den) (f := dArP is f) (sp := spD X.K X.mg n den) (fun _ _ _ _ z => z) (fun ρ as ρ' e => by
    unfold dArP bnd at e
    cases ef : f ρ with
    | st => rw [ef] at e; cases e
    | ex y => rw [ef] at e; cases e
    | ok t =>
      rw [ef] at e
      cases e
      rw [List.length_map, plen _ (hn _ _ _ ef) is hi, hp]) σ H Q h)
  refine PySem.W.callWith_KW0 (h₀ := X.base) I.ok.mod.kin Fn.kp h1 (thn (ha.run pos pins s σ H _ I reading2) fun us s1 hh => ?_) h3
  obtain ⟨vs, H1, I1, r1, hl, q1⟩ := hh
  refine ⟨I1.kIn, ?_⟩
  rw [h2]
  have hlu : us.length = ks.length := by rw [← r1.length]; exact hl
  refine wpAny_call (codeAny_mono (F1.run X.A X.stack s1 H1 _ (prm is us) (prm is vs) Q E (hr.mono hj) I1.env0 (hb' s1 us hlu) (prm_vals is r1) q1) fun r s' hq' => ?_)
  match r, hq' with
  | .error er, hq' => exact hx pins σ _ _ er s' I1 hq'
  | .ok (.ret u), hq' => exact I1.after (show CE X.stack X.prog X.w _ _ _ u s' from hq')
def DsLen (f : Dn (List PyData)) (n : Nat) : Prop := ∀ ρ ds ρ', f ρ = .ok (ds, ρ') → ds.length = n
theorem dsl_nil : DsLen dNil 0 := fun ρ ds ρ' h => by cases h; rfl
theorem dsl_cons {f : Dn PyData} {g : Dn (List PyData)} {n : Nat} (h : DsLen g n) : DsLen (dCons f g) (n + 1) := fun ρ ds ρ' e => by
  unfold dCons bnd at e
  cases ef : f ρ with
  | st => rw [ef] at e; cases e
  | ex x => rw [ef] at e; cases e
  | ok r =>
    rw [ef] at e
    simp only at e
    cases eg : g r.2 with
    | st => rw [eg] at e; cases e
    | ex x => rw [eg] at e; cases e
    | ok t =>
      rw [eg] at e
      cases e
      simp [h r.2 t.1 t.2 eg]
end
end Gx

/-! ST5: tuples of numbers, any of them, can be sorted. -/
namespace Gx
open PySem PySem.Spec L2
open PyProof.Rows (IsTup IntsAre keyKind' keyLt' SortKind)
section
variable {prog : Program} {w : World} {A : Around} {E : Value → Shared → Prop} {s : Shared} {Q : Bool → Shared → Prop}
theorem kat_lots {b fin : Bool} {xs : List Value} {ns : List Int} (hx : IntsAre xs ns) : ∀ {ys : List Value} {ms : List Int} (i : Nat), IntsAre ys ms → fin = decide (ns.length < ms.length) → Q (HT.lexLt ns ms) s → PySem.W.KatLex prog w A b fin Q (xs.zip ys) i s := by
  induction hx with
  | nil =>
    intro ys ms i hy hf h
    refine PySem.W.kat_nil ?_
    cases hy with
    | nil => rw [HT.lexLt.eq_1] at h; subst hf; exact h
    | cons q u hy => rw [HT.lexLt.eq_2] at h; subst hf; exact h
  | @cons p t xs ns hx ih =>
    intro ys ms i hy hf h
    cases hy with
    | nil =>
      refine PySem.W.kat_nil ?_
      rw [HT.lexLt.eq_3] at h
      subst hf
      exact h
    | @cons q u ys ms hy =>
      rw [HT.lexLt.eq_4] at h
      refine PySem.W.kat_cons (wpAny_eqBool_int ?_)
      by_cases e : p = q
      · subst e
        rw [if_pos rfl] at h
        rw [beq_self_eq_true]
        refine PySem.W.kat_yes (ih (i + 1) hy ?_ h)
        rw [hf]
        exact decide_eq_decide.mpr (by simp)
      · rw [if_neg e] at h
        rw [show (p == q) = false from beq_eq_false_iff_ne.mpr e]
        exact PySem.W.kat_no (TS.oneLt_ints _ h)
theorem fst_lots {h : Heap} {k : Value → List Int} : ∀ vs : List Value, (∀ v ∈ vs, TI h v (k v) ∧ k v ≠ []) → ∃ fs, PySem.W.KatTups h vs fs ∧ fs.length = vs.length ∧ ∀ f ∈ fs, ∃ n t, f = Value.int n t
  | [], _ => ⟨[], .nil, rfl, fun f hf => by cases hf⟩
  | v :: vs, x => by
    obtain ⟨fs, h1, h2, h3⟩ := fst_lots vs fun u hu => x u (by simp [hu])
    obtain ⟨⟨a, items, e, ⟨o, ho, hc, n, hd⟩, hi⟩, hn⟩ := x v (by simp)
    generalize k v = ns at hi hn
    subst e
    cases items with
    | mk l =>
      cases hi with
      | nil => exact absurd rfl hn
      | @cons m t l ms hi =>
        refine ⟨.int m t :: fs, .cons ho hc hd rfl h1, by simp [h2], fun f hf => ?_⟩
        rcases List.mem_cons.mp hf with rfl | hf
        · exact ⟨m, t, rfl⟩
        · exact h3 f hf
theorem lots_sortable {a : Addr} {vs : List Value} {k : Value → List Int} (hu : A.units < cLine) (h2 : 2 ≤ vs.length) (hk : ∀ v ∈ vs, TI s.heap v (k v)) (ha : ∀ o, s.heap.get? a = some o → o.cls ≠ Value.type "tuple") : SrtO.SortableO prog w A s a vs fun v u => HT.lexLt (k v) (k u) := by
  by_cases h0 : ∃ v ∈ vs, k v = []
  · exact tups_sortable hu hk h0 ha
  · intro h' kp
    have hk' : ∀ v ∈ vs, TI h' v (k v) := fun v hv => ti_keep (hk v hv) ha kp
    obtain ⟨fs, f1, f2, f3⟩ := fst_lots (k := k) vs fun v hv => ⟨hk' v hv, fun z => h0 ⟨v, hv, z⟩⟩
    refine ⟨PyProof.Rows.tuples' true, fun Q E q => ?_, fun p q hp hq => ?_⟩
    · refine PySem.W.kat_kind (T := Value.type "int") f1 (by omega) (fun f hf => ?_) rfl ?_
      · obtain ⟨n, t, rfl⟩ := f3 f hf
        exact PySem.W.Looks.now
      · have e : (Value.type "int" != Value.type "tuple") = true := by decide
        rw [e]
        exact q
    · have t1 := hk' _ hp
      have t2 := hk' _ hq
      show wpAny _ _ (keyLt' (PyProof.Rows.tuples' true) p.fst q.fst) (fun r s' => s' = _ ∧ r = HT.lexLt (k p.fst) (k q.fst)) _ _
      generalize k p.fst = ns at t1 ⊢
      generalize k q.fst = ms at t2 ⊢
      obtain ⟨b, i1, e1, ⟨o1, ho1, hc1, n1, hd1⟩, g1⟩ := t1
      obtain ⟨c, i2, e2, ⟨o2, ho2, hc2, n2, hd2⟩, g2⟩ := t2
      rw [e1, e2]
      refine PySem.W.kat_lt ho1 hd1 ho2 hd2 (kat_lots g1 0 g2 ?_ ⟨rfl, rfl⟩)
      have l1 := g1.length
      have l2 := g2.length
      rw [Array.length_toList] at l1 l2
      rw [l1, l2]
end
end Gx

/-! SE1: set of a list of numbers, of a tuple of tuples. -/
namespace Gx
open PySem PySem.Spec L2
open PyProof.Rows (IntsAre)
open PyProof.Rows hiding St
abbrev EO (w : World) : Obj := { cls := .type "set", dict := none, data := .set #[] 0 (.fresh 0 0 (!w.params.followText "set-order")) }
section
variable {P : Program} {w : World} {A : Around} {E : Value → Shared → Prop} {s : Shared}

set_option maxHeartbeats 3200000 in
set_option maxHeartbeats 3200000 in
end
end Gx

/-! SE2: sorted of a set of tuples of numbers. -/
namespace Gx
open PySem PySem.Spec L2
open PyProof.Rows hiding St
theorem perm_map_ex {α β : Type} {f : α → β} {m n : List β} (h : m.Perm n) : ∀ {l : List α}, n = l.map f → ∃ l' : List α, l'.Perm l ∧ m = l'.map f := by
  induction h with
  | nil =>
    intro l e
    exact ⟨l, .refl _, e⟩
  | cons x _ ih =>
    intro l e
    cases l with
    | nil => cases e
    | cons a l =>
      rw [List.map_cons] at e
      injection e with e1 e2
      obtain ⟨l', p, q⟩ := ih e2
      exact ⟨a :: l', p.cons a, by rw [List.map_cons, e1, q]⟩
  | swap x y k =>
    intro l e
    match l, e with
    | a :: b :: l, e =>
      simp only [List.map_cons, List.cons.injEq] at e
      obtain ⟨e1, e2, e3⟩ := e
      exact ⟨b :: a :: l, List.Perm.swap .., by simp [e1, e2, e3]⟩
  | trans _ _ ih1 ih2 =>
    intro l e
    obtain ⟨l2, p2, q2⟩ := ih2 e
    obtain ⟨l1, p1, q1⟩ := ih1 q2
    exact ⟨l1, p1.trans p2, q1⟩
section
variable {P : Program} {w : World} {A : Around} {E : Value → Shared → Prop} {s : Shared}
end
section
variable {X : Cx}
def rSetIL (K : PySem.W.Frag) (w : World) : List V → Hp → VK → Prop := fun xs H Q => ∃ (l : Addr) (ns : List Int), xs = [V.ref l] ∧ SqL K H l (ns.map V.int) ∧ ns.length + 1 < scanBound ∧ ∀ a c, H a = none → (∃ l : List Int, l.Nodup ∧ (∀ k, k ∈ l ↔ k ∈ ns) ∧ l.length = c) → Q (.ref a) (upd H a (SetO w a (fun j => decide (j ∈ ns)) c))
def rSetIT (K : PySem.W.Frag) (w : World) : List V → Hp → VK → Prop := fun xs H Q => ∃ (l : Addr) (ns : List Int), xs = [V.ref l] ∧ SqT K H l (ns.map V.int) ∧ ns.length + 1 < scanBound ∧ ∀ a c, H a = none → (∃ l : List Int, l.Nodup ∧ (∀ k, k ∈ l ↔ k ∈ ns) ∧ l.length = c) → Q (.ref a) (upd H a (SetO w a (fun j => decide (j ∈ ns)) c))
def rSetTT (K : PySem.W.Frag) (P : Program) (w : World) : List V → Hp → VK → Prop := fun xs H Q => ∃ (l : Addr) (ks : List (Addr × List Int)), xs = [V.ref l] ∧ SqT K H l (ks.map fun p => V.ref p.1) ∧ (∀ p ∈ ks, SqT K H p.1 (p.2.map V.int)) ∧ ks.length < 64 ∧
  ∀ a L, H a = none → (∀ p ∈ L, p ∈ ks) → (∀ p ∈ ks, p.2 ∈ L.map (·.2)) → Q (.ref a) (upd H a (SetTO P w a L))
def rSortTT (K : PySem.W.Frag) (P : Program) (w : World) : List V → Hp → VK → Prop := fun vs H Q => ∃ (a : Addr) (L : List (Addr × List Int)), vs = [V.ref a] ∧ H a = some (SetTO P w a L) ∧ (∀ p ∈ L, SqT K H p.1 (p.2.map V.int)) ∧
  ∀ (M : List (Addr × List Int)) (p : Addr), M.Perm L → (M.map (·.2)).Nodup → M.Pairwise (fun x y => HT.lexLt y.2 x.2 = false) → H p = none → Q (.ref p) (upd H p (.lst (M.map fun r => V.ref r.1)))
end
end Gx

/-! SE3: sorted, and sorted of a set, over data. -/
namespace Gx
open PySem PySem.Spec L2
open PyProof.Rows hiding St

/-! ### by putting in -/
def insI (a : Int) : List Int → List Int
  | [] => [a]
  | b :: l => if a ≤ b then a :: b :: l else b :: insI a l
def srtI : List Int → List Int
  | [] => []
  | a :: l => insI a (srtI l)
def insL (a : List Int) : List (List Int) → List (List Int)
  | [] => [a]
  | b :: l => if HT.lexLt b a then b :: insL a l else a :: b :: l
def srtL : List (List Int) → List (List Int)
  | [] => []
  | a :: l => insL a (srtL l)
def addI (a : Int) : List Int → List Int
  | [] => [a]
  | b :: l => if a < b then a :: b :: l else if b < a then b :: addI a l else b :: l
def setI : List Int → List Int
  | [] => []
  | a :: l => addI a (setI l)
def addL (a : List Int) : List (List Int) → List (List Int)
  | [] => [a]
  | b :: l => if HT.lexLt a b then a :: b :: l else if HT.lexLt b a then b :: addL a l else b :: l
def setL : List (List Int) → List (List Int)
  | [] => []
  | a :: l => addL a (setL l)
theorem insI_perm (a : Int) : ∀ l, (insI a l).Perm (a :: l)
  | [] => .refl _
  | b :: l => by
    unfold insI
    split
    · exact .refl _
    · exact ((insI_perm a l).cons b).trans (List.Perm.swap ..)
theorem srtI_perm : ∀ l, (srtI l).Perm l
  | [] => .refl _
  | a :: l => (insI_perm a _).trans ((srtI_perm l).cons a)
theorem insI_srt {a : Int} : ∀ {l : List Int}, l.Pairwise (· ≤ ·) → (insI a l).Pairwise (· ≤ ·)
  | [], _ => List.pairwise_singleton _ _
  | b :: l, h => by
    obtain ⟨h1, h2⟩ := List.pairwise_cons.mp h
    unfold insI
    split
    · rename_i c
      refine List.pairwise_cons.mpr ⟨fun z hz => ?_, h⟩
      rcases List.mem_cons.mp hz with rfl | hz
      · exact c
      · have := h1 z hz; omega
    · rename_i c
      refine List.pairwise_cons.mpr ⟨fun z hz => ?_, insI_srt h2⟩
      rcases List.mem_cons.mp ((insI_perm a l).mem_iff.mp hz) with rfl | hz
      · omega
      · exact h1 z hz
theorem srtI_srt : ∀ l, (srtI l).Pairwise (· ≤ ·)
  | [] => .nil
  | a :: l => insI_srt (srtI_srt l)
theorem srtI_eq {l m : List Int} (h : m.Pairwise (· ≤ ·)) (p : m.Perm l) : m = srtI l := List.Perm.eq_of_pairwise (le := (· ≤ ·)) (fun a b _ _ x y => by omega) h (srtI_srt l) (p.trans (srtI_perm l).symm)
abbrev Le (x y : List Int) : Prop := HT.lexLt y x = false
theorem insL_perm (a : List Int) : ∀ l, (insL a l).Perm (a :: l)
  | [] => .refl _
  | b :: l => by
    unfold insL
    split
    · exact ((insL_perm a l).cons b).trans (List.Perm.swap ..)
    · exact .refl _
theorem srtL_perm : ∀ l, (srtL l).Perm l
  | [] => .refl _
  | a :: l => (insL_perm a _).trans ((srtL_perm l).cons a)
theorem insL_srt {a : List Int} : ∀ {l : List (List Int)}, l.Pairwise Le → (insL a l).Pairwise Le
  | [], _ => List.pairwise_singleton _ _
  | b :: l, h => by
    obtain ⟨h1, h2⟩ := List.pairwise_cons.mp h
    unfold insL
    split
    · rename_i c
      refine List.pairwise_cons.mpr ⟨fun z hz => ?_, insL_srt h2⟩
      rcases List.mem_cons.mp ((insL_perm a l).mem_iff.mp hz) with rfl | hz
      · exact lex_asym _ _ c
      · exact h1 z hz
    · rename_i c
      refine List.pairwise_cons.mpr ⟨fun z hz => ?_, h⟩
      have c' : HT.lexLt b a = false := by simpa using c
      rcases List.mem_cons.mp hz with rfl | hz
      · exact c'
      · exact lex_tr a b z c' (h1 z hz)
theorem srtL_srt : ∀ l, (srtL l).Pairwise Le
  | [] => .nil
  | a :: l => insL_srt (srtL_srt l)
theorem srtL_eq {l m : List (List Int)} (h : m.Pairwise Le) (p : m.Perm l) : m = srtL l := srt_uniq (p.trans (srtL_perm l).symm) h (srtL_srt l)
/-! sets -/
abbrev Lt2 (x y : List Int) : Prop := HT.lexLt x y = true
theorem addL_mem (a : List Int) : ∀ (l : List (List Int)) (z : List Int), z ∈ addL a l ↔ z = a ∨ z ∈ l
  | [], z => by simp [addL]
  | b :: l, z => by
    unfold addL
    split
    · simp
    · split
      · simp [addL_mem a l z]; constructor <;> (rintro (h | h | h) <;> simp [h])
      · rename_i c1 c2
        have : a = b := lex_eq a b (by simpa using c1) (by simpa using c2)
        subst this
        simp
theorem setL_mem : ∀ (l : List (List Int)) (z : List Int), z ∈ setL l ↔ z ∈ l
  | [], z => Iff.rfl
  | a :: l, z => by
    show z ∈ addL a (setL l) ↔ _
    rw [addL_mem, setL_mem l z, List.mem_cons]
theorem lex_irr (x : List Int) : HT.lexLt x x = false := by
  cases h : HT.lexLt x x
  · rfl
  · have q := lex_asym x x h
    rw [h] at q
    cases q
theorem lex_trT {x y z : List Int} (h1 : HT.lexLt x y = true) (h2 : HT.lexLt y z = true) : HT.lexLt x z = true := by
  cases h : HT.lexLt x z
  · have q := lex_tr x y z (lex_asym _ _ h1) (lex_asym _ _ h2)
    have e := lex_eq x z h q
    subst e
    have q2 := lex_asym _ _ h1
    rw [h2] at q2
    cases q2
  · rfl
theorem addL_srt {a : List Int} : ∀ {l : List (List Int)}, l.Pairwise Lt2 → (addL a l).Pairwise Lt2
  | [], _ => List.pairwise_singleton _ _
  | b :: l, h => by
    obtain ⟨h1, h2⟩ := List.pairwise_cons.mp h
    unfold addL
    split
    · rename_i c
      refine List.pairwise_cons.mpr ⟨fun z hz => ?_, h⟩
      rcases List.mem_cons.mp hz with rfl | hz
      · exact c
      · exact lex_trT c (h1 z hz)
    · split
      · rename_i c
        refine List.pairwise_cons.mpr ⟨fun z hz => ?_, addL_srt h2⟩
        rcases (addL_mem a l z).mp hz with rfl | hz
        · exact c
        · exact h1 z hz
      · exact h
theorem setL_srt : ∀ l, (setL l).Pairwise Lt2
  | [] => .nil
  | a :: l => addL_srt (setL_srt l)
theorem lt_nodup {l : List (List Int)} (h : l.Pairwise Lt2) : l.Nodup := h.imp fun {a b} (q : HT.lexLt a b = true) e => by
  subst e
  rw [lex_irr] at q
  cases q
theorem lt_le {l : List (List Int)} (h : l.Pairwise Lt2) : l.Pairwise Le := h.imp fun q => lex_asym _ _ q
theorem setL_eq {l m : List (List Int)} (h : m.Pairwise Le) (n : m.Nodup) (p : ∀ z, z ∈ m ↔ z ∈ l) : m = setL l :=
  srt_uniq ((List.perm_ext_iff_of_nodup n (lt_nodup (setL_srt l))).mpr fun z => (p z).trans (setL_mem l z).symm) h (lt_le (setL_srt l))
/-! ### sorted -/
theorem sorted_lots2 {prog : Program} {w : World} {A : Around} {E : Value → Shared → Prop} {s : Shared} {l : Addr} {vs : List Value} {k : Value → List Int} {Q : Value → Shared → Prop} (hl : s.heap.IsList l vs.toArray) (hn : vs.length ≤ sizeLine) (hu : A.units + 2 < cLine) (hk : ∀ v ∈ vs, TI s.heap v (k v))
    (q : ∀ out : List Value, SrtO.Srtd (fun v u => HT.lexLt (k v) (k u)) out → out.Perm vs → Q (Value.ref (s.heap.objs.size + 1)) { heap := sortedAll s.heap vs out.toArray, gens := s.gens, drawn := s.drawn, toks := s.toks, os := s.os }) :
    wpAny (model prog w) A (call (Value.builtin "sorted") [Value.ref l]) Q E s := by
  refine SrtO.sorted_ord (lex_swo k) hl hn (fun h2 h₁ a ha kp => ?_) fun out h1 h2 => q out h1 h2.perm
  refine lots_sortable (s := ⟨h₁, s.gens, s.drawn, s.toks, s.os⟩) (by show A.units + 1 + 1 < cLine; omega) h2 (fun v hv => ?_) fun o ho => ?_
  · obtain ⟨b, items, e, ⟨o, ho, r⟩, hi⟩ := hk v hv
    exact ⟨b, items, e, ⟨o, (kp b o ho).2, r⟩, hi⟩
  · have : o = seqObj "list" vs.toArray 0 := Option.some.inj (ho.symm.trans ha)
    subst this
    intro z
    have z' : Value.type "list" = Value.type "tuple" := z
    exact absurd z' (by decide)
def rLots2 (K : PySem.W.Frag) : List V → Hp → VK → Prop := fun vs H Q => ∃ (a : Addr) (xs : List V) (k : V → List Int), vs = [.ref a] ∧ SqL K H a xs ∧ (∀ x ∈ xs, ∃ t, x = .ref t ∧ SqT K H t ((k x).map V.int)) ∧
  ∀ (ys : List V) (p : Addr), ys.Perm xs → ys.Pairwise (fun x y => HT.lexLt (k y) (k x) = false) → H p = none → Q (.ref p) (upd H p (.lst ys))
theorem cr_lots2 {X : Cx} (hu : X.A.units + 2 < cLine) : CallR X (.builtin "sorted") (rLots2 X.K) := by
  intro pins s σ H vs us Q I r h
  obtain ⟨a, xs, k, rfl, hs, hx, q⟩ := h
  obtain ⟨its, rv, hl, hz⟩ := I.list hs
  obtain ⟨u, rfl, ru⟩ := vals1 r
  obtain rfl := (show u = Value.ref a from ru)
  obtain ⟨e1, e2⟩ := refs_back rv fun x m => by
    obtain ⟨t, e, _⟩ := hx x m
    exact ⟨t, e⟩
  have e1 := e1.symm
  have ti : ∀ v ∈ its, TI s.heap v (k (backV v)) := fun v hv => by
    obtain ⟨t, rfl⟩ := e2 v hv
    have hm : V.ref t ∈ xs := by
      rw [← e1]
      exact List.mem_map.mpr ⟨_, hv, rfl⟩
    obtain ⟨t', e, ht⟩ := hx _ hm
    cases e
    obtain ⟨its2, r2, h2, _⟩ := I.tuple ht
    exact ⟨t, its2.toArray, rfl, h2, ints_of r2⟩
  refine sorted_lots2 (k := fun v => k (backV v)) hl.isList (by rw [← rv.length]; exact hz) hu ti fun out h1 h2 => ?_
  have h3 : ∀ u ∈ out, ∃ t, u = Value.ref t := fun u hu => e2 u (h2.mem_iff.mp hu)
  have hp : (out.map backV).Perm xs := by
    rw [← e1]
    exact h2.map _
  obtain ⟨n, hn⟩ := sortedAll_at s.heap its out.toArray
  have hd : s.heap.objs.size ≤ s.heap.objs.size + 1 := Nat.le_succ _
  refine ⟨.ref (s.heap.objs.size + 1), _, I.laid (t' := s.toks) (o := .lst (out.map backV)) (fun b o e => sortedAll_old e) hd ⟨by rw [hp.length_eq]; exact hz, out, n, vals_back h3, hn⟩, rfl, q (out.map backV) _ hp ?_ (I.hok.fresh hd)⟩
  exact List.pairwise_map.mpr h1
def sort2D : List PyData → Option Rv
  | [.list ds] => match intsD ds with
    | some ns => if ns.length < 64 then some (.ol ((srtI ns).map .int)) else none
    | none => (lotsD ds).map fun nss => .ol ((srtL nss).map tupI)
  | _ => none
theorem call_sort2D {X : Cx} (hu : X.A.units + 65 < cLine) : CallD X (.builtin "sorted") sort2D := callR_wk (cr_sorted.or (cr_lots2 (by omega))) fun xs H Q h => by
  obtain ⟨F, ds, r, s, h1, hr, q⟩ := h
  cases h1 with
  | nil => cases hr
  | cons h1 h2 =>
    cases h2 with
    | cons _ _ => cases h1 <;> cases hr
    | nil =>
      cases h1 with
      | @lst a vs xs ha hx =>
        unfold sort2D at hr
        cases e1 : intsD xs with
        | some ns =>
          simp only [e1] at hr
          by_cases c : ns.length < 64
          · rw [if_pos c] at hr
            cases hr
            have e := dqs_intsD hx e1
            subst e
            refine .inl ⟨a, ns, rfl, .of (s _ _ ha), c, fun ms p hp hs np => ?_⟩
            have e := srtI_eq hs hp
            subst e
            exact q _ _ _ (Grow.own s np) ⟨p, _, rfl, np, upd_same, s.free np, _, rfl, dqs_ints _⟩
          · rw [if_neg c] at hr
            cases hr
        | none =>
          simp only [e1] at hr
          obtain ⟨nss, e2, e3⟩ := Option.map_eq_some_iff.mp hr
          subst e3
          obtain ⟨b1, b2, b3⟩ := lots_at hx e2
          refine .inr ⟨a, vs, kF F, rfl, .of (s _ _ ha), fun v hv => ?_, fun ys p hp hs np => ?_⟩
          · obtain ⟨t, e, ht⟩ := b3 v hv
            exact ⟨t, e, .of (s _ _ ht)⟩
          · have e : ys.map (kF F) = srtL nss := srtL_eq (List.pairwise_map.mpr hs) ((hp.map (kF F)).trans (by rw [b2]))
            have dy := dqs_lots (F := F) ys fun v hv => b3 v (hp.mem_iff.mp hv)
            rw [e] at dy
            exact q _ _ _ (Grow.own s np) ⟨p, _, rfl, np, upd_same, s.free np, _, rfl, dy⟩
      | _ => cases hr
end Gx

/-! SE4: sorted(set(x)), over data. -/
namespace Gx
open PySem PySem.Spec L2
open PyProof.Rows hiding St
def setSq : PyData → Option (List PyData)
  | .list ds => some ds
  | .tuple ds => some ds
  | _ => none
def setSortL (ds : List PyData) : Option Rv := match intsD ds with
  | some ns => if ns.length < 1000 ∧ (setI ns).length < 64 then some (.ol ((setI ns).map .int)) else none
  | none => match lotsD ds with
    | some nss => if nss.length < 64 then some (.ol ((setL nss).map tupI)) else none
    | none => none
def setSortD : List PyData → Option Rv
  | [d] => (setSq d).bind setSortL
  | _ => none
def adrOf : V → Addr
  | .ref t => t
  | _ => 0
def ksOf (F : Hp) (vs : List V) : List (Addr × List Int) := vs.map fun v => (adrOf v, kF F v)
section
variable {X : Cx} {E : XK} {pos pos2 : Pos}
end
end Gx

/-! G14: comprehensions with two for. -/
namespace Gx
open PySem PySem.Spec L2
open PyProof.Rows hiding St
theorem wipe_part {K : PySem.W.Frag} {ρ ρ1 : Ev} {σ σ1 : St} {F F1 H H1 : Hp} {vs vs1 : List Nat} (hv : ∀ i ∈ vs1, i ∈ vs) (S : Stp K (wipeE ρ vs) (wipe σ vs) F H ρ1 σ1 F1 H1) : Stp K (wipeE ρ vs) (wipe σ vs) F H (wipeE ρ1 vs1) (wipe σ1 vs1) F1 H1 := by
  have nv : ∀ (i : Nat) (xs : Cn), (wipeE ρ vs)[i]? = some (.bo xs) → i ∉ vs1 := fun i xs h z => ((wipeE_get (by intro z; cases z)).mp h).1 (hv i z)
  refine ⟨wipe_rel S.rel, S.ff, S.fr, fun p h => S.oo p (wipe_ownL h), fun i xs h => ?_, fun i ys h => ?_, S.nw, by rw [wipeE_len]; exact S.ln, S.dm⟩
  · obtain ⟨⟨ys, h1⟩, h2⟩ := S.bk i xs h
    exact ⟨⟨ys, (wipeE_get (by intro z; cases z)).mpr ⟨nv i xs h, h1⟩⟩, by rw [σ_out (nv i xs h)]; exact h2⟩
  · exact S.kb i ys ((wipeE_get (by intro z; cases z)).mp h).2
def compL2 (h : PyData → Ev → Option Ev) (ft : Dn Bool) (fi1 : Dn (List PyData)) (h1 : PyData → Ev → Option Ev) (ft1 : Dn Bool) (fe : Dn PyData) (vs vs1 : List Nat) : List PyData → List PyData → Dn (List PyData)
  | [], acc, ρ => .ok (acc, ρ)
  | d :: ds, acc, ρ => match h d ρ with
    | none => .st
    | some ρ1 => match ft ρ1 with
      | .ok (true, ρ2) => match fi1 ρ2 with
        | .ok (es, ρ3) => match compL h1 ft1 fe vs1 es acc (wipeE ρ3 vs1) with
          | .ok (acc', ρ4) => compL2 h ft fi1 h1 ft1 fe vs vs1 ds acc' (wipeE ρ4 vs)
          | _ => .st
        | _ => .st
      | .ok (false, ρ2) => compL2 h ft fi1 h1 ft1 fe vs vs1 ds acc (wipeE ρ2 vs)
      | _ => .st
def dComp2 (fi : Dn (List PyData)) (h : PyData → Ev → Option Ev) (ft : Dn Bool) (fi1 : Dn (List PyData)) (h1 : PyData → Ev → Option Ev) (ft1 : Dn Bool) (fe : Dn PyData) (vs vs1 : List Nat) : Dn Rv := bnd fi fun ds => fun ρ => if vs.all (fun v => !isBl ρ[v]?) then match compL2 h ft fi1 h1 ft1 fe vs vs1 ds [] (wipeE ρ vs) with
  | .ok (ys, ρ2) => .ok (.ol ys, restE ρ ρ2 vs)
  | _ => .st
  else .st
theorem lc2_wk {K : PySem.W.Frag} {mg : Str → Option Value} {E : XK} {fi fi1 : Dn (List PyData)} {ts ts1 : List Nat} {h h1 : PyData → Ev → Option Ev} {ft ft1 : Dn Bool} {fe : Dn PyData} {vs vs1 : List Nat} (hts : ∀ i ∈ ts, i ∈ vs) (hts1 : ∀ i ∈ ts1, i ∈ vs1) (hv1 : ∀ i ∈ vs1, i ∈ vs) (σ : St) (H : Hp) (Q : VK) (q : tE K mg E (dComp2 fi h ft fi1 h1 ft1 fe vs vs1) σ H Q) :
    tLc2 (tI K mg E fi) (tGd K ts h) (tT K mg E0 ft) (tI K mg E0 fi1) (tGd K ts1 h1) (tT K mg E0 ft1) (tD K mg E0 fe) vs vs1 σ H Q := by
  obtain ⟨ρ, F, R, q⟩ := q
  refine ⟨ρ, F, R, (out_bnd (K := K) (F := F) q).mono fun ds ρ1 k J F1 H1 S1 I D hD => ?_⟩
  have k2 := k σ F1 H1 S1
  by_cases hall : vs.all (fun v => !isBl ρ1[v]?) = true
  case neg =>
    rw [if_neg hall] at k2
    exact (show False from k2).elim
  rw [if_pos hall] at k2
  have nb : ∀ v ∈ vs, ∀ xs, ρ1[v]? ≠ some (.bo xs) := fun v hv xs z => by
    have y := List.all_eq_true.mp hall v hv
    rw [z] at y
    cases y
  cases ec : compL2 h ft fi1 h1 ft1 fe vs vs1 ds [] (wipeE ρ1 vs) with
  | st => rw [ec] at k2; exact (show False from k2).elim
  | ex x => rw [ec] at k2; exact (show False from k2).elim
  | ok r =>
  obtain ⟨ys, ρf⟩ := r
  rw [ec] at k2
  have k3 : ∀ v F' H', Stp K ρ σ F H (restE ρ1 ρf vs) σ F' H' → ROk ρ σ H (restE ρ1 ρf vs) σ F' H' (.ol ys) v → Q v H' := k2
  -- a state within the block, and D in it
  let At : Ev → St → Hp → Hp → List V → List PyData → Prop := fun ρi σi Fi Hi vacc acc => Stp K (wipeE ρ1 vs) (wipe σ vs) F1 H1 ρi σi Fi Hi ∧ Hi D = some (.lst vacc) ∧ Fi D = none ∧ ¬ Own ρi σi D ∧ DqAll Fi vacc acc
  have step : ∀ {ρi ρj : Ev} {σi σj : St} {Fi Fj Hi Hj : Hp} {vacc : List V} {acc : List PyData}, At ρi σi Fi Hi vacc acc → Stp K ρi σi Fi Hi ρj σj Fj Hj → At ρj σj Fj Hj vacc acc := fun ⟨a1, a2, a3, a4, a5⟩ S =>
    have ⟨b1, b2, b3⟩ := keep_nob S a2 a3 a4
    ⟨a1.trans S, b1, b2, b3, dps_mono S.ff _ _ a5⟩
  have turn : ∀ {ρi : Ev} {σi : St} {Fi Hi : Hp} {vacc : List V} {acc : List PyData}, At ρi σi Fi Hi vacc acc → wipe σi vs = wipe σ vs → At (wipeE ρi vs) (wipe σ vs) Fi Hi vacc acc := fun ⟨a1, a2, a3, a4, a5⟩ e =>
    ⟨wipe_turn a1 e, a2, a3, fun z => a4 (wipe_own (by rw [e]; exact z)), a5⟩
  have part : ∀ {ρi : Ev} {σi : St} {Fi Hi : Hp} {vacc : List V} {acc : List PyData}, At ρi σi Fi Hi vacc acc → At (wipeE ρi vs1) (wipe σi vs1) Fi Hi vacc acc := fun ⟨a1, a2, a3, a4, a5⟩ =>
    ⟨wipe_part hv1 a1, a2, a3, fun z => a4 (wipe_own z), a5⟩
  have more : ∀ {ρi : Ev} {σi : St} {Fi Hi : Hp} {vacc : List V} {acc : List PyData} {v : V} {y : PyData}, At ρi σi Fi Hi vacc acc → Dq Fi v y → At ρi σi Fi (upd Hi D (.lst (vacc ++ [v]))) (vacc ++ [v]) (acc ++ [y]) := fun ⟨a1, a2, a3, a4, a5⟩ d =>
    ⟨upd_stp a1 hD a3 a4, upd_same, a3, a4, dps_app a5 (dps_one d)⟩
  refine ⟨fun i m Hi => m = ds.length - i ∧ i ≤ ds.length ∧ ∃ ρi Fi vacc acc, At ρi (wipe σ vs) Fi Hi vacc acc ∧ wipeE ρi vs = ρi ∧ compL2 h ft fi1 h1 ft1 fe vs vs1 (ds.drop i) acc ρi = .ok (ys, ρf),
    ⟨ds.length, by simp, Nat.zero_le _, wipeE ρ1 vs, F1, [], [], ⟨(Grow.own S1.rel.sub hD).stp (wipe_rel S1.rel), upd_same, S1.rel.sub.free hD, fun z => ?_, .nil⟩, wipeE_twice ρ1, by simpa using ec⟩, ?_⟩
  · obtain ⟨⟨ws, e⟩, _⟩ := S1.rel.own (wipe_own z)
    rw [hD] at e
    cases e
  rintro i m Hi ⟨rfl, hi, ρi, Fi, vacc, acc, A, hwi, o⟩
  by_cases hlt : i < ds.length
  case neg =>
    have e : i = ds.length := by omega
    subst e
    rw [List.drop_length] at o
    unfold compL2 at o
    cases o
    obtain ⟨Si, d1, d2, d3, d4⟩ := A
    refine .inl ⟨I.stop Hi (Si.ff.trans Si.rel.sub), ?_⟩
    have Su := unwipe S1.rel nb Si
    refine k3 _ Fi Hi (S1.trans Su) ⟨D, _, rfl, .inr (S1.dm D hD), d1, d2, ⟨vacc, rfl, d4⟩, fun z => ?_⟩
    rcases z with z | z
    · obtain ⟨j, xs, z1, z2⟩ := z
      rw [restE_get (by rw [Si.ln, wipeE_len])] at z1
      by_cases hv : j ∈ vs
      · rw [if_pos hv] at z1
        obtain ⟨⟨ws, e⟩, _⟩ := S1.rel.own (.inl ⟨j, xs, z1, z2⟩)
        rw [hD] at e
        cases e
      · rw [if_neg hv] at z1
        exact d3 (.inl ⟨j, xs, z1, by rw [σ_out hv]; exact z2⟩)
    · obtain ⟨⟨ws, e⟩, _⟩ := S1.rel.own (.inr (Su.ob z))
      rw [hD] at e
      cases e
  refine .inr ⟨I.go i Hi hlt (A.1.ff.trans A.1.rel.sub), fun H' => i + 1 ≤ ds.length ∧ ∃ ρ' F' vacc acc, At ρ' (wipe σ vs) F' H' vacc acc ∧ wipeE ρ' vs = ρ' ∧ compL2 h ft fi1 h1 ft1 fe vs vs1 (ds.drop (i + 1)) acc ρ' = .ok (ys, ρf),
    fun H' ⟨hn, z⟩ => ⟨ds.length - (i + 1), by omega, rfl, hn, z⟩, fun x H' y => ?_⟩
  obtain ⟨d, F2, hd, gr, dq⟩ := I.yld i Hi x H' Fi hlt A.1.ff A.1.rel.sub y
  have Sg := gr.stp A.1.rel
  rw [drop_cons hd] at o
  unfold compL2 at o
  cases e1 : h d ρi with
  | none => rw [e1] at o; cases o
  | some ρ2 =>
  simp only [e1] at o
  refine ⟨d, ρi, F2, ρ2, Sg.rel, dq, e1, fun σ2 S2 kp => ?_⟩
  have hl2 : σ2.length = (wipe σ vs).length := by rw [← S2.rel.ln, S2.ln, Sg.rel.ln]
  have hw : wipe σ2 vs = wipe σ vs := by
    rw [wipe_eq (τ := wipe σ vs) hl2 fun j hj => kp j fun z => hj (hts j z)]
    exact wipe_eq (wipe_length σ vs) fun j hj => σ_out hj
  refine ⟨hw, ρ2, F2, S2.rel, ?_⟩
  have A2 := step (step A Sg) S2
  cases e2 : ft ρ2 with
  | st => simp only [e2] at o; cases o
  | ex x => simp only [e2] at o; cases o
  | ok r =>
  obtain ⟨b, ρ3⟩ := r
  show ∀ F' H'', Stp K ρ2 σ2 F2 H' ρ3 σ2 F' H'' → _
  intro F3 H3 S3
  have A3 := step A2 S3
  cases b with
  | false =>
    simp only [e2] at o
    exact iteF ⟨hlt, wipeE ρ3 vs, F3, vacc, acc, turn A3 hw, wipeE_twice ρ3, o⟩
  | true =>
  simp only [e2] at o
  refine iteT ⟨ρ3, F3, S3.rel, ?_⟩
  cases e3 : fi1 ρ3 with
  | st => simp only [e3] at o; cases o
  | ex x => simp only [e3] at o; cases o
  | ok r =>
  obtain ⟨es, ρ4⟩ := r
  simp only [e3] at o
  show ∀ J1 F' H'', Stp K ρ3 σ2 F3 H3 ρ4 σ2 F' H'' → IOk F' J1 es → _
  intro J1 F4 H4 S4 I1
  have A4 := part (step A3 S4)
  cases e4 : compL h1 ft1 fe vs1 es acc (wipeE ρ4 vs1) with
  | st => simp only [e4] at o; cases o
  | ex x => simp only [e4] at o; cases o
  | ok r =>
  obtain ⟨acc', ρg⟩ := r
  simp only [e4] at o
  refine ⟨fun j n Hj => n = es.length - j ∧ j ≤ es.length ∧ ∃ ρj Fj vacc acc, Same F4 Fj ∧ At ρj (wipe σ2 vs1) Fj Hj vacc acc ∧ wipeE ρj vs1 = ρj ∧ compL h1 ft1 fe vs1 (es.drop j) acc ρj = .ok (acc', ρg),
    ⟨es.length, by simp, Nat.zero_le _, wipeE ρ4 vs1, F4, vacc, acc, Same.refl F4, A4, wipeE_twice ρ4, by simpa using e4⟩, ?_⟩
  rintro j n Hj ⟨rfl, hj, ρj, Fj, vaccj, accj, ffj, Aj, hwj, oj⟩
  by_cases hltj : j < es.length
  case neg =>
    have e : j = es.length := by omega
    subst e
    rw [List.drop_length] at oj
    unfold compL at oj
    cases oj
    refine .inl ⟨I1.stop Hj (ffj.trans Aj.1.rel.sub), hlt, wipeE ρg vs, Fj, vaccj, acc', turn Aj ?_, wipeE_twice ρg, o⟩
    rw [← hw]
    exact wipe_eq (wipe_length σ2 vs1) fun t ht => σ_out fun z => ht (hv1 t z)
  refine .inr ⟨I1.go j Hj hltj (ffj.trans Aj.1.rel.sub), fun H' => j + 1 ≤ es.length ∧ ∃ ρ' F' vacc acc, Same F4 F' ∧ At ρ' (wipe σ2 vs1) F' H' vacc acc ∧ wipeE ρ' vs1 = ρ' ∧ compL h1 ft1 fe vs1 (es.drop (j + 1)) acc ρ' = .ok (acc', ρg),
    fun H' ⟨hn, z⟩ => ⟨es.length - (j + 1), by omega, rfl, hn, z⟩, fun x5 H5 y5 => ?_⟩
  obtain ⟨d5, F5, hd5, gr5, dq5⟩ := I1.yld j Hj x5 H5 Fj hltj ffj Aj.1.rel.sub y5
  have Sg5 := gr5.stp Aj.1.rel
  rw [drop_cons hd5] at oj
  unfold compL at oj
  cases f1 : h1 d5 ρj with
  | none => rw [f1] at oj; cases oj
  | some ρ6 =>
  simp only [f1] at oj
  refine ⟨d5, ρj, F5, ρ6, Sg5.rel, dq5, f1, fun σ3 S6 kp6 => ?_⟩
  have hl3 : σ3.length = (wipe σ2 vs1).length := by rw [← S6.rel.ln, S6.ln, Sg5.rel.ln]
  have hw3 : wipe σ3 vs1 = wipe σ2 vs1 := by
    rw [wipe_eq (τ := wipe σ2 vs1) hl3 fun t ht => kp6 t fun z => ht (hts1 t z)]
    exact wipe_eq (wipe_length σ2 vs1) fun t ht => σ_out ht
  refine ⟨hw3, ρ6, F5, S6.rel, ?_⟩
  have A6 := step (step Aj Sg5) S6
  have ff6 : Same F4 F5 := ffj.trans gr5.ff
  cases f2 : ft1 ρ6 with
  | st => simp only [f2] at oj; cases oj
  | ex x => simp only [f2] at oj; cases oj
  | ok r =>
  obtain ⟨b, ρ7⟩ := r
  show ∀ F' H'', Stp K ρ6 σ3 F5 H5 ρ7 σ3 F' H'' → _
  intro F7 H7 S7
  have A7 := step A6 S7
  have ff7 : Same F4 F7 := ff6.trans S7.ff
  cases b with
  | false =>
    simp only [f2] at oj
    refine iteF ⟨hltj, wipeE ρ7 vs1, F7, vaccj, accj, ff7, ?_, wipeE_twice ρ7, oj⟩
    rw [← hw3]
    exact part A7
  | true =>
  simp only [f2] at oj
  refine iteT ⟨ρ7, F7, S7.rel, ?_⟩
  cases f3 : fe ρ7 with
  | st => simp only [f3] at oj; cases oj
  | ex x => simp only [f3] at oj; cases oj
  | ok r =>
  obtain ⟨yd, ρ8⟩ := r
  simp only [f3] at oj
  show ∀ v F' H'', Stp K ρ7 σ3 F7 H7 ρ8 σ3 F' H'' → Dq F' v yd → _
  intro v F8 H8 S8 dv
  have A8 := step A7 S8
  by_cases hlen : okLen (accj.length + 1) = true
  · rw [if_pos hlen] at oj
    have el := dps_len A8.2.2.2.2
    refine ⟨vaccj, A8.2.1, ?_, hltj, wipeE ρ8 vs1, F8, vaccj ++ [v], accj ++ [yd], ff7.trans S8.ff, ?_, wipeE_twice ρ8, oj⟩
    · rw [el]
      exact okLen_le hlen
    · rw [← hw3]
      exact part (more A8 dv)
  · rw [if_neg hlen] at oj
    cases oj
section
variable {X : Cx} {E : XK} {pos : Pos}
end
end Gx

/-! G15: comprehensions over a list of one's own, as it stands. -/
namespace Gx
open PySem PySem.Spec L2
open PyProof.Rows hiding St
def compLO (i : Nat) (h : PyData → Ev → Option Ev) (ft : Dn Bool) (fe : Dn PyData) (vs : List Nat) : Nat → Nat → List PyData → Dn (List PyData)
  | 0, k, acc, ρ => match ownOf ρ[i]? with
    | some xs => if xs.length ≤ k then .ok (acc, ρ) else .st
    | none => .st
  | n + 1, k, acc, ρ => match (ownOf ρ[i]?).bind (fun xs => xs[k]?) with
    | none => .st
    | some d => match h d ρ with
      | none => .st
      | some ρ1 => match ft ρ1 with
        | .ok (true, ρ2) => match fe ρ2 with
          | .ok (y, ρ3) => if okLen (acc.length + 1) then compLO i h ft fe vs n (k + 1) (acc ++ [y]) (wipeE ρ3 vs) else .st
          | _ => .st
        | .ok (false, ρ2) => compLO i h ft fe vs n (k + 1) acc (wipeE ρ2 vs)
        | _ => .st
def dCompO (i : Nat) (h : PyData → Ev → Option Ev) (ft : Dn Bool) (fe : Dn PyData) (vs : List Nat) : Dn Rv := fun ρ => match ownOf ρ[i]? with
  | none => .st
  | some xs => if vs.all (fun v => !isBl ρ[v]? && v != i) then match compLO i h ft fe vs xs.length 0 [] (wipeE ρ vs) with
    | .ok (ys, ρ2) => .ok (.ol ys, restE ρ ρ2 vs)
    | _ => .st
    else .st
section
variable {X : Cx} {E : XK} {pos : Pos}
end
end Gx

/-! G16: ~x, backward ranges, x[::-1], arguments that stand fast, words among words. -/
namespace Gx
open PySem PySem.Spec L2
open PyProof.Rows hiding St
section
variable {X : Cx} {E : XK} {pos : Pos}
def invD : PyData → Option PyData
  | .int i => some (.int (Builtin.bitNot i))
  | _ => none
/-! ### backward -/
def dnD (lo : Int) (n : Nat) : List PyData := (List.range n).map fun i => .int (lo + (i : Nat) * (-1))
def rv1 : PyData → Option (List PyData)
  | .int n => if small62 n then some (dnD ((n.toNat : Nat) - 1) n.toNat) else none
  | _ => none
def iRv1 (f : Dn PyData) : Dn (List PyData) := bnd f fun d => lft (rv1 d)
def rg3 : List PyData → Option (List PyData)
  | [.int i, .int j, .int c] => if small62 i && (small62 j && decide (c = -1)) then some (dnD i (i - j).toNat) else none
  | _ => none
def iRg3 (f : Dn (List PyData)) : Dn (List PyData) := bnd f fun ds => lft (rg3 ds)
def dRevL (f : Dn PyData) : Dn Rv := bnd f fun d => match d with
  | .list xs => ret (.ol xs.reverse)
  | _ => lft none
/-! ### an argument that stands fast is walked -/
def fastE : Option En → Option (List PyData)
  | some (.fz (.list xs)) => some xs
  | some (.fz (.tuple xs)) => some xs
  | some (.sc (.t ns)) => some (ns.map .int)
  | _ => none
def iArg (i : Nat) : Dn (List PyData) := fun ρ => match fastE ρ[i]? with
  | some xs => .ok (xs, ρ)
  | none => .st
/-! ### a word among words -/
def strsD : List PyData → Option (List Str)
  | [] => some []
  | .str x :: ds => (strsD ds).map (x :: ·)
  | _ :: _ => none
def inW (d e : PyData) : Option Rv := match d, e with
  | .str x, .tuple ds => (strsD ds).bind fun xs => fB (xs.any (· == x))
  | _, _ => none
def WordsAt (K : PySem.W.Frag) (mg : Str → Option Value) (x : Str) (ws : List Str) : Prop := ∃ a, mg x = some (.ref a) ∧ ∀ H, SqT K H a (ws.map V.str)
def inG (ws : List Str) : PyData → Option PyData
  | .str x => some (.bool (ws.any (· == x)))
  | _ => none
end
end Gx

/-! G17: defs with defaults () and calls by place and by name. -/
namespace Gx
open PySem PySem.Spec L2
open PyProof.Rows hiding St
def pkq {α : Type} (l d : List α) (q : Bool × Nat) : Option α := match q.1 with
  | true => l[q.2]?
  | false => d[q.2]?
def mpG {α : Type} (mp : List (Bool × Nat)) (l d : List α) : List α := mp.filterMap (pkq l d)
def okMp (mp : List (Bool × Nat)) (a b : Nat) : Prop := ∀ q ∈ mp, match q.1 with
  | true => q.2 < a
  | false => q.2 < b
def arP (ds : List PyData) (q : Bool × Nat) : Ar := match q.1 with
  | true => .fz (ds.getD q.2 .none)
  | false => .sc (.t [])
def dApp (f g : Dn (List PyData)) : Dn (List PyData) := bnd f fun ds => bnd g fun es => ret (ds ++ es)
def dArD (mp : List (Bool × Nat)) (f g : Dn (List PyData)) : Dn (List Ar) := bnd (dApp f g) fun ds => ret (mp.map (arP ds))
structure DefD (K : PySem.W.Frag) (mg : Str → Option Value) (x : Str) (st : Stmt) (ps : List Str) (m : Nat) : Prop where
  ex : ∃ f fd dvs, FunD K x x (defArgs st) (defBody st) (defScope st) dvs [] f fd ∧ mg x = some (.ref f) ∧ dvs.length = m ∧ ∀ v ∈ dvs, ∃ a, v = V.ref a ∧ ∀ H, SqT K H a []
section
variable {X : Cx} {E : XK} {pos p : Pos}
end
end Gx

/-! G18: enumerate of a tuple. -/
namespace Gx
open PySem PySem.Spec L2
open PyProof.Rows hiding St
def Iten (K : PySem.W.Frag) (a : Addr) : It where
  go := fun k G => ∃ (ws : List V) (y : V), SqT K G a ws ∧ ws[k]? = some y
  yld := fun k G r G' => ∃ C y, r = .ref C ∧ G C = none ∧ G' = upd G C (.tup [.int (k : Nat), y]) ∧ ∀ ws, SqT K G a ws → ws[k]? = some y
  stop := fun k G => ∃ ws : List V, SqT K G a ws ∧ ws.length ≤ k
theorem in1_handled {A : Around} (h : A.handled = none) : A.in1.handled = none := h
def TnE (a e it : Addr) (k : Nat) (h : Heap) : Prop := (∃ old, IsEnum h e it ((k : Nat) : Int) old) ∧ h.IsTupleIter it a k ∧ e ≠ it ∧ a ≠ it ∧ a ≠ e
theorem turn_enumT {P : Program} {w : World} {K : PySem.W.Frag} {elts : List Expr} {n : Nat} {tp : Pos} (a e it : Addr) : Turn P w K (.Tuple elts n tp) (Iten K a) [e, it] e (TnE a e it) where
  mem := by simp
  obj := fun k h st b hb => by
    obtain ⟨⟨old, z1⟩, ⟨o, z2, _, z3⟩, _⟩ := st
    rcases (by simpa using hb : b = e ∨ b = it) with q | q
    · rw [q]; exact ⟨_, z1, fun v y => nomatch y⟩
    · exact ⟨o, by rw [q]; exact z2, fun v y => by rw [z3] at y; cases y⟩
  keep := fun k h h' st kp => by
    obtain ⟨⟨old, z1⟩, z2, rest⟩ := st
    exact ⟨⟨old, kp e (by simp) _ z1⟩, z2.at fun o y => kp it (by simp) o y, rest⟩
  item := by
    intro X hP hw hK hc k pins s σ G E I fps st hg
    subst hP hw hK
    obtain ⟨⟨old, z1⟩, z2, d1, d2, d3⟩ := st
    obtain ⟨ws, y, hq, hy⟩ := hg
    obtain ⟨its, rv, pl, _⟩ := I.tuple hq
    obtain ⟨u, hu, ru⟩ := rv.get hy
    have l1 : e < s.heap.objs.size := Heap.lt_size z1
    have l2 : it < s.heap.objs.size := by obtain ⟨_, q, _⟩ := z2; exact Heap.lt_size q
    have D : Draws X.prog X.w X.A.in1 it [it, a] its.toArray.size (fun i v => its.toArray[i]? = some v) (fun i h => h.IsTupleIter it a i ∧ h.IsTuple a its.toArray) := Draws.tuple (in1_handled (I.ok.hd hc)) it a d2 its.toArray
    have lt : k < its.toArray.size := by
      have := (List.getElem?_eq_some_iff.mp hu).1
      simpa using this
    refine wpAny_pyNext_enum_itemD D z1 ⟨z2, pl⟩ lt d1 (by simp [d1, d3.symm]) fun x h1 tk hx out st1 cell _ kp => ?_
    have ex : x = u := by
      have q : its.toArray[k]? = some u := by simpa using hu
      rw [q] at hx
      exact (Option.some.inj hx).symm
    subst ex
    refine ⟨_, rfl, wpAny_letOwnedTupleGo_enum (s := { s with heap := h1, toks := tk + 1 }) out fun h2 z4 sb => ?_⟩
    have cell2 := (sb.2 s.heap.objs.size (Nat.ne_of_gt l1)).trans cell
    have fresh : G s.heap.objs.size = none := I.hok.fresh (Nat.le_refl _)
    have new : ObjOk X.prog X.w (upd G s.heap.objs.size (.tup [.int (k : Nat), y])) h2 s.heap.objs.size (.tup [.int (k : Nat), y]) :=
      ⟨by show 2 ≤ sizeLine; decide, [.int k tk, x], .cons ⟨_, rfl⟩ (.cons ru .nil), ⟨_, cell2, rfl, _, rfl⟩⟩
    have I2 : Inv X pins σ (upd G s.heap.objs.size (.tup [.int (k : Nat), y])) { s with heap := h2, toks := tk + 1 } :=
      I.turnedNew (ch := [e, it]) (fun b ob nb q => by
        simp only [List.mem_cons, List.not_mem_nil, or_false, not_or] at nb
        exact (sb.2 b nb.1).trans (kp b ob nb.1 nb.2 q)) fps (Nat.le_refl _) new
    refine ⟨.ref s.heap.objs.size, _, I2, rfl, ⟨_, y, rfl, fresh, rfl, fun vs hv => by rw [I.tuple_inj hv hq]; exact hy⟩, ⟨⟨x, ?_⟩, st1.1.at fun o q => (sb.2 it d1.symm).trans q, d1, d2, d3⟩, fun b hb => ?_⟩
    · rw [show ((k + 1 : Nat) : Int) = (k : Int) + 1 by omega]
      exact z4
    · have lb : b < s.heap.objs.size := by
        rcases (by simpa using hb : b = e ∨ b = it) with q | q <;> (rw [q]; assumption)
      rw [upd_ne (Nat.ne_of_lt lb)]
      exact (fps b hb).1
  done := by
    intro X hP hw hK hc k pins s σ G E I fps st hg
    subst hP hw hK
    obtain ⟨⟨old, z1⟩, z2, d1, d2, d3⟩ := st
    obtain ⟨ws, hq, hl⟩ := hg
    obtain ⟨its, rv, pl, _⟩ := I.tuple hq
    have le := rv.length
    obtain ⟨f0, f1, f2, f3, f4, f5⟩ := fps it (by simp)
    have hT : s.TypeIs (.ref e) "enumerate" := ⟨_, z1, rfl⟩
    unfold pyNext
    refine wpAny_bind (wpAny_attempt (wpAny_callSpecial?_slot (name := Str.ofString "__next__") hT F.slot_enumerate_next (wpAny_call_entry F.slot_enumerate_next hT F.entry_enumerate_next ?_ (F.args_enumerate_next_1 _))))
    show wpAny _ _ (field (.ref e) 2 >>= _) _ _ _
    refine wpAny_bind (wpAny_field z1 rfl (x := .ref it) rfl ?_)
    refine wpAny_bind (wpAny_nextOf_tuple_end (in1_handled (I.ok.hd hc)) z2 (show s.heap.IsTuple a its.toArray from pl) (by simp; omega) fun h1 x eb hx => ?_)
    obtain ⟨o, ho, hcl⟩ := hx
    refine wpAny_bind (wpAny_isInstance (T := "StopIteration") (b := true) ⟨o, ho, hcl⟩ isSubtype_stop ?_)
    exact wpAny_pure ⟨rfl, I.turned (t' := s.toks) (fun b o nb q => eb b o nb q) f0 f1 f3 f4 f5⟩
  self := fun A k s Q E st h => by
    obtain ⟨⟨_, z1⟩, _⟩ := st
    exact wpAny_pyIter_enum z1 h
theorem meets_enum1 {v : Value} {o : Obj} {Hh : Heap → Prop} (B : Begins v o Hh) : Meets (Builtin.«enumerate.__new__» ⟨[.type "enumerate", v], []⟩) (fun _ R s => Hh s.heap ∧
    R (.ok (.ret (.ref (s.heap.push o).objs.size))) { s with heap := (s.heap.push o).push { cls := .type "enumerate", data := .fields #[.none, .bool false, .ref s.heap.objs.size, rawInt 0, .none, .none] } }) :=
  .of_wp fun prog w A R s h => by
    obtain ⟨hp, gn, dr, tk, os⟩ := s
    obtain ⟨h1, h⟩ := h
    have hsub := sub_enumerate
    have itr : ∀ {A2 : Around} {E2 : Value → Shared → Prop} {Q2 : Value → Shared → Prop}, Q2 (.ref hp.objs.size) ⟨hp.push o, gn, dr, tk, os⟩ → wpAny (model prog w) A2 (pyIter v) Q2 E2 ⟨hp, gn, dr, tk, os⟩ := fun q => B.iter prog w _ _ ⟨hp, gn, dr, tk, os⟩ _ h1 q
    wp_walk using itr
    refine wpAny_stack_any fun st => wpAny_pure ?_
    split
    · rename_i c _ _ _ _ _
      cases (c == Value.type "enumerate") <;> (wp_walk using itr; exact ⟨_, rfl, h⟩)
    · wp_walk using itr
      exact ⟨_, rfl, h⟩
section
variable {prog : Program} {w : World} {A : Around} {E : Value → Shared → Prop} {s : Shared}
theorem call_enumT {t : Addr} {items : Array Value} {Q : Value → Shared → Prop} (hT : s.heap.IsTuple t items)
    (h : ∀ h1, IsEnum h1 (s.heap.objs.size + 1) s.heap.objs.size 0 .none → h1.IsTupleIter s.heap.objs.size t 0 → (∀ b o, s.heap.get? b = some o → h1.get? b = some o) → Q (.ref (s.heap.objs.size + 1)) { s with heap := h1 }) :
    wpAny (model prog w) A (call (.type "enumerate") [.ref t]) Q E s := by
  refine callType_new F.called_enumerate (by decide) (F.typeCall_enumerate_1 _) (F.newCall_enumerate_1 _) (fun obj => F.args_object_init_2 obj _) F.entry_enumerate_new (meets_enum1 (begins_tuple t items)) ⟨hT, ?_⟩
  have z : (s.heap.push { cls := .type "tuple_iterator", data := .fields #[.ref t, .int 0 0] }).objs.size = s.heap.objs.size + 1 := Heap.size_push ..
  show _ ∧ _
  rw [z]
  have z1 : IsEnum ((s.heap.push { cls := .type "tuple_iterator", data := .fields #[.ref t, .int 0 0] }).push { cls := .type "enumerate", data := .fields #[.none, .bool false, .ref s.heap.objs.size, rawInt 0, .none, .none] }) (s.heap.objs.size + 1) s.heap.objs.size 0 .none := by
    have q := Heap.get?_push_size (s.heap.push { cls := .type "tuple_iterator", data := .fields #[.ref t, .int 0 0] }) (o := { cls := .type "enumerate", data := .fields #[.none, .bool false, .ref s.heap.objs.size, rawInt 0, .none, .none] }) rfl
    rw [z] at q
    exact q
  exact ⟨⟨_, z1, rfl⟩, h _ z1 ⟨_, Heap.get?_push_of_some _ (Heap.get?_push_size _ rfl), rfl, rfl⟩ fun b o y => Heap.get?_push_of_some _ (Heap.get?_push_of_some _ y)⟩
end
theorem iok_enumT {K : PySem.W.Frag} {F : Hp} {a : Addr} {vs : List V} {ds : List PyData} (ha : F a = some (.tup vs)) (h : DqAll F vs ds) : IOk F (Iten K a) (enumD 0 ds) where
  go := fun i H hi s => by
    rw [enumD_len] at hi
    exact ⟨vs, vs[i]'(by rw [dps_len h]; exact hi), .of (s _ _ ha), List.getElem?_eq_getElem _⟩
  stop := fun H s => ⟨vs, .of (s _ _ ha), by rw [enumD_len, dps_len h]; exact Nat.le_refl _⟩
  yld := fun i H x H' G hi s1 s2 y => by
    rw [enumD_len] at hi
    obtain ⟨T, u, e, nT, e', y⟩ := y
    subst e e'
    obtain ⟨v, e1, e2⟩ := dps_get h (List.getElem?_eq_getElem hi)
    have e3 := y vs (.of (s2 _ _ (s1 _ _ ha)))
    rw [e1] at e3
    have e4 : v = u := Option.some.inj e3
    subst e4
    have g := Grow.new (o := .tup [.int (i : Nat), v]) s2 nT
    refine ⟨_, _, enumD_get ds 0 i _ (List.getElem?_eq_getElem hi), g, .tup upd_same (.cons ?_ (.cons (dp_mono g.ff _ _ (dp_mono s1 _ _ e2)) .nil))⟩
    rw [Nat.zero_add]
    exact .int _
def enumOfB : List PyData → Option (List PyData)
  | [.list xs] => some (enumD 0 xs)
  | [.tuple xs] => some (enumD 0 xs)
  | _ => none
def iEnB (f : Dn (List PyData)) : Dn (List PyData) := bnd f fun ds => lft (enumOfB ds)
def tEn (K : PySem.W.Frag) (ta : L2.TA) : L2.TI := fun σ H R => ta σ H fun vs H1 => ∃ a xs, vs = [V.ref a] ∧ ((SqL K H1 a xs ∧ R (Ite K a) H1) ∨ (SqT K H1 a xs ∧ R (Iten K a) H1))
theorem pi_enumB {X : Cx} {e : Expr} {ta : TA} {p pos tpos : Pos} {elts : List Expr} {kk : Nat} (hg : Gl X "enumerate") (hm : X.mg "enumerate" = none) (ha : PA X [e] ta) (hs : starEach [e] X.env = [(false, eval e X.env)] := by rfl) :
    PI X (.Tuple elts kk tpos) (.Call (.Name "enumerate" p) [e] [] pos) (tEn X.K ta) := by
  refine ⟨fun pins s σ H R I h => Call_ (ld_blt I hg hm boot_enumerate (PyProof.Rows.callWith_type1 (thn (ha.run pos pins s σ H _ I h) fun us s1 ⟨vs, H1, I1, r1, q1⟩ => ?_) hs rfl))⟩
  obtain ⟨a, xs, rfl, q⟩ := q1
  cases r1 with
  | cons r rr =>
    cases rr
    cases r
    rcases q with ⟨hq, q⟩ | ⟨hq, q⟩
    · obtain ⟨its, rv, pl, _⟩ := I1.list hq
      refine call_enumerate_list pl.isList fun h1 z1 z2 _ kp => wpAny_pyIter_enum z1 ?_
      have I2 : Inv X pins σ H1 { s1 with heap := h1 } := I1.kept (t' := s1.toks) kp
      refine ⟨s1.heap.objs.size + 1, [s1.heap.objs.size + 1, s1.heap.objs.size], _, _, H1, rfl, I2, turn_enum a (s1.heap.objs.size + 1) s1.heap.objs.size, ⟨⟨.none, z1⟩, z2, Nat.succ_ne_self _⟩, fun b hb => ?_, q⟩
      have le : s1.heap.objs.size ≤ b := by
        rcases (by simpa using hb : b = s1.heap.objs.size + 1 ∨ b = s1.heap.objs.size) with z | z <;> rw [z] <;> first | exact Nat.le_add_right _ _ | exact Nat.le_refl _
      exact I1.fpOk le (I1.hok.fresh le)
    · obtain ⟨its, rv, pl, _⟩ := I1.tuple hq
      have pl' : s1.heap.IsTuple a its.toArray := pl
      have la : a < s1.heap.objs.size := by obtain ⟨o, ho, _⟩ := pl'; exact Heap.lt_size ho
      refine call_enumT pl' fun h1 z1 z2 kp => wpAny_pyIter_enum z1 ?_
      have I2 : Inv X pins σ H1 { s1 with heap := h1 } := I1.kept (t' := s1.toks) kp
      refine ⟨s1.heap.objs.size + 1, [s1.heap.objs.size + 1, s1.heap.objs.size], _, _, H1, rfl, I2, turn_enumT a (s1.heap.objs.size + 1) s1.heap.objs.size, ⟨⟨.none, z1⟩, z2, Nat.succ_ne_self _, Nat.ne_of_lt la, Nat.ne_of_lt (Nat.lt_succ_of_lt la)⟩, fun b hb => ?_, q⟩
      have le : s1.heap.objs.size ≤ b := by
        rcases (by simpa using hb : b = s1.heap.objs.size + 1 ∨ b = s1.heap.objs.size) with z | z <;> rw [z] <;> first | exact Nat.le_add_right _ _ | exact Nat.le_refl _
      exact I1.fpOk le (I1.hok.fresh le)
theorem gi_enumB {X : Cx} {E : XK} {e : Expr} {p pos tpos : Pos} {elts : List Expr} {kk : Nat} {f : Dn (List PyData)} (hg : Gl X "enumerate") (hm : X.mg "enumerate" = none) (ha : PA X [e] (tDs X.K X.mg E f)) (hs : starEach [e] X.env = [(false, eval e X.env)] := by rfl) :
    PI X (.Tuple elts kk tpos) (.Call (.Name "enumerate" p) [e] [] pos) (tI X.K X.mg E (iEnB f)) :=
  pi_wk (pi_enumB hg hm ha hs) fun σ H R ⟨ρ, F, Rl, q⟩ => ⟨ρ, F, Rl, (out_bnd (K := X.K) (F := F) q).mono fun ds ρ1 k vs F1 H1 S1 d1 => by
    obtain ⟨es, he, q2⟩ := out_lft (k _ _ _ S1)
    cases d1 with
    | nil => cases he
    | @cons v vs d ds h1 h2 =>
      cases h2 with
      | cons _ _ => cases d <;> cases he
      | nil =>
        cases h1 with
        | @lst a us xs ha hx =>
          cases he
          exact ⟨a, us, rfl, .inl ⟨.of (S1.rel.sub _ _ ha), q2 _ F1 H1 S1 (iok_enum ha hx)⟩⟩
        | @tup a us xs ha hx =>
          cases he
          exact ⟨a, us, rfl, .inr ⟨.of (S1.rel.sub _ _ ha), q2 _ F1 H1 S1 (iok_enumT ha hx)⟩⟩
        | _ => cases he⟩
end Gx

/-! G19: x, y, z = a, b, c where the last may be a list of one's own. -/
namespace Gx
open PySem PySem.Spec L2
open PyProof.Rows hiding St
theorem rok_putG {ρ ρ1 : Ev} {σ0 σ : St} {H F1 H1 : Hp} {i : Nat} {r t : Rv} {v w : V} (rr : ROk ρ σ0 H ρ1 σ F1 H1 r v) (rt : ROk ρ σ0 H ρ1 σ F1 H1 t w) (ap : ∀ (xs ys : Cn) (p : Addr), r = .oo xs → t = .oo ys → v = .ref p → w = .ref p → False) (hl : i < σ.length) (hl2 : i < ρ1.length) : ROk ρ σ0 H (ρ1.set i r.en) (σ.set i (some v)) F1 H1 t w := by
  cases t with
  | fz d => exact rt
  | oo ys =>
    obtain ⟨p, ws, e, h1, h2, h3, h4, h5⟩ := rt
    refine ⟨p, ws, e, h1, h2, h3, h4, fun z => ?_⟩
    obtain ⟨j, hj, ej⟩ := own_ex z
    by_cases c : j = i
    · subst c
      rw [List.getElem?_set_self hl] at ej
      have ev : v = .ref p := by
        have := Option.some.inj ej
        exact Option.some.inj this
      cases r with
      | fz d =>
        rcases hj with ⟨xs, hj⟩ | ⟨xs, hj⟩ <;> (rw [List.getElem?_set_self hl2] at hj; cases hj)
      | oo xs => exact ap xs ys p rfl rfl ev e
    · rw [List.getElem?_set_ne (Ne.symm c)] at ej
      refine h5 (own_at ?_ ej)
      rcases hj with ⟨xs, hj⟩ | ⟨xs, hj⟩
      · rw [List.getElem?_set_ne (Ne.symm c)] at hj; exact .inl ⟨xs, hj⟩
      · rw [List.getElem?_set_ne (Ne.symm c)] at hj; exact .inr ⟨xs, hj⟩
section
variable {X : Cx} {E : XK} {pos : Pos}
def parL (i j l : Nat) : List Ar → Dn Fl
  | [.fz d, .fz e, c] => fun ρ => match rvA c with
    | some t => if isBl ρ[i]? || (isBl (ρ.set i (.fz d))[j]? || isBl ((ρ.set i (.fz d)).set j (.fz e))[l]?) then .st else .ok (.nx, ((ρ.set i (.fz d)).set j (.fz e)).set l t.en)
    | none => .st
  | _ => fun _ => .st
def sParL (i j l : Nat) (f : Dn (List Ar)) : Dn Fl := bnd f (parL i j l)
end
end Gx

/-! G20: try: several clauses, each with a name or without one. -/
namespace Gx
open PySem PySem.Spec L2
open PyProof.Rows hiding St

def asEnds (D : Ends) (i : Nat) : Ends := { nx := fun τ G => D.nx (τ.set i none) G, rt := D.rt, bk := fun τ G => D.bk (τ.set i none) G, ct := fun τ G => D.ct (τ.set i none) G }
abbrev ClT := Value × Option Nat × (Addr → Value → Option Addr → TS)
def wCl (K : PySem.W.Frag) (Wo : WX) (D : Ends) : List ClT → WX
  | [] => Wo
  | q :: qs => fun cls d σ H => ∃ b, PySem.W.exmOne K cls q.1 = some b ∧ (b = false → wCl K Wo D qs cls d σ H) ∧
      (b = true → ∀ a, H a = none → match q.2.1 with
        | none => q.2.2 a cls d D σ H
        | some i => q.2.2 a cls d (asEnds D i) (σ.set i (some (.ref a))) H)
abbrev SuiteOk (X : Cx) (st : List Stmt) (ts : Addr → Value → Option Addr → TS) : Prop :=
  ∀ (a : Addr) (ob : Obj) (cls : Value) (d : Option Addr) (pl : List (Addr × Obj)), Zc cls d ob → (∃ fs, ob.data = .fields fs) → PSs (X.suite a ((a, ob) :: pl)) st (ts a cls d)
inductive ClsOk (X : Cx) : List ExceptHandler → List ClT → Prop
  | nil : ClsOk X [] []
  | bare {y : Str} {c : Value} {ts : Addr → Value → Option Addr → TS} {st : Stmt} {sts : List Stmt} {p p' : Pos} {hds : List ExceptHandler} {l : List ClT} (hc : Names X y c) (hu : SuiteOk X (st :: sts) ts) (r : ClsOk X hds l) : ClsOk X (.ExceptHandler (some (.Name y p)) none (st :: sts) p' :: hds) ((c, none, ts) :: l)
  | named {y n : Str} {i : Nat} {c : Value} {ts : Addr → Value → Option Addr → TS} {st : Stmt} {sts : List Stmt} {p p' : Pos} {hds : List ExceptHandler} {l : List ClT} (nd : X.N.Nodup) (hn : X.N[i]? = some n) (hl : X.env.kindOf n = some .local) (hc : Names X y c) (hu : SuiteOk X (st :: sts) ts) (r : ClsOk X hds l) :
      ClsOk X (.ExceptHandler (some (.Name y p)) (some n) (st :: sts) p' :: hds) ((c, some i, ts) :: l)
section
variable {X : Cx}
structure Ground (X : Cx) (B : Heap) (pins : List (Addr × Obj)) (σ : St) (H : Hp) (a : Addr) (cls : Value) (d : Option Addr) (s : Shared) : Prop where
  ok : X.Ok
  fly : HandSPX.FlyingZ B (X.env :: X.outer) a (Zc cls d) s.heap
  inv : ∀ (h : Heap) (ob : Obj) (fs : Array Value), s.heap.UpToSlots h → HandSPX.FlyingZ B (X.env :: X.outer) a (Zc cls d) h → h.get? a = some ob → ob.data = .fields fs → L2.Inv (X.suite a ((a, ob) :: (X.pn ++ pins))) [] σ H { s with heap := h }
  na : H a = none
variable {B : Heap} {pins : List (Addr × Obj)} {σ : St} {H : Hp} {a : Addr} {cls : Value} {d : Option Addr} {s : Shared} {D : Ends}
theorem Ground.left (g : Ground X B pins σ H a cls d s) {ob : Obj} {σ' : St} {H' : Hp} {s' : Shared} (I : L2.Inv (X.suite a ((a, ob) :: (X.pn ++ pins))) [] σ' H' s') : L2.Inv X pins σ' H' s' := I.unsuite g.ok
theorem Ground.bare (g : Ground X B pins σ H a cls d s) {st : Stmt} {sts : List Stmt} {p : Pos} {ts : Addr → Value → Option Addr → TS} (hu : SuiteOk X (st :: sts) ts) (w : ts a cls d D σ H) {R : Result → Shared → Prop}
    (hR : ∀ (f : Flow) (s' : Shared), SP X pins D f s' → R (.ok f) s') : codeAny (model X.prog X.w) (X.A.mark (some (.ref a))) (.handlers (.ref a) [.ExceptHandler none none (st :: sts) p] X.env) R s := by
  refine codeAny_handlers_suite (HandSPX.lands_againZ g.fly fun h2 f2 u2 => ?_)
  obtain ⟨ob, fs, e, z, hd⟩ := f2.there
  have I := g.inv h2 ob fs u2 f2 e hd
  refine wpAny_mono ((hu a ob cls d (X.pn ++ pins) z ⟨_, hd⟩).run [] _ _ H _ I w) (fun fl s2 q => hR fl s2 ?_) (fun _ _ no => no.elim)
  cases fl with
  | ret u =>
    obtain ⟨v, τ, G, J, ru, k⟩ := q
    exact ⟨v, τ, G, g.left J, ru, k⟩
  | next => obtain ⟨τ, G, J, k⟩ := q; exact ⟨τ, G, g.left J, k⟩
  | brk => obtain ⟨τ, G, J, k⟩ := q; exact ⟨τ, G, g.left J, k⟩
  | cont => obtain ⟨τ, G, J, k⟩ := q; exact ⟨τ, G, g.left J, k⟩
theorem Ground.named (g : Ground X B pins σ H a cls d s) {n : Str} {i : Nat} {st : Stmt} {sts : List Stmt} {p : Pos} {ts : Addr → Value → Option Addr → TS} (nd : X.N.Nodup) (hn : X.N[i]? = some n) (hl : X.env.kindOf n = some .local) (hu : SuiteOk X (st :: sts) ts)
    (w : ts a cls d (asEnds D i) (σ.set i (some (.ref a))) H) {R : Result → Shared → Prop} (hR : ∀ (f : Flow) (s' : Shared), wpAny (model X.prog X.w) X.A (do bindName X.env n .none; unbindBehindTheSuite X.env n p) (fun _ s2 => SP X pins D f s2) X.xe s' → R (.ok f) s') :
    codeAny (model X.prog X.w) (X.A.mark (some (.ref a))) (.handlers (.ref a) [.ExceptHandler none (some n) (st :: sts) p] X.env) R s := by
  refine codeAny_handlers_suite_as (HandSPX.lands_againZ g.fly fun h2 f2 u2 => ?_)
  obtain ⟨ob, fs, e, z, hd⟩ := f2.there
  have I := g.inv h2 ob fs u2 f2 e hd
  refine store_ok (X := X.suite a ((a, ob) :: (X.pn ++ pins))) (v := .ref a) I nd hn (.inl hl) rfl (fun s2 I2 => ?_) (.inr hl)
  refine wpAny_mono ((hu a ob cls d (X.pn ++ pins) z ⟨_, hd⟩).run [] _ _ H _ I2 w) (fun fl s3 q => hR fl s3 ?_) (fun _ _ no => no.elim)
  cases fl with
  | ret u =>
    obtain ⟨v, τ, G, J, ru, k⟩ := q
    exact gone_ok (g.left J) nd hn hl fun s4 J4 => ⟨v, _, G, J4, ru, k⟩
  | next => obtain ⟨τ, G, J, k⟩ := q; exact gone_ok (g.left J) nd hn hl fun s4 J4 => ⟨_, G, J4, k⟩
  | brk => obtain ⟨τ, G, J, k⟩ := q; exact gone_ok (g.left J) nd hn hl fun s4 J4 => ⟨_, G, J4, k⟩
  | cont => obtain ⟨τ, G, J, k⟩ := q; exact gone_ok (g.left J) nd hn hl fun s4 J4 => ⟨_, G, J4, k⟩
theorem Ground.asks (g : Ground X B pins σ H a cls d s) {y : Str} {c : Value} {b : Bool} {p p' : Pos} (hc : Names X y c) (e1 : PySem.W.exmOne X.K cls c = some b) {R : Result → Shared → Prop} (q : R (.ok (if b then .brk else .next)) s) :
    codeAny (model X.prog X.w) (X.A.mark (some (.ref a))) (.handlers (.ref a) [.ExceptHandler (some (.Name y p)) none [] p'] X.env) R s := by
  obtain ⟨ob, fs, e, z, hd⟩ := g.fly.there
  have I := g.inv s.heap ob fs (Heap.UpToSlots.refl _) g.fly e hd
  have LC : PySem.W.Looks (model X.prog X.w) s.heap (typeOf (.ref a)) cls := fun A' Q' E' s' k z' => wpAny_typeOf_ref (k _ _ e) (by rw [z.1]; exact z')
  have LX := PySem.W.exm_one (M := model X.prog X.w) I.kIn LC e1
  refine codeAny_handlers_test ?_
  obtain ⟨hg, nb, hm | ⟨hm, hv, hq⟩⟩ := hc
  · exact ld_glob (X := X.suite a ((a, ob) :: (X.pn ++ pins))) I hg hm (LX.here q) nb
  · exact ld_blt (X := X.suite a ((a, ob) :: (X.pn ++ pins))) I hg hm hv (LX.here q) hq nb
theorem Ground.all {Wo : WX} (g : Ground X B pins σ H a cls d s) (out : Wo cls d σ H → wpAny (model X.prog X.w) X.A (passOn "try.no-clause-matches" (.ref a) X.env : Sem Flow) (SP X pins D) X.xe s) :
    ∀ {hds : List ExceptHandler} {l : List ClT}, ClsOk X hds l → wCl X.K Wo D l cls d σ H → wpAny (model X.prog X.w) X.A (handleBy (.ref a) X.env hds) (SP X pins D) X.xe s := by
  intro hds l k
  induction k with
  | nil => exact fun w => wpAny_handleBy_nil (out w)
  | bare hc hu r ih =>
    rintro ⟨b, e1, no, yes⟩
    refine wpAny_handleBy_cons (g.asks hc e1 ?_) (fun z => nomatch z)
    cases b with
    | false => exact ih (no rfl)
    | true => exact g.bare hu (yes rfl a g.na) fun _ _ z => z
  | named nd hn hl hc hu r ih =>
    rintro ⟨b, e1, no, yes⟩
    refine wpAny_handleBy_cons (g.asks hc e1 ?_) (fun z => nomatch z)
    cases b with
    | false => exact ih (no rfl)
    | true => exact g.named nd hn hl hu (yes rfl a g.na) fun _ _ z => z
end
section
variable {X : Cx} {body : List Stmt} {h1 : ExceptHandler} {hds : List ExceptHandler} {l : List ClT} {pos : Pos} {tb : WX → TS} {Wo : WX}
end
end Gx

/-! G21: try, over data. -/
namespace Gx
open PySem PySem.Spec L2
open PyProof.Rows hiding St

inductive XI where
  | c (d : PyData)
  | num (nms : List Str)
  | is (tb : List (Str × Bool))
inductive XF where
  | one (x : XI)
  | lst (xs : List XI)
  | tup (xs : List XI)
inductive XA where
  | ret (f : XF)
  | set (j : Nat) (f : XF)
def XI.val (e : Ex) : XI → Option PyData
  | .c d => some d
  | .num nms => if nms.any (· == e.cls) then e.arg.map .int else none
  | .is tb => (tb.lookup e.cls).map .bool
def valsX (e : Ex) : List XI → Option (List PyData)
  | [] => some []
  | x :: xs => (x.val e).bind fun d => (valsX e xs).map (d :: ·)
def XF.val (e : Ex) : XF → Option Rv
  | .one x => (x.val e).map .fz
  | .lst xs => (valsX e xs).bind fun ds => if okLen ds.length then some (.ol ds) else none
  | .tup xs => (valsX e xs).bind fun ds => if okLen ds.length then some (.fz (.tuple ds)) else none
def XA.fl (e : Ex) (n : Nat) : XA → Rs (Fl × Ev)
  | .ret f => match f.val e with
    | none => .st
    | some r => .ok (.rt r, List.replicate n .no)
  | .set j f => match f.val e with
    | none => .st
    | some r => if j < n then .ok (.nx, (List.replicate n .no).set j r.en) else .st
abbrev XC := List (Str × Bool) × XA
def hdlX (n : Nat) (e : Ex) : List XC → Rs (Fl × Ev)
  | [] => .ex e
  | q :: qs => match q.1.lookup e.cls with
    | none => .st
    | some false => hdlX n e qs
    | some true => q.2.fl e n
def isOwnE : En → Bool
  | .oo _ => true
  | .bo _ => true
  | _ => false
def noOwn (ρ : Ev) : Bool := ρ.all fun e => !isOwnE e
def sTry (n : Nat) (hs : List XC) (fb : Dn Fl) : Dn Fl := fun ρ => match fb ρ with
  | .ex e => if noOwn ρ && ρ.length == n then hdlX n e hs else .st
  | .st => .st
  | .ok r => .ok r

/-! ### what stands in the suite -/
def F0 : Hp := fun _ => none
inductive XJ where
  | c (d : PyData)
  | num
  | is (u : Value)
def SlotA (i : Nat) (a : Addr) (σ : St) : Prop := σ[i]? = some (some (.ref a))
def IV (K : PySem.W.Frag) (i : Nat) (a : Addr) (cls : Value) (d : Option Addr) (σ : St) (H : Hp) : XJ → V → Prop
  | .c x, v => Dq F0 v x
  | .num, v => SlotA i a σ ∧ ∃ C dd n, v = .int n ∧ cls = .ref C ∧ XCl K C ∧ PySem.W.findIn K (.ref C) "number" = some none ∧ d = some dd ∧ H dd = some (.xd [(("number" : Str), .int n)])
  | .is u, v => SlotA i a σ ∧ ∃ C b, v = .bl b ∧ cls = .ref C ∧ XCl K C ∧ PySem.W.kitOne K (.ref C) u = some b ∧ ∀ dd, d = some dd → ∃ fs, H dd = some (.xd fs)
inductive IVs (K : PySem.W.Frag) (i : Nat) (a : Addr) (cls : Value) (d : Option Addr) (σ : St) (H : Hp) : List XJ → List V → Prop
  | nil : IVs K i a cls d σ H [] []
  | cons {x : XJ} {v : V} {xs : List XJ} {vs : List V} (h : IV K i a cls d σ H x v) (r : IVs K i a cls d σ H xs vs) : IVs K i a cls d σ H (x :: xs) (v :: vs)
theorem IVs.len {K : PySem.W.Frag} {i : Nat} {a : Addr} {cls : Value} {d : Option Addr} {σ : St} {H : Hp} {xs : List XJ} {vs : List V} (h : IVs K i a cls d σ H xs vs) : vs.length = xs.length := by
  induction h with
  | nil => rfl
  | cons _ _ ih => simp [ih]
section
variable {X : Cx} {i : Nat}
abbrev InSuite (X : Cx) (P : Cx → Addr → Obj → Value → Option Addr → Prop) : Prop := ∀ (a : Addr) (ob : Obj) (cls : Value) (d : Option Addr) (pl : List (Addr × Obj)), Zc cls d ob → (∃ fs, ob.data = .fields fs) → P (X.suite a ((a, ob) :: pl)) a ob cls d
def JOk (X : Cx) (i : Nat) (e : Expr) (x : XJ) : Prop := InSuite X fun Y a _ cls d => PE Y e fun σ H Q => ∃ v, IV X.K i a cls d σ H x v ∧ Q v H
def rIsY (K : PySem.W.Frag) (a : Addr) (cls : Value) (d : Option Addr) : List V → Hp → VK → Prop := fun xs H Q => ∃ c u C b, xs = [.ref a, c] ∧ ClsV c u ∧ cls = .ref C ∧ XCl K C ∧ PySem.W.kitOne K (.ref C) u = some b ∧ (∀ dd, d = some dd → ∃ fs, H dd = some (.xd fs)) ∧ Q (.bl b) H
def JsOk (X : Cx) (i : Nat) (es : List Expr) (xs : List XJ) : Prop := InSuite X fun Y a _ cls d => PA Y es fun σ H Q => ∃ vs, IVs X.K i a cls d σ H xs vs ∧ Q vs H
inductive JF where
  | one (x : XJ)
  | lst (xs : List XJ)
  | tup (xs : List XJ)
def FV (K : PySem.W.Frag) (i : Nat) (a : Addr) (cls : Value) (d : Option Addr) (σ : St) (H : Hp) (Q : VK) : JF → Prop
  | .one x => ∃ v, IV K i a cls d σ H x v ∧ Q v H
  | .lst xs => ∃ vs, IVs K i a cls d σ H xs vs ∧ vs.length ≤ sizeLine ∧ ∀ p, H p = none → Q (.ref p) (upd H p (.lst vs))
  | .tup xs => ∃ vs, IVs K i a cls d σ H xs vs ∧ vs.length ≤ sizeLine ∧ ∀ p, H p = none → Q (.ref p) (upd H p (.tup vs))
def FOk (X : Cx) (i : Nat) (e : Expr) (f : JF) : Prop := InSuite X fun Y a _ cls d => PE Y e fun σ H Q => FV X.K i a cls d σ H Q f
/-! ### both together -/
def TbIs (X : Cx) (tb : List (Str × Bool)) (u : Value) : Prop := ∀ q ∈ tb, ∀ cls, X.mg q.1 = some cls → ∃ C, cls = .ref C ∧ XCl X.K C ∧ PySem.W.kitOne X.K cls u = some q.2
def TbEx (X : Cx) (tb : List (Str × Bool)) (c : Value) : Prop := ∀ q ∈ tb, ∀ cls, X.mg q.1 = some cls → PySem.W.exmOne X.K cls c = some q.2
def TbNum (X : Cx) (nms : List Str) : Prop := ∀ y ∈ nms, ∀ cls, X.mg y = some cls → ∃ C, cls = .ref C ∧ XCl X.K C ∧ PySem.W.findIn X.K (.ref C) "number" = some none
inductive XI.as (X : Cx) : XI → XJ → Prop
  | c (d : PyData) (h : ∃ v, Dq F0 v d) : XI.as X (.c d) (.c d)
  | num {nms : List Str} (h : TbNum X nms) : XI.as X (.num nms) .num
  | is {tb : List (Str × Bool)} {u : Value} (h : TbIs X tb u) : XI.as X (.is tb) (.is u)
inductive XI.ass (X : Cx) : List XI → List XJ → Prop
  | nil : XI.ass X [] []
  | cons {x : XI} {y : XJ} {xs : List XI} {ys : List XJ} (h : x.as X y) (r : XI.ass X xs ys) : XI.ass X (x :: xs) (y :: ys)
inductive XF.as (X : Cx) : XF → JF → Prop
  | one {x : XI} {y : XJ} (h : x.as X y) : XF.as X (.one x) (.one y)
  | lst {xs : List XI} {ys : List XJ} (h : XI.ass X xs ys) : XF.as X (.lst xs) (.lst ys)
  | tup {xs : List XI} {ys : List XJ} (h : XI.ass X xs ys) : XF.as X (.tup xs) (.tup ys)
variable {ρ : Ev} {σ σ' : St} {F H H' : Hp} {e : Ex} {cls : Value} {d : Option Addr} {a : Addr}
def JF.plain : JF → Prop
  | .one y => ∃ t, y = .c t
  | .lst ys => ∀ y ∈ ys, ∃ t, y = .c t
  | .tup ys => ∀ y ∈ ys, ∃ t, y = .c t
end
end Gx

/-! G22: try, over data: the suites, and the whole. -/
namespace Gx
open PySem PySem.Spec L2
open PyProof.Rows hiding St
def tsRet (K : PySem.W.Frag) (i : Nat) (f : JF) (a : Addr) (cls : Value) (d : Option Addr) : TS := fun D σ H => FV K i a cls d σ H (fun v G => D.rt v G) f
def tsSet (K : PySem.W.Frag) (i j : Nat) (f : JF) (a : Addr) (cls : Value) (d : Option Addr) : TS := fun D σ H => FV K i a cls d σ H (fun v G => D.nx (σ.set j (some v)) G) f
section
variable {X : Cx} {i : Nat} {pos : Pos}
inductive XA.asN (X : Cx) (i : Nat) : XA → (Addr → Value → Option Addr → TS) → Prop
  | ret {f : XF} {g : JF} (h : f.as X g) : XA.asN X i (.ret f) (tsRet X.K i g)
  | set {j : Nat} {f : XF} {g : JF} (n : j ≠ i) (h : f.as X g) : XA.asN X i (.set j f) (tsSet X.K i j g)
inductive XA.asB (X : Cx) : XA → (Addr → Value → Option Addr → TS) → Prop
  | ret {f : XF} {g : JF} (h : f.as X g) (p : g.plain) : XA.asB X (.ret f) (tsRet X.K 0 g)
  | set {j : Nat} {f : XF} {g : JF} (h : f.as X g) (p : g.plain) : XA.asB X (.set j f) (tsSet X.K 0 j g)
inductive HsX (X : Cx) : List XC → List ClT → Prop
  | nil : HsX X [] []
  | bare {tb : List (Str × Bool)} {A : XA} {c : Value} {ts : Addr → Value → Option Addr → TS} {hs : List XC} {l : List ClT} (ht : TbEx X tb c) (ha : A.asB X ts) (r : HsX X hs l) : HsX X ((tb, A) :: hs) ((c, none, ts) :: l)
  | named {tb : List (Str × Bool)} {A : XA} {c : Value} {i : Nat} {ts : Addr → Value → Option Addr → TS} {hs : List XC} {l : List ClT} (hi : i < X.N.length) (ht : TbEx X tb c) (ha : A.asN X i ts) (r : HsX X hs l) : HsX X ((tb, A) :: hs) ((c, some i, ts) :: l)
variable {K : PySem.W.Frag} {mg : Str → Option Value} {E : XK} {ρ ρ' : Ev} {σ σ' : St} {F H H' F1 H1 : Hp} {e : Ex} {cls : Value} {d : Option Addr} {a : Addr}
abbrev GoOn (K : PySem.W.Frag) (ρ : Ev) (σ : St) (F H : Hp) (D : Ends) (fl : Fl) (ρ' : Ev) : Prop := match fl with
  | .nx => ∀ σ' F' H', Stp K ρ σ F H ρ' σ' F' H' → D.nx σ' H'
  | .bk => ∀ σ' F' H', Stp K ρ σ F H ρ' σ' F' H' → D.bk σ' H'
  | .ct => ∀ σ' F' H', Stp K ρ σ F H ρ' σ' F' H' → D.ct σ' H'
  | .rt r => ∀ σ' v F' H', Stp K ρ σ F H ρ' σ' F' H' → ROk ρ σ H ρ' σ' F' H' r v → D.rt v H'
variable {D : Ends}
abbrev EW (n : Nat) (W : WX) : XK := fun cls d H => ∀ σ : St, σ.length = n → W cls d σ H
end
end Gx

/-! G23: classes by their names. -/
namespace Gx
open PySem PySem.Spec L2
open PyProof.Rows hiding St
def clsA (mg : Str → Option Value) (x : Str) : Addr := match mg x with
  | some (.ref C) => C
  | _ => 0
end Gx

/-! G24: a tuple again and again; the greatest of a list. -/
namespace Gx
open PySem PySem.Spec L2
open PyProof.Rows hiding St
section
variable {X : Cx} {E : XK}
def mulTD (d e : PyData) : Option Rv := match d, e with
  | .tuple xs, .int k => if !xs.isEmpty && decide (2 ≤ k ∧ k ≤ 1000 ∧ xs.length ≤ 1000) then some (.fz (.tuple (List.replicate k.toNat xs).flatten)) else none
  | _, _ => none
def mostL : List Int → Option Int
  | [] => none
  | [n] => some n
  | n :: ns => (mostL ns).map fun m => if n < m then m else n
theorem mostL_ok : ∀ {ns : List Int} {m : Int}, mostL ns = some m → m ∈ ns ∧ ∀ y ∈ ns, y ≤ m
  | [], _, h => by cases h
  | [n], m, h => by cases h; simp
  | n :: k :: ns, m, h => by
    obtain ⟨l, h1, h2⟩ := Option.map_eq_some_iff.mp (show (mostL (k :: ns)).map (fun m => if n < m then m else n) = some m from h)
    obtain ⟨i1, i2⟩ := mostL_ok h1
    by_cases c : n < l
    · rw [if_pos c] at h2
      subst h2
      refine ⟨List.mem_cons_of_mem _ i1, fun y hy => ?_⟩
      rcases List.mem_cons.mp hy with rfl | hy
      · omega
      · exact i2 y hy
    · rw [if_neg c] at h2
      subst h2
      refine ⟨List.mem_cons_self, fun y hy => ?_⟩
      rcases List.mem_cons.mp hy with rfl | hy
      · omega
      · have := i2 y hy; omega
def max2D : List PyData → Option Rv
  | [.int i, .int j] => fI (if j > i then j else i)
  | [.list xs] => ((intsD xs).bind mostL).bind fI
  | _ => none
theorem call_max2D (hc : X.calm = true) : CallD X (.builtin "max") max2D := callR_wk ((call_max2 hc).or (cr_max hc)) fun xs H Q h => by
  obtain ⟨F, ds, r, s, h1, hr, q⟩ := h
  cases h1 with
  | nil => cases hr
  | cons h1 h2 =>
    cases h2 with
    | nil =>
      cases h1 with
      | @lst a vs xs ha hx =>
        obtain ⟨m, e1, e2⟩ := Option.bind_eq_some_iff.mp (show ((intsD xs).bind mostL).bind fI = some r from hr)
        obtain ⟨ns, e3, e4⟩ := Option.bind_eq_some_iff.mp e1
        cases e2
        have e := dqs_intsD hx e3
        subst e
        obtain ⟨m1, m2⟩ := mostL_ok e4
        refine .inr ⟨a, ns, rfl, .of (s _ _ ha), List.length_pos_of_mem m1, fun k k1 k2 => ?_⟩
        have : k = m := by have := k2 m m1; have := m2 k k1; omega
        subst this
        exact q _ F H (Grow.refl s) (.int _)
      | _ => cases hr
    | cons h3 h4 =>
      cases h4 with
      | cons _ _ => cases h1 <;> cases h3 <;> cases hr
      | nil =>
        cases h1 with
        | int i =>
          cases h3 with
          | int j => cases hr; exact .inl ⟨i, j, rfl, q _ F H (Grow.refl s) (.int _)⟩
          | _ => cases hr
        | _ => cases h3 <;> cases hr
def isNotND (d e : PyData) : Option Rv := match e with
  | .none => fB (!isNone d)
  | _ => none
end
end Gx

set_option maxHeartbeats 0
/-! G25: what the text's top has written of classes. -/
namespace Gx
open PySem PySem.Spec L2
open PyProof.Rows hiding St
def adr (K : PySem.W.Frag) (x : Str) : Addr := match PySem.W.nsIn K mainGlobals x with
  | some (some (.ref C)) => C
  | _ => 0
def xclB (K : PySem.W.Frag) (C : Addr) : Bool := (PySem.W.clsIn K C).isSome && (decide (PySem.W.findIn K (Value.ref C) "__getattribute__" = some (some (Value.builtin "BaseException.__getattribute__"))) && (decide (PySem.W.findIn K (Value.ref C) "__getattr__" = some none) && (decide (PySem.W.subIn K (Value.ref C) (Value.type "BaseException") = some true) && (PySem.W.hasDictIn K C && (decide (PySem.W.findIn K (Value.ref C) "__class__" = some (some (Value.builtin "object.__class__"))) && (decide (PySem.W.specialIn K (Value.builtin "object.__class__") "__get__" = some (some (Value.builtin "getset_descriptor.__get__"))) && (decide (PySem.W.takesIn K (Value.builtin "object.__class__") = some true) && decide (PySem.W.mroIn K C (Value.type "object") = some true))))))))
def clB (K : PySem.W.Frag) (x : Str) : Bool := decide (PySem.W.nsIn K mainGlobals x = some (some (.ref (adr K x)))) && (xclB K (adr K x) && (decide (PySem.W.subIn K (.ref (adr K x)) (.type "BaseException") = some true) && decide (PySem.W.typeIn K (.ref (adr K x)) = some (.type "type"))))
def hiB (K : PySem.W.Frag) (B I : String) : Bool := match PySem.W.findCls K (Value.type B) (Value.type "type") "__init__" with
  | some (PySem.W.CFound.val v) => decide (v = Value.builtin I)
  | _ => false
def ownB (K : PySem.W.Frag) (C f : Addr) (bm : List Value) : Bool := PySem.W.excOver K C bm && (decide (PySem.W.findIn K (Value.ref C) "__setattr__" = some (some (Value.builtin "object.__setattr__"))) && (PySem.W.keepIn K (Value.ref C) && (decide (PySem.W.findIn K (Value.ref C) "__init__" = some (some (.ref f))) && (decide (PySem.W.typeIn K (.ref f) = some (.type "function")) && (PySem.W.keepIn K (.ref f) && decide (PySem.W.findIn K (Value.ref C) "number" = some none))))))
def OwnC (K : PySem.W.Frag) (mg : Str → Option Value) (x : Str) : Prop := ∃ C, PySem.W.nsIn K mainGlobals x = some (some (.ref C)) ∧ MkAt K mg C ∧ PySem.W.findIn K (Value.ref C) "number" = some none
structure ClAt (K : PySem.W.Frag) (mg : Str → Option Value) (x : Str) : Prop where
  at' : mg x = some (.ref (adr K x))
  a : clsA mg x = adr K x
  xc : XCl K (adr K x)
  sb : PySem.W.subIn K (.ref (adr K x)) (.type "BaseException") = some true
  ty : PySem.W.typeIn K (.ref (adr K x)) = some (.type "type")
theorem ClAt.g {K : PySem.W.Frag} {mg : Str → Option Value} {x : Str} (c : ClAt K mg x) : mg x = some (.ref (clsA mg x)) := by rw [c.a]; exact c.at'
theorem ClAt.r {K : PySem.W.Frag} {mg : Str → Option Value} {x : Str} (c : ClAt K mg x) : PySem.W.subIn K (.ref (clsA mg x)) (.type "BaseException") = some true ∧ PySem.W.typeIn K (.ref (clsA mg x)) = some (.type "type") := by rw [c.a]; exact ⟨c.sb, c.ty⟩
theorem ClAt.num {K : PySem.W.Frag} {mg : Str → Option Value} {x : Str} (c : ClAt K mg x) (f : PySem.W.findIn K (.ref (adr K x)) "number" = some none) (cls : Value) (hc : mg x = some cls) : ∃ C, cls = .ref C ∧ XCl K C ∧ PySem.W.findIn K (.ref C) "number" = some none := by
  have e := hc.symm.trans c.at'
  cases e
  exact ⟨_, rfl, c.xc, f⟩
def exB (K : PySem.W.Frag) (u : Value) (l : List (Str × Bool)) : Bool := l.all fun q => decide (PySem.W.exmOne K (.ref (adr K q.1)) u = some q.2)
def kitB (K : PySem.W.Frag) (u : Value) (l : List (Str × Bool)) : Bool := l.all fun q => decide (PySem.W.kitOne K (.ref (adr K q.1)) u = some q.2)
end Gx

namespace Sh
open PySem PySem.Spec L2 Gx
open PyProof.Rows hiding St
abbrev w_WRITES : List Str := ["put", "strike"]
def b_refuse : Dn Fl := (sSeq (sFor (iArg 1) (hName 5) (sIf (dNotT (dChT leD ltD (dC (.int 0)) (dName 5) (dPeek 0 (dC (.int 0))))) (sRaise "NoPlace" (dName 5)) sNx))
  (sSeq (sFor (iArg 2) (hName 6) (sIf (dNotT (dChT leD leD (dC (.int 0)) (dName 6) (frz (dCall lenD (dCons (dPeek 0 (dC (.int 2))) dNil))))) (sRaise "NoMoment" (dName 6)) sNx))
  (sSeq (sFor (iArg 3) (hName 7) (sIf (dNotT (dChT leD ltD (dC (.int 0)) (dName 7) (frz (dCall lenD (dCons (dPeek 0 (dC (.int 2))) dNil))))) (sRaise "NoDeed" (dName 7)) sNx))
  (sFor (iArg 4) (hName 8) (sIf (dCmpT ltD (dName 8) (dC (.int 1))) (sRaise "NoVersion" (dName 8)) sNx)))))
def den_refuse : Den := runF 5 9 b_refuse
def b_is_write : Dn Fl := (sRet (ofD (dUn (inG w_WRITES) (dPeek 0 (dC (.int 0))))))
def den_is_write : Den := runF 1 1 b_is_write
def b_write_numbers : Dn Fl := (sRet (dCall tupleD (dCons (frz (dComp (iEnB (dCons (dName 0) dNil)) (hTup 2 (hCons (hName 1) (hCons (hName 2) hNil))) (dTru (frz (dFn (den_is_write) (aCons (ofD (dName 2)) aNil)))) (dName 1) [1, 2])) dNil)))
def den_write_numbers : Den := runF 1 3 b_write_numbers
def b_writes_from : Dn Fl := (sRet (dCall tupleD (dCons (frz (dComp (iSeq (frz (dFn (den_write_numbers) (aCons (ofD (dName 0)) aNil)))) (hName 2) (dCmpT geD (frz (dBin ixD (dPeek 0 (dName 2)) (dC (.int 2)))) (dName 1)) (dName 2) [2])) dNil)))
def den_writes_from : Den := runF 2 3 b_writes_from
def b_mask_of : Dn Fl := (sSeq (sSet 1 (ofD (dC (.int 0))))
  (sSeq (sFor (iSeq (dName 0)) (hName 2) (sSet 1 (dBin borD (dName 1) (frz (dBin shlD (dC (.int 1)) (dName 2))))))
  (sRet (dMove 1))))
def den_mask_of : Den := runF 1 3 b_mask_of
def b_masks_of : Dn Fl := (sRet (dComp (iSeq (dName 0)) (hName 1) yesT (frz (dFn (den_mask_of) (aCons (ofD (dName 1)) aNil))) [1]))
def den_masks_of : Den := runF 1 2 b_masks_of
def b_has_place : Dn Fl := (sRet (dBin eqD (frz (dBin bandD (frz (dBin shrD (dName 0) (dName 1))) (dC (.int 1)))) (dC (.int 1))))
def den_has_place : Den := runF 2 2 b_has_place
def b_frozen (self : Den) : Dn Fl := (sSeq (sIf (dTru (dUn (isi2D .lst .tup) (dName 0))) (sRet (dCall tupleD (dCons (frz (dComp (iSeq (dName 0)) (hName 1) yesT (frz (dFn self (aCons (ofD (dName 1)) aNil))) [1])) dNil))) sNx)
  (sRet (dMove 0)))
def den_frozen : Nat → Den
  | 0 => fun _ => .st
  | n + 1 => runF 1 2 (b_frozen (den_frozen n))
def b_mask_ahead : Dn Fl := (sSeq (sIf (dAndT (dCmpT eqD (dPeek 0 (dC (.int 0))) (dC (.str "copy"))) (dTru (frz (dFn (den_has_place) (aCons (ofD (dName 1)) (aCons (ofD (dPeek 0 (dC (.int 3)))) aNil)))))) (sRet (dBin borD (dName 1) (frz (dBin shlD (dC (.int 1)) (dPeek 0 (dC (.int 2))))))) sNx)
  (sSeq (sIf (dCmpT eqD (dPeek 0 (dC (.int 0))) (dC (.str "lose"))) (sRet (dBin bandD (dName 1) (dUn invD (frz (dBin shlD (dC (.int 1)) (dPeek 0 (dC (.int 2)))))))) sNx)
  (sRet (dMove 1))))
def den_mask_ahead : Den := runF 2 2 b_mask_ahead
def b_past_masks : Dn Fl := (sSeq (sSet 3 (dLst (dCons (dName 1) dNil)))
  (sSeq (sFor (iRv1 (dName 2)) (hName 4) (sApp 3 (frz (dFn (den_mask_ahead) (aCons (ofD (dPeek 0 (dName 4))) (aCons (ofD (dPeek 3 (dUn negD (dC (.int 1))))) aNil))))))
  (sRet (dRevL (dName 3)))))
def den_past_masks : Den := runF 3 5 b_past_masks
def b_quiet : Dn Fl := (sSeq (sSet 2 (dLst dNil))
  (sSeq (sSet 3 (ofD (dC (.int 0))))
  (sSeq (sFor (iSeq (dName 0)) (hName 4) (sIf (dTru (frz (dFn (den_is_write) (aCons (ofD (dName 4)) aNil)))) (sSeq (sApp 2 (dTup (dCons (dPeek 1 (dName 3)) (dCons (dTup dNil) dNil))))
  (sSet 3 (dBin addD (dName 3) (dC (.int 1))))) (sApp 2 (dTup dNil))))
  (sRet (dCall tupleD (dCons (dName 2) dNil))))))
def den_quiet : Den := runF 2 5 b_quiet
def b_masks_behind : Dn Fl := (sRet (dFn (den_past_masks) (aCons (ofD (dPeek 0 (dC (.int 2)))) (aCons (ofD (frz (dFn (den_mask_of) (aCons (ofD (dName 1)) aNil)))) (aCons (ofD (frz (dCall lenD (dCons (dPeek 0 (dC (.int 2))) dNil)))) aNil)))))
def den_masks_behind : Den := runF 2 2 b_masks_behind
def b_first_free : Dn Fl := (sSeq (sFor (iEnB (dCons (dName 0) dNil)) (hTup 2 (hCons (hName 2) (hCons (hName 3) hNil))) (sIf (dCmpT eqD (frz (dBin bandD (dName 3) (dName 1))) (dC (.int 0))) (sRet (dMove 2)) sNx))
  (sRet (ofD (dC .none))))
def den_first_free : Den := runF 2 4 b_first_free
def b_offers_from : Dn Fl := (sRet (dComp (iSeq (frz (dFn (den_writes_from) (aCons (ofD (dName 0)) (aCons (ofD (dName 1)) aNil))))) (hName 2) yesT (dTup (dCons (dName 2) (dCons (frz (dFn (den_masks_of) (aCons (ofD (frz (dBin ixD (dPeek 0 (dName 2)) (dC (.int 4))))) aNil))) dNil))) [2]))
def den_offers_from : Den := runF 2 3 b_offers_from
def b_first_held : Dn Fl := (sSeq (sFor (iSeq (dName 0)) (hTup 2 (hCons (hName 2) (hCons (hName 3) hNil))) (sIf (dCmpT isND (frz (dFn (den_first_free) (aCons (ofD (dName 3)) (aCons (ofD (dPeek 1 (frz (dBin addD (dName 2) (dC (.int 1)))))) aNil)))) (dC .none)) (sRet (dMove 2)) sNx))
  (sRet (ofD (dC .none))))
def den_first_held : Den := runF 2 4 b_first_held
def b_can_miss : Dn Fl := (sSeq (sPar [0, 1] (dCons (frz (dFn (den_frozen 8) (aCons (ofD (dName 0)) aNil))) (dCons (frz (dFn (den_frozen 8) (aCons (ofD (dName 1)) aNil))) dNil)))
  (sSeq (sDrop (frz (dFn (den_refuse) (dArD [(true, 0), (true, 1), (false, 1), (false, 2), (true, 2)] (dCons (dName 0) dNil) (dCons (dName 1) (dCons (dTup (dCons (dName 2) dNil)) dNil))))))
  (sRet (dBin isND (frz (dFn (den_first_held) (aCons (ofD (frz (dFn (den_offers_from) (aCons (ofD (dPeek 0 (dC (.int 2)))) (aCons (ofD (dName 2)) aNil))))) (aCons (ofD (frz (dFn (den_masks_behind) (aCons (ofD (dName 0)) (aCons (ofD (dName 1)) aNil))))) aNil)))) (dC .none)))))
def den_can_miss : Den := runF 3 3 b_can_miss
def b_world_without : Dn Fl := (sSeq (sSet 3 (dFn (den_masks_behind) (aCons (ofD (dName 0)) (aCons (ofD (dName 1)) aNil))))
  (sSeq (sSet 4 (dLst dNil))
  (sSeq (sFor (iSeq (frz (dFn (den_write_numbers) (aCons (ofD (dPeek 0 (dC (.int 2)))) aNil)))) (hName 5) (sSeq (sSet 6 (dBin ixD (frz (dBin ixD (dPeek 0 (dC (.int 2))) (dName 5))) (dC (.int 4))))
  (sSeq (sSet 7 (ofD (dC (.int 0))))
  (sSeq (sIf (dCmpT geD (frz (dBin ixD (frz (dBin ixD (dPeek 0 (dC (.int 2))) (dName 5))) (dC (.int 2)))) (dName 2)) (sSeq (sSet 7 (dFn (den_first_free) (aCons (ofD (frz (dFn (den_masks_of) (aCons (ofD (dName 6)) aNil)))) (aCons (ofD (dPeek 3 (frz (dBin addD (dName 5) (dC (.int 1)))))) aNil))))
  (sIf (dCmpT isND (dName 7) (dC .none)) (sRet (ofD (dC .none))) sNx)) sNx)
  (sApp 4 (dPeek 6 (dName 7)))))))
  (sRet (dFn (den_quiet) (aCons (ofD (dPeek 0 (dC (.int 2)))) (aCons (ofD (dName 4)) aNil)))))))
def den_world_without : Den := runF 3 8 b_world_without
def b_miss_world : Dn Fl := (sSeq (sPar [0, 1] (dCons (frz (dFn (den_frozen 8) (aCons (ofD (dName 0)) aNil))) (dCons (frz (dFn (den_frozen 8) (aCons (ofD (dName 1)) aNil))) dNil)))
  (sSeq (sDrop (frz (dFn (den_refuse) (dArD [(true, 0), (true, 1), (false, 1), (false, 2), (true, 2)] (dCons (dName 0) dNil) (dCons (dName 1) (dCons (dTup (dCons (dName 2) dNil)) dNil))))))
  (sRet (dFn (den_world_without) (aCons (ofD (dName 0)) (aCons (ofD (dName 1)) (aCons (ofD (dName 2)) aNil)))))))
def den_miss_world : Den := runF 3 3 b_miss_world
def b_held_by : Dn Fl := (sSeq (sSet 3 (dFn (den_masks_behind) (aCons (ofD (dName 0)) (aCons (ofD (dName 2)) aNil))))
  (sSeq (sSet 4 (ofD (dC (.int 0))))
  (sSeq (sFor (iSeq (dName 1)) (hTup 2 (hCons (hName 5) (hCons (hName 6) hNil))) (sIf (dCmpT isND (frz (dFn (den_first_free) (aCons (ofD (dName 6)) (aCons (ofD (dPeek 3 (frz (dBin addD (dName 5) (dC (.int 1)))))) aNil)))) (dC .none)) (sSet 4 (dBin ixD (frz (dBin ixD (dPeek 0 (dC (.int 2))) (dName 5))) (dC (.int 2)))) sNx))
  (sRet (dMove 4)))))
def den_held_by : Den := runF 3 7 b_held_by
def b_held_version : Dn Fl := (sSeq (sPar [0, 1] (dCons (frz (dFn (den_frozen 8) (aCons (ofD (dName 0)) aNil))) (dCons (frz (dFn (den_frozen 8) (aCons (ofD (dName 1)) aNil))) dNil)))
  (sSeq (sDrop (frz (dFn (den_refuse) (dArD [(true, 0), (true, 1), (false, 1), (false, 2), (false, 3)] (dCons (dName 0) dNil) (dCons (dName 1) dNil)))))
  (sRet (dFn (den_held_by) (aCons (ofD (dName 0)) (aCons (ofD (frz (dFn (den_offers_from) (aCons (ofD (dPeek 0 (dC (.int 2)))) (aCons (ofD (dC (.int 1))) aNil))))) (aCons (ofD (dName 1)) aNil)))))))
def den_held_version : Den := runF 2 2 b_held_version
def b_take : Dn Fl := (sSeq (sIf (dCmpT gtD (dPeek 0 (dC (.int 0))) (dC (.int 0))) (sSeq (sSet 5 (dBin modD (frz (dCall intD (dCons (dPeek 0 (dC (.int 0))) dNil))) (dName 1)))
  (sSeq (sSetIx 0 (dC (.int 0)) (frz (dBin fdivD (dPeek 0 (dC (.int 0))) (dName 1))))
  (sRet (dMove 5)))) sNx)
  (sSeq (sSetIx 0 (dC (.int 2)) (frz (dBin addD (dPeek 0 (dC (.int 2))) (dC (.int 1)))))
  (sSeq (sSet 2 (dBin modD (frz (dCall intD (dCons (frz (dBin mulD (frz (dBin addD (dPeek 0 (dC (.int 1))) (frz (dBin mulD (dC (.int 48271)) (dPeek 0 (dC (.int 2))))))) (frz (dBin addD (dC (.int 39373)) (dPeek 0 (dC (.int 2))))))) dNil))) (dC (.int 2147483647))))
  (sSeq (sSet 3 (dBin addD (frz (dBin modD (frz (dCall intD (dCons (dName 2) dNil))) (dC (.int 40009)))) (dC (.int 7))))
  (sSeq (sSet 4 (dBin modD (frz (dCall intD (dCons (frz (dBin mulD (frz (dBin addD (frz (dBin addD (dName 2) (dPeek 0 (dC (.int 2))))) (frz (dBin fdivD (dPeek 0 (dC (.int 1))) (dC (.int 1000003)))))) (dName 3))) dNil))) (dC (.int 2147483629))))
  (sRet (dBin modD (frz (dCall intD (dCons (frz (dBin fdivD (frz (dBin modD (frz (dCall intD (dCons (frz (dBin addD (frz (dBin mulD (dName 4) (dC (.int 48271)))) (dName 2))) dNil))) (dC (.int 2147483587)))) (dC (.int 64)))) dNil))) (dName 1))))))))
def den_take : Den := runF 2 6 b_take
def b_law_cells : Dn Fl := (sSeq (sSet 2 (dOr (dCall listD (dCons (frz (dSlP 0 dOff (dOn (dName 1)))) dNil)) (dLst (dCons (dC (.int 0)) dNil))))
  (sSeq (sFor (iEnB (dCons (frz (dSlP 0 (dOn (dName 1)) (dOn (dC (.int 63))))) dNil)) (hTup 2 (hCons (hName 3) (hCons (hName 4) hNil))) (sSeq (sSet 5 (dBin modD (frz (dCall intD (dCons (dName 3) dNil))) (dName 1)))
  (sSetIx 2 (dName 5) (frz (dBin addD (dPeek 2 (dName 5)) (frz (dBin mulD (dName 4) (frz (dBin addD (dName 3) (dC (.int 2)))))))))))
  (sRet (dMove 2))))
def den_law_cells : Den := runF 2 6 b_law_cells
def b_of : Dn Fl := (sRet (ofD (dPeek 1 (frz (dFn (den_take) (aLend 0 (aCons (ofD (dLenP 1)) aNil)))))))
def den_of : Den := runF 2 2 b_of
def b_pick : Dn Fl := (sSeq (sParA 4 5 (aCons (dCall listD (dCons (dName 1) dNil)) (aCons (dLst dNil) aNil)))
  (sSeq (sFor (iRg1 (dCons (frz (dCall minD (dCons (frz (dCall intD (dCons (dName 2) dNil))) (dCons (dLenP 4) dNil)))) dNil)) (hName 3) (sApp 5 (dPopAt 4 (frz (dFn (den_take) (aLend 0 (aCons (ofD (dLenP 4)) aNil)))))))
  (sRet (dMove 5))))
def den_pick : Den := runF 3 6 b_pick
def b_lists (self : Den) : Dn Fl := (sRet (ofD (dIf (dTru (dUn (isi2D .lst .tup) (dName 0))) (frz (dComp (iSeq (dName 0)) (hName 1) yesT (frz (dFn self (aCons (ofD (dName 1)) aNil))) [1])) (dName 0))))
def den_lists : Nat → Den
  | 0 => fun _ => .st
  | n + 1 => runF 1 2 (b_lists (den_lists n))
def b_same (self : Den) : Dn Fl := (sSeq (sIf (dTru (dUn (isi2D .lst .tup) (dName 1))) (sSeq (sIf (dOrT (dCmpT neD (dUn (isiD .lst) (dName 0)) (dUn (isiD .lst) (dName 1))) (dCmpT neD (dUn (isiD .tup) (dName 0)) (dUn (isiD .tup) (dName 1)))) (sRet (ofD (dC (.bool false)))) sNx)
  (sRet (ofD (dAnd (frz (dBin eqD (dLenP 0) (dLenP 1))) (frz (dCall allD (dCons (frz (dComp (iZp (dCons (dName 0) (dCons (dName 1) dNil))) (hTup 2 (hCons (hName 2) (hCons (hName 3) hNil))) yesT (frz (dFn self (aCons (ofD (dName 2)) (aCons (ofD (dName 3)) aNil)))) [2, 3])) dNil))))))) sNx)
  (sSeq (sIf (dOrT (dCmpT isND (dName 1) (dC .none)) (dTru (dUn (isi2D .bl .str) (dName 1)))) (sRet (ofD (dAnd (frz (dBin eqD (dName 0) (dName 1))) (dAnd (frz (dBin eqD (dUn (isiD .bl) (dName 0)) (dUn (isiD .bl) (dName 1)))) (frz (dBin eqD (frz (dBin isND (dName 0) (dC .none))) (frz (dBin isND (dName 1) (dC .none))))))))) sNx)
  (sRet (ofD (dAnd (dUn (isiD .int) (dName 0)) (dAnd (dNot (dUn (isiD .bl) (dName 0))) (frz (dBin eqD (dName 0) (dName 1)))))))))
def den_same : Nat → Den
  | 0 => fun _ => .st
  | n + 1 => runF 2 4 (b_same (den_same n))
def b_lots : Dn Fl := (sSeq (sSet 1 (dLst (dCons (dTup dNil) dNil)))
  (sSeq (sFor (iSeq (dName 0)) (hName 2) (sSet 1 (dBin addD (dName 1) (frz (dComp (iSeq (dName 1)) (hName 3) yesT (frz (dBin addD (dName 3) (dTup (dCons (dName 2) dNil)))) [3])))))
  (sRet (dCall sort2D (dCons (dName 1) dNil)))))
def den_lots : Den := runF 1 4 b_lots
def b_counted : Dn Fl := (sRet (dComp (iSeq (frz (dFn (den_lots) (aCons (ofD (dName 0)) aNil)))) (hName 2) (dCmpT eqD (dLenP 2) (dName 1)) (dName 2) [2]))
def den_counted : Den := runF 2 3 b_counted
def b_within : Dn Fl := (sRet (dBin eqD (frz (dComp (iSeq (dName 0)) (hName 2) (dCmpT notInD (dName 2) (dName 1)) (dName 2) [2])) (frz (dLst dNil))))
def den_within : Den := runF 2 3 b_within
def b_law_apart : Dn Fl := (sRet (dBin eqD (frz (dComp (iSeq (dName 0)) (hName 2) (dCmpT inD (dName 2) (dName 1)) (dName 2) [2])) (frz (dLst dNil))))
def den_law_apart : Den := runF 2 3 b_law_apart
def b_law_least : Dn Fl := (sSeq (sSet 1 (dLst dNil))
  (sSeq (sFor (iSeq (frz (dCall setSortD (dCons (dName 0) dNil)))) (hName 2) (sIf (dCmpT eqD (frz (dComp (iSeq (dName 0)) (hName 3) (dAndT (dCmpT neD (dName 3) (dName 2)) (dTru (frz (dFn (den_within) (aCons (ofD (dName 3)) (aCons (ofD (dName 2)) aNil)))))) (dC (.int 1)) [3])) (frz (dLst dNil))) (sApp 1 (dName 2)) sNx))
  (sRet (dCall tupleD (dCons (dName 1) dNil)))))
def den_law_least : Den := runF 1 4 b_law_least
def b_law_room : Dn Fl := (sRet (dBin neD (frz (dComp (iSeq (dName 0)) (hName 2) (dTru (frz (dFn (den_law_apart) (aCons (ofD (dName 2)) (aCons (ofD (dName 1)) aNil))))) (dC (.int 1)) [2])) (frz (dLst dNil))))
def den_law_room : Den := runF 2 3 b_law_room
def b_kin : Dn Fl := (sSeq (sPar [3, 4] (dCons (frz (dFn (den_take) (aLend 0 (aCons (ofD (dC (.int 3))) aNil)))) (dCons (frz (dBin addD (dC (.int 1)) (frz (dFn (den_take) (aLend 0 (aCons (ofD (dLenP 1)) aNil)))))) dNil)))
  (sSeq (sIf (dCmpT gtD (dName 3) (dC (.int 0))) (sRet (dCall tupleD (dCons (frz (dFn (den_counted) (aCons (ofD (dName 1)) (aCons (ofD (dName 4)) aNil)))) dNil))) sNx)
  (sSeq (sSet 2 (dComp (iSeq (frz (dFn (den_lots) (aCons (ofD (dName 1)) aNil)))) (hName 5) (dCmpT neD (dName 5) (dTup dNil)) (dName 5) [5]))
  (sRet (dFn (den_law_least) (aCons (ofD (frz (dFn (den_pick) (aLend 0 (aCons (ofD (dName 2)) (aCons (ofD (frz (dBin addD (dC (.int 1)) (frz (dFn (den_take) (aLend 0 (aCons (ofD (dC (.int 2))) aNil))))))) aNil)))))) aNil))))))
def den_kin : Den := runF 2 6 b_kin
def b_deed : Dn Fl := (sSeq (sSet 5 (dR1 (rg1X false) (dName 1)))
  (sSeq (sIf (dCmpT inW (dName 2) (dTup (dCons (dC (.str "put")) (dCons (dC (.str "strike")) dNil)))) (sSeq (sSet 7 (dCall tupleD (dCons (frz (dCall sort2D (dCons (frz (dFn (den_pick) (aLend 0 (aCons (ofD (dName 5)) (aCons (ofD (frz (dBin addD (dC (.int 1)) (frz (dFn (den_take) (aLend 0 (aCons (ofD (dName 1)) aNil))))))) aNil))))) dNil))) dNil)))
  (sRet (ofD (dTup (dCons (dName 2) (dCons (dName 3) (dCons (dName 4) (dCons (dName 7) (dCons (frz (dFn (den_kin) (aLend 0 (aCons (ofD (dName 7)) aNil)))) dNil))))))))) sNx)
  (sSeq (sIf (dCmpT eqD (dName 2) (dC (.str "wait"))) (sRet (ofD (dTup (dCons (dName 2) (dCons (dName 3) dNil))))) sNx)
  (sSeq (sSet 6 (dFn (den_pick) (aLend 0 (aCons (ofD (dName 5)) (aCons (ofD (dC (.int 2))) aNil)))))
  (sSeq (sIf (dCmpT eqD (dName 2) (dC (.str "lose"))) (sRet (ofD (dTup (dCons (dName 2) (dCons (dName 3) (dCons (dPeek 6 (dC (.int 0))) dNil)))))) sNx)
  (sRet (ofD (dTup (dCons (dName 2) (dCons (dName 3) (dCons (dPeek 6 (dC (.int 0))) (dCons (dPeek 6 (dC (.int 1))) dNil))))))))))))
def den_deed : Den := runF 5 8 b_deed
def b_leaf : Dn Fl := (sSeq (sParA 5 6 (aCons (dLst (dCons (dC (.str "put")) (dCons (dC (.str "put")) (dCons (dC (.str "put")) (dCons (dC (.str "strike")) (dCons (dC (.str "copy")) (dCons (dC (.str "copy")) (dCons (dC (.str "copy")) (dCons (dC (.str "send")) (dCons (dC (.str "send")) (dCons (dC (.str "lose")) (dCons (dC (.str "wait")) dNil)))))))))))) (aCons (dLst dNil) aNil)))
  (sSeq (sParL 7 8 9 (aCons (ofD (dC (.int 0))) (aCons (ofD (dC (.int 0))) (aCons (dCall listD (dCons (dName 3) dNil)) aNil))))
  (sSeq (sFor (iRg1 (dCons (dName 2) dNil)) (hName 4) (sSeq (sSet 10 (ofD (dIf (dOrT (dCmpT gtD (dName 4) (dC (.int 0))) (dCmpT eqD (frz (dFn (den_take) (aLend 0 (aCons (ofD (dC (.int 4))) aNil)))) (dC (.int 0)))) (frz (dFn (den_of) (aLend 0 (aCons (ofD (dName 5)) aNil)))) (dC (.str "put")))))
  (sSeq (sSet 11 (ofD (dIf (dCmpT inW (dName 10) (dTup (dCons (dC (.str "put")) (dCons (dC (.str "strike")) dNil)))) (dC (.int 0)) (dIf (dCmpT eqD (dName 10) (dC (.str "send"))) (dC (.int 1)) (dC (.int 2))))))
  (sSeq (sIf (dAndT (dCmpT ltD (dName 11) (dC (.int 2))) (dCmpT eqD (dPeek 9 (dName 11)) (dC (.int 0)))) (sSet 10 (ofD (dC (.str "copy")))) sNx)
  (sSeq (sIf (dAndT (dCmpT ltD (dName 11) (dC (.int 2))) (dCmpT gtD (dPeek 9 (dName 11)) (dC (.int 0)))) (sSetIx 9 (dName 11) (frz (dBin subD (dPeek 9 (dName 11)) (dC (.int 1))))) sNx)
  (sSeq (sSet 7 (dBin addD (dName 7) (frz (dFn (den_of) (aLend 0 (aCons (ofD (frz (dLst (dCons (dC (.int 0)) (dCons (dC (.int 1)) (dCons (dC (.int 1)) (dCons (dC (.int 2)) dNil))))))) aNil))))))
  (sSeq (sSet 8 (dBin addD (frz (dBin addD (dName 8) (dC (.int 1)))) (frz (dCall intD (dCons (frz (dBin eqD (frz (dFn (den_take) (aLend 0 (aCons (ofD (dC (.int 3))) aNil)))) (dC (.int 0)))) dNil)))))
  (sApp 6 (frz (dFn (den_deed) (aLend 0 (aCons (ofD (dName 1)) (aCons (ofD (dName 10)) (aCons (ofD (dName 7)) (aCons (ofD (dName 8)) aNil)))))))))))))))
  (sRet (ofD (dTup (dCons (dName 1) (dCons (frz (dFn (den_of) (aLend 0 (aCons (ofD (frz (dLst (dCons (dC (.int 0)) (dCons (dC (.int 1)) (dCons (dC (.int 2)) (dCons (dC (.int 3)) (dCons (dC (.int 9)) dNil)))))))) aNil)))) (dCons (frz (dCall tupleD (dCons (dName 6) dNil))) dNil)))))))))
def den_leaf : Den := runF 4 12 b_leaf
def b_law_is_write : Dn Fl := (sRet (dBin inW (dPeek 0 (dC (.int 0))) (dTup (dCons (dC (.str "put")) (dCons (dC (.str "strike")) dNil)))))
def den_law_is_write : Den := runF 1 1 b_law_is_write
def b_law_writes : Dn Fl := (sRet (dComp (iEnB (dCons (dPeek 0 (dC (.int 2))) dNil)) (hTup 2 (hCons (hName 1) (hCons (hName 2) hNil))) (dTru (frz (dFn (den_law_is_write) (aCons (ofD (dName 2)) aNil)))) (dName 1) [1, 2]))
def den_law_writes : Den := runF 1 3 b_law_writes
def b_done : Dn Fl := (sSeq (sSet 3 (dCall listD (dCons (dName 0) dNil)))
  (sSeq (sIf (dTru (frz (dFn (den_law_is_write) (aCons (ofD (dName 1)) aNil)))) (sFor (iSeq (dName 2)) (hName 4) (sSetIx 3 (dName 4) (frz (dCall max2D (dCons (dPeek 3 (dName 4)) (dCons (dPeek 1 (dC (.int 2))) dNil)))))) sNx)
  (sSeq (sIf (dCmpT eqD (dPeek 1 (dC (.int 0))) (dC (.str "copy"))) (sSetIx 3 (dPeek 1 (dC (.int 3))) (frz (dCall max2D (dCons (dPeek 3 (dPeek 1 (dC (.int 3)))) (dCons (dPeek 3 (dPeek 1 (dC (.int 2)))) dNil))))) sNx)
  (sSeq (sIf (dCmpT eqD (dPeek 1 (dC (.int 0))) (dC (.str "lose"))) (sSetIx 3 (dPeek 1 (dC (.int 2))) (dC (.int 0))) sNx)
  (sRet (dCall tupleD (dCons (dName 3) dNil)))))))
def den_done : Den := runF 3 5 b_done
def b_landing : Dn Fl := (sSeq (sIf (dTru (frz (dFn (den_law_is_write) (aCons (ofD (dName 0)) aNil)))) (sRet (dComp (iSeq (dPeek 1 (dC (.int 1)))) (hTup 2 (hCons (hName 3) (hCons (hName 4) hNil))) (dCmpT eqD (dName 4) (dName 2)) (dName 3) [3, 4])) sNx)
  (sRet (ofD (dIf (dCmpT inD (dName 2) (dName 1)) (frz (dLst (dCons (dPeek 0 (dC (.int 3))) dNil))) (frz (dLst dNil))))))
def den_landing : Den := runF 3 5 b_landing
def b_law_played : Dn Fl := (sSeq (sParA 3 4 (aCons (dBin mulTD (dTup (dCons (dC (.int 0)) dNil)) (dPeek 0 (dC (.int 0)))) (aCons (dLst dNil) aNil)))
  (sSeq (sSet 2 (dLst (dCons (dName 3) dNil)))
  (sSeq (sFor (iEnB (dCons (dPeek 0 (dC (.int 2))) dNil)) (hTup 2 (hCons (hName 5) (hCons (hName 6) hNil))) (sSeq (sSet 7 (dFn (den_law_is_write) (aCons (ofD (dName 6)) aNil)))
  (sSeq (sApp 4 (dIf (dTru (dName 7)) (dPeek 6 (dC (.int 2))) (dIf (dCmpT eqD (dPeek 6 (dC (.int 0))) (dC (.str "send"))) (dPeek 3 (dPeek 6 (dC (.int 2)))) (dC (.int 0)))))
  (sSeq (sSet 8 (dCall listD (dCons (frz (dFn (den_done) (aCons (ofD (dName 3)) (aCons (ofD (dName 6)) (aCons (ofD (dIf (dTru (dName 7)) (frz (dBin ixD (dPeek 1 (dName 5)) (dC (.int 0)))) (dTup dNil))) aNil))))) dNil)))
  (sSeq (sFor (iRg1 (dCons (frz (dBin addD (dName 5) (dC (.int 1)))) dNil)) (hName 9) (sFor (iSeq (frz (dFn (den_landing) (aCons (ofD (frz (dBin ixD (dPeek 0 (dC (.int 2))) (dName 9)))) (aCons (ofD (dPeek 1 (dName 9))) (aCons (ofD (frz (dBin addD (dName 5) (dC (.int 1))))) aNil)))))) (hName 10) (sSetIx 8 (dName 10) (frz (dCall max2D (dCons (dPeek 8 (dName 10)) (dCons (dPeek 4 (dName 9)) dNil)))))))
  (sSeq (sSet 3 (dCall tupleD (dCons (dName 8) dNil)))
  (sApp 2 (dName 3))))))))
  (sRet (dMove 2)))))
def den_law_played : Den := runF 2 11 b_law_played
def b_law_read : Dn Fl := (sRet (dCall max2D (dCons (frz (dBin addD (frz (dComp (iSeq (dName 1)) (hName 2) yesT (dPeek 0 (dName 2)) [2])) (frz (dLst (dCons (dC (.int 0)) dNil))))) dNil)))
def den_law_read : Den := runF 2 3 b_law_read
def b_law_past : Dn Fl := (sSeq (sSet 3 (dLst (dCons (frz (dCall tupleD (dCons (dName 1) dNil))) dNil)))
  (sSeq (sFor (iRg3 (dCons (frz (dBin subD (dName 2) (dC (.int 1)))) (dCons (dUn negD (dC (.int 1))) (dCons (dUn negD (dC (.int 1))) dNil)))) (hName 4) (sSeq (sAsg (dTup (dCons (frz (dBin ixD (dPeek 0 (dC (.int 2))) (dName 4))) (dCons (dPeek 3 (dC (.int 0))) dNil))) (hTup 2 (hCons (hName 5) (hCons (hName 6) hNil))))
  (sSeq (sIf (dAndT (dCmpT eqD (dPeek 5 (dC (.int 0))) (dC (.str "copy"))) (dCmpT inD (dPeek 5 (dC (.int 3))) (dName 6))) (sSet 6 (dCall tupleD (dCons (frz (dCall setSortD (dCons (frz (dBin addD (dName 6) (dTup (dCons (dPeek 5 (dC (.int 2))) dNil)))) dNil))) dNil))) sNx)
  (sSeq (sIf (dCmpT eqD (dPeek 5 (dC (.int 0))) (dC (.str "lose"))) (sSet 6 (dCall tupleD (dCons (frz (dComp (iSeq (dName 6)) (hName 7) (dCmpT neD (dName 7) (dPeek 5 (dC (.int 2)))) (dName 7) [7])) dNil))) sNx)
  (sSet 3 (dBin addD (frz (dLst (dCons (dName 6) dNil))) (dName 3)))))))
  (sRet (dMove 3))))
def den_law_past : Den := runF 3 8 b_law_past
def b_misses : Dn Fl := (sSeq (sSet 3 (dFn (den_law_past) (aCons (ofD (dName 0)) (aCons (ofD (dName 1)) (aCons (ofD (frz (dCall lenD (dCons (dPeek 0 (dC (.int 2))) dNil)))) aNil)))))
  (sSeq (sSet 4 (dComp (iSeq (frz (dFn (den_law_writes) (aCons (ofD (dName 0)) aNil)))) (hName 5) (dCmpT geD (frz (dBin ixD (frz (dBin ixD (dPeek 0 (dC (.int 2))) (dName 5))) (dC (.int 2)))) (dName 2)) (dName 5) [5]))
  (sRet (dBin eqD (frz (dComp (iSeq (dName 4)) (hName 5) (dNotT (dTru (frz (dFn (den_law_room) (aCons (ofD (frz (dBin ixD (frz (dBin ixD (dPeek 0 (dC (.int 2))) (dName 5))) (dC (.int 4))))) (aCons (ofD (dPeek 3 (frz (dBin addD (dName 5) (dC (.int 1)))))) aNil)))))) (dName 5) [5])) (frz (dLst dNil))))))
def den_misses : Den := runF 3 6 b_misses
@[irreducible] def b_two_of : Dn Fl := (sRet (ofD (dTup (dCons (dTup (dCons (dC (.int 0)) (dCons (dC (.int 1)) dNil))) (dCons (dTup (dCons (dC (.int 0)) (dCons (dC (.int 2)) dNil))) (dCons (dTup (dCons (dC (.int 1)) (dCons (dC (.int 2)) dNil))) dNil))))))
def den_two_of : Den := runF 0 0 b_two_of
@[irreducible] def b_plain_one : Dn Fl := (sRet (ofD (dTup (dCons (dC (.int 3)) (dCons (dC (.int 2)) (dCons (dTup (dCons (dTup (dCons (dC (.str "put")) (dCons (dC (.int 0)) (dCons (dC (.int 1)) (dCons (dTup (dCons (dC (.int 0)) (dCons (dC (.int 1)) (dCons (dC (.int 2)) dNil)))) (dCons (frz (dFn0 (den_two_of))) dNil)))))) dNil)) dNil))))))
def den_plain_one : Den := runF 0 0 b_plain_one
@[irreducible] def b_fallen : Dn Fl := (sRet (ofD (dTup (dCons (dC (.int 3)) (dCons (dC (.int 2)) (dCons (frz (dBin addD (frz (dBin ixD (frz (dFn0 (den_plain_one))) (dC (.int 2)))) (dTup (dCons (dTup (dCons (dC (.str "lose")) (dCons (dC (.int 5)) (dCons (dC (.int 0)) dNil)))) dNil)))) dNil))))))
def den_fallen : Den := runF 0 0 b_fallen
def b_taken_over : Dn Fl := (sRet (ofD (dTup (dCons (dC (.int 4)) (dCons (dC (.int 2)) (dCons (frz (dBin addD (frz (dBin ixD (frz (dFn0 (den_plain_one))) (dC (.int 2)))) (dTup (dCons (dTup (dCons (dC (.str "copy")) (dCons (dC (.int 4)) (dCons (dName 0) (dCons (dC (.int 3)) dNil))))) dNil)))) dNil))))))
def den_taken_over : Den := runF 1 1 b_taken_over
def b_covered : Dn Fl := (sSeq (sAsg (dTup (dCons (dTup (dCons (dC (.str "put")) (dCons (dC (.int 0)) (dCons (dC (.int 1)) (dCons (dTup (dCons (dC (.int 2)) dNil)) (dCons (dTup (dCons (dTup (dCons (dC (.int 2)) dNil)) dNil)) dNil)))))) (dCons (dTup (dCons (dC (.str "put")) (dCons (dC (.int 1)) (dCons (dC (.int 2)) (dCons (dTup (dCons (dC (.int 1)) (dCons (dC (.int 2)) dNil))) (dCons (dTup (dCons (dTup (dCons (dC (.int 1)) (dCons (dC (.int 2)) dNil))) dNil)) dNil)))))) dNil))) (hTup 2 (hCons (hName 1) (hCons (hName 2) hNil))))
  (sSeq (sIf (dTru (dName 0)) (sRet (ofD (dTup (dCons (dC (.int 3)) (dCons (dC (.int 9)) (dCons (dTup (dCons (dName 1) (dCons (dTup (dCons (dC (.str "send")) (dCons (dC (.int 1)) (dCons (dC (.int 2)) (dCons (dC (.int 0)) dNil))))) (dCons (dName 2) dNil)))) dNil)))))) sNx)
  (sRet (ofD (dTup (dCons (dC (.int 3)) (dCons (dC (.int 9)) (dCons (dTup (dCons (dName 1) (dCons (dName 2) (dCons (dTup (dCons (dC (.str "send")) (dCons (dC (.int 2)) (dCons (dC (.int 2)) (dCons (dC (.int 0)) dNil))))) dNil)))) dNil))))))))
def den_covered : Den := runF 1 3 b_covered
def b_ranks : Dn Fl := (sRet (dComp (iSeq (dPeek 0 (dC (.int 2)))) (hName 1) (dTru (frz (dFn (den_law_is_write) (aCons (ofD (dName 1)) aNil)))) (dPeek 1 (dC (.int 2))) [1]))
def den_ranks : Den := runF 1 2 b_ranks
def b_page : Dn Fl := (sRet (dFn (den_leaf) (aLend 0 (aCons (ofD (dC (.int 3))) (aCons (ofD (frz (dBin addD (dC (.int 3)) (frz (dFn (den_take) (aLend 0 (aCons (ofD (dC (.int 3))) aNil))))))) (aCons (ofD (dName 1)) aNil))))))
def den_page : Den := runF 2 2 b_page
def b_lot_of : Dn Fl := (sRet (dCall tupleD (dCons (frz (dComp (iRg1 (dCons (dUn bitsD (dName 0)) dNil)) (hName 1) (dTru (frz (dFn (den_has_place) (aCons (ofD (dName 0)) (aCons (ofD (dName 1)) aNil))))) (dName 1) [1])) dNil)))
def den_lot_of : Den := runF 1 2 b_lot_of
def b_lots_of : Dn Fl := (sRet (dCall tupleD (dCons (frz (dComp (iSeq (dName 0)) (hName 1) yesT (frz (dFn (den_lot_of) (aCons (ofD (dName 1)) aNil))) [1])) dNil)))
def den_lots_of : Den := runF 1 2 b_lots_of
def b_past : Dn Fl := (sSeq (sPar [0, 1] (dCons (frz (dFn (den_frozen 8) (aCons (ofD (dName 0)) aNil))) (dCons (frz (dFn (den_frozen 8) (aCons (ofD (dName 1)) aNil))) dNil)))
  (sSeq (sDrop (frz (dFn (den_refuse) (dArD [(true, 0), (true, 1), (true, 2), (false, 2), (false, 3)] (dCons (dName 0) dNil) (dCons (dName 1) (dCons (dTup (dCons (dName 2) dNil)) dNil))))))
  (sRet (dFn (den_lots_of) (aCons (ofD (frz (dFn (den_past_masks) (aCons (ofD (dPeek 0 (dC (.int 2)))) (aCons (ofD (frz (dFn (den_mask_of) (aCons (ofD (dName 1)) aNil)))) (aCons (ofD (dName 2)) aNil)))))) aNil)))))
def den_past : Den := runF 3 3 b_past
def b_pasts_of_each : Dn Fl := (sSeq (sSet 0 (dFn (den_frozen 8) (aCons (ofD (dName 0)) aNil)))
  (sSeq (sDrop (frz (dFn (den_refuse) (dArD [(true, 0), (false, 0), (true, 1), (false, 2), (false, 3)] (dCons (dName 0) dNil) (dCons (dTup (dCons (dName 1) dNil)) dNil)))))
  (sSeq (sSet 2 (dComp (iRg1 (dCons (dPeek 0 (dC (.int 0))) dNil)) (hName 3) yesT (frz (dBin shlD (dC (.int 1)) (dName 3))) [3]))
  (sRet (dCall tupleD (dCons (frz (dComp (iSeq (dName 2)) (hName 4) yesT (frz (dFn (den_lots_of) (aCons (ofD (frz (dFn (den_past_masks) (aCons (ofD (dPeek 0 (dC (.int 2)))) (aCons (ofD (dName 4)) (aCons (ofD (dName 1)) aNil)))))) aNil))) [4])) dNil))))))
def den_pasts_of_each : Den := runF 2 5 b_pasts_of_each
def b_mask_behind : Dn Fl := (sSeq (sIf (dAndT (dCmpT eqD (dPeek 0 (dC (.int 0))) (dC (.str "copy"))) (dTru (frz (dFn (den_has_place) (aCons (ofD (dName 1)) (aCons (ofD (dPeek 0 (dC (.int 2)))) aNil)))))) (sRet (dBin borD (dName 1) (frz (dBin shlD (dC (.int 1)) (dPeek 0 (dC (.int 3))))))) sNx)
  (sSeq (sIf (dCmpT eqD (dPeek 0 (dC (.int 0))) (dC (.str "lose"))) (sRet (dBin bandD (dName 1) (dUn invD (frz (dBin shlD (dC (.int 1)) (dPeek 0 (dC (.int 2)))))))) sNx)
  (sRet (dMove 1))))
def den_mask_behind : Den := runF 2 2 b_mask_behind
def b_sure_after : Dn Fl := (sSeq (sPar [0, 1] (dCons (frz (dFn (den_frozen 8) (aCons (ofD (dName 0)) aNil))) (dCons (frz (dFn (den_frozen 8) (aCons (ofD (dName 1)) aNil))) dNil)))
  (sSeq (sDrop (frz (dFn (den_refuse) (dArD [(true, 0), (true, 1), (true, 2), (false, 2), (false, 3)] (dCons (dName 0) dNil) (dCons (dName 1) (dCons (dTup (dCons (dName 2) dNil)) dNil))))))
  (sSeq (sSet 3 (dLst (dCons (frz (dFn (den_mask_of) (aCons (ofD (dName 1)) aNil))) dNil)))
  (sSeq (sFor (iSeq (frz (dSl (dPeek 0 (dC (.int 2))) (dOn (dName 2)) dOff))) (hName 4) (sApp 3 (frz (dFn (den_mask_behind) (aCons (ofD (dName 4)) (aCons (ofD (dPeek 3 (dUn negD (dC (.int 1))))) aNil))))))
  (sRet (dFn (den_lots_of) (aCons (ofD (dName 3)) aNil)))))))
def den_sure_after : Den := runF 3 5 b_sure_after
def b_crew : Dn Fl := (sRet (dCall tupleD (dCons (frz (dComp (iSeq (dName 1)) (hName 2) (dCmpT eqD (frz (dFn (den_take) (aLend 0 (aCons (ofD (dC (.int 2))) aNil)))) (dC (.int 0))) (dName 2) [2])) dNil)))
def den_crew : Den := runF 2 3 b_crew
def b_still : Dn Fl := (sSeq (sParA 4 5 (aCons (dLst dNil) (aCons (ofD (dC (.int 0))) aNil)))
  (sSeq (sFor (iRg1 (dCons (dName 2) dNil)) (hName 3) (sSeq (sSet 6 (dFn (den_of) (aLend 0 (aCons (ofD (frz (dLst (dCons (dC (.str "copy")) (dCons (dC (.str "copy")) (dCons (dC (.str "copy")) (dCons (dC (.str "copy")) (dCons (dC (.str "lose")) (dCons (dC (.str "lose")) (dCons (dC (.str "put")) (dCons (dC (.str "strike")) (dCons (dC (.str "send")) (dCons (dC (.str "wait")) dNil))))))))))))) aNil))))
  (sSeq (sSet 5 (dBin addD (dName 5) (frz (dFn (den_of) (aLend 0 (aCons (ofD (frz (dLst (dCons (dC (.int 0)) (dCons (dC (.int 1)) (dCons (dC (.int 2)) dNil)))))) aNil))))))
  (sApp 4 (frz (dFn (den_deed) (aLend 0 (aCons (ofD (dName 1)) (aCons (ofD (dName 6)) (aCons (ofD (dName 5)) (aCons (ofD (frz (dBin addD (frz (dBin addD (frz (dBin mulD (dC (.int 2)) (dName 3))) (dC (.int 1)))) (frz (dFn (den_take) (aLend 0 (aCons (ofD (dC (.int 2))) aNil))))))) aNil)))))))))))
  (sRet (ofD (dTup (dCons (dName 1) (dCons (frz (dFn (den_of) (aLend 0 (aCons (ofD (frz (dLst (dCons (dC (.int 0)) (dCons (dC (.int 2)) (dCons (dC (.int 9)) dNil)))))) aNil)))) (dCons (frz (dCall tupleD (dCons (dName 4) dNil))) dNil))))))))
def den_still : Den := runF 3 7 b_still
def b_forth : Dn Fl := (sSeq (sSet 2 (dComp (iSeq (dName 1)) (hName 3) (dOrT (dCmpT neD (dPeek 0 (dC (.int 0))) (dC (.str "lose"))) (dCmpT neD (dPeek 0 (dC (.int 2))) (dName 3))) (dName 3) [3]))
  (sSeq (sIf (dAndT (dCmpT eqD (dPeek 0 (dC (.int 0))) (dC (.str "copy"))) (dCmpT inD (dPeek 0 (dC (.int 2))) (dName 1))) (sApp 2 (dPeek 0 (dC (.int 3)))) sNx)
  (sRet (dCall tupleD (dCons (frz (dCall setSortD (dCons (dName 2) dNil))) dNil)))))
def den_forth : Den := runF 2 4 b_forth
def b_ahead : Dn Fl := (sSeq (sSet 4 (dCall tupleD (dCons (dName 1) dNil)))
  (sSeq (sFor (iRg2 (dCons (dName 2) (dCons (dName 3) dNil))) (hName 5) (sSet 4 (dFn (den_forth) (aCons (ofD (frz (dBin ixD (dPeek 0 (dC (.int 2))) (dName 5)))) (aCons (ofD (dName 4)) aNil)))))
  (sRet (dMove 4))))
def den_ahead : Den := runF 4 6 b_ahead
def b_back : Dn Fl := (sSeq (sSet 3 (dLst dNil))
  (sSeq (sFor (iRg1 (dCons (frz (dBin addD (dName 2) (dC (.int 1)))) dNil)) (hName 4) (sSeq (sSet 5 (dComp (iRg1 (dCons (dPeek 0 (dC (.int 0))) dNil)) (hName 6) (dNotT (dTru (frz (dFn (den_law_apart) (aCons (ofD (frz (dFn (den_ahead) (aCons (ofD (dName 0)) (aCons (ofD (dTup (dCons (dName 6) dNil))) (aCons (ofD (dName 4)) (aCons (ofD (dName 2)) aNil))))))) (aCons (ofD (dName 1)) aNil)))))) (dName 6) [6]))
  (sApp 3 (frz (dCall tupleD (dCons (dName 5) dNil))))))
  (sRet (dCall tupleD (dCons (dName 3) dNil)))))
def den_back : Den := runF 3 7 b_back
@[irreducible] def b_turned : Dn Fl := (sRet (ofD (dTup (dCons (dC (.int 3)) (dCons (dC (.int 0)) (dCons (dTup (dCons (dTup (dCons (dC (.str "copy")) (dCons (dC (.int 0)) (dCons (dC (.int 0)) (dCons (dC (.int 1)) dNil))))) (dCons (dTup (dCons (dC (.str "lose")) (dCons (dC (.int 0)) (dCons (dC (.int 0)) dNil)))) (dCons (dTup (dCons (dC (.str "copy")) (dCons (dC (.int 0)) (dCons (dC (.int 2)) (dCons (dC (.int 0)) dNil))))) dNil)))) dNil))))))
def den_turned : Den := runF 0 0 b_turned
def b_is_number : Dn Fl := (sRet (ofD (dAnd (dUn (isiD .int) (dName 0)) (dNot (dUn (isiD .bl) (dName 0))))))
def den_is_number : Den := runF 1 1 b_is_number
def b_is_tuple : Dn Fl := (sRet (ofD (dAnd (dUn (isiD .tup) (dName 0)) (frz (dBin eqD (dLenP 0) (dName 1))))))
def den_is_tuple : Den := runF 2 2 b_is_tuple
def b_road_in : Dn Fl := (sSeq (sSet 4 (dLst (dCons (dName 2) dNil)))
  (sSeq (sFor (iRg2 (dCons (dName 3) (dCons (frz (dBin subD (dLenP 1) (dC (.int 1)))) dNil))) (hName 5) (sIf (dNotT (dTru (frz (dFn (den_has_place) (aCons (ofD (dPeek 1 (frz (dBin addD (dName 5) (dC (.int 1)))))) (aCons (ofD (dPeek 4 (dUn negD (dC (.int 1))))) aNil)))))) (sApp 4 (frz (dBin ixD (dPeek 0 (dName 5)) (dC (.int 3))))) (sApp 4 (dPeek 4 (dUn negD (dC (.int 1)))))))
  (sRet (dCall tupleD (dCons (dName 4) dNil)))))
def den_road_in : Den := runF 4 6 b_road_in
def b_road : Dn Fl := (sSeq (sPar [0, 1] (dCons (frz (dFn (den_frozen 8) (aCons (ofD (dName 0)) aNil))) (dCons (frz (dFn (den_frozen 8) (aCons (ofD (dName 1)) aNil))) dNil)))
  (sSeq (sDrop (frz (dFn (den_refuse) (dArD [(true, 0), (true, 1), (true, 2), (false, 2), (false, 3)] (dCons (dName 0) dNil) (dCons (frz (dBin addD (dName 1) (dTup (dCons (dName 3) dNil)))) (dCons (dTup (dCons (dName 2) (dCons (dName 4) dNil))) dNil))))))
  (sSeq (sSet 5 (dFn (den_past_masks) (aCons (ofD (dPeek 0 (dC (.int 2)))) (aCons (ofD (frz (dFn (den_mask_of) (aCons (ofD (dName 1)) aNil)))) (aCons (ofD (dName 2)) aNil)))))
  (sSeq (sIf (dOrT (dCmpT gtD (dName 4) (dName 2)) (dNotT (dTru (frz (dFn (den_has_place) (aCons (ofD (dPeek 5 (dName 4))) (aCons (ofD (dName 3)) aNil))))))) (sRet (ofD (dC .none))) sNx)
  (sRet (dFn (den_road_in) (aCons (ofD (dPeek 0 (dC (.int 2)))) (aCons (ofD (dName 5)) (aCons (ofD (dName 3)) (aCons (ofD (dName 4)) aNil))))))))))
def den_road : Den := runF 5 6 b_road
def b_is_step : Dn Fl := (sSeq (sIf (dCmpT eqD (dName 1) (dName 2)) (sRet (dOr (dBin neD (dPeek 0 (dC (.int 0))) (dC (.str "lose"))) (dBin neD (dPeek 0 (dC (.int 2))) (dName 1)))) sNx)
  (sRet (ofD (dAnd (frz (dBin eqD (dPeek 0 (dC (.int 0))) (dC (.str "copy")))) (frz (dBin eqD (frz (dSl (dName 0) (dOn (dC (.int 2))) dOff)) (dTup (dCons (dName 1) (dCons (dName 2) dNil)))))))))
def den_is_step : Den := runF 3 3 b_is_step
def b_is_road : Dn Fl := (sSeq (sPar [0, 1] (dCons (frz (dFn (den_frozen 8) (aCons (ofD (dName 0)) aNil))) (dCons (frz (dFn (den_frozen 8) (aCons (ofD (dName 1)) aNil))) dNil)))
  (sSeq (sDrop (frz (dFn (den_refuse) (dArD [(true, 0), (true, 1), (true, 2), (false, 2), (false, 3)] (dCons (dName 0) dNil) (dCons (frz (dBin addD (dName 1) (dTup (dCons (dName 3) dNil)))) (dCons (dTup (dCons (dName 2) (dCons (dName 4) dNil))) dNil))))))
  (sSeq (sIf (dOrT (dCmpT gtD (dName 4) (dName 2)) (dNotT (dTru (frz (dFn (den_is_tuple) (aCons (ofD (dName 5)) (aCons (ofD (frz (dBin addD (frz (dBin subD (dName 2) (dName 4))) (dC (.int 1))))) aNil))))))) (sRet (ofD (dC (.bool false)))) sNx)
  (sSeq (sIf (dOrT (dNotT (dTru (frz (dCall allD (dCons (frz (dComp (iSeq (dName 5)) (hName 8) yesT (frz (dFn (den_is_number) (aCons (ofD (dName 8)) aNil))) [8])) dNil))))) (dOrT (dCmpT neD (dPeek 5 (dC (.int 0))) (dName 3)) (dCmpT notInD (dPeek 5 (dUn negD (dC (.int 1)))) (dName 1)))) (sRet (ofD (dC (.bool false)))) sNx)
  (sSeq (sSet 6 (dSl (dPeek 0 (dC (.int 2))) (dOn (dName 4)) (dOn (dName 2))))
  (sRet (dCall allD (dCons (frz (dComp (iZp (dCons (dName 6) (dCons (dName 5) (dCons (frz (dSl (dName 5) (dOn (dC (.int 1))) dOff)) dNil)))) (hTup 3 (hCons (hName 7) (hCons (hName 8) (hCons (hName 9) hNil)))) yesT (frz (dFn (den_is_step) (aCons (ofD (dName 7)) (aCons (ofD (dName 8)) (aCons (ofD (dName 9)) aNil))))) [7, 8, 9])) dNil))))))))
def den_is_road : Den := runF 6 10 b_is_road
def b_one_of : Dn Fl := (sRet (dFn (den_lots) (aCons (ofD (frz (dR1 (rg1X false) (dPeek 0 (dC (.int 0)))))) aNil)))
def den_one_of : Den := runF 1 1 b_one_of
def b_hold_paper : Dn Fl := (sSeq (sAsg (dTup (dCons (frz (dFn (den_frozen 8) (aCons (ofD (dName 0)) aNil))) (dCons (frz (dFn (den_frozen 8) (aCons (ofD (dName 1)) aNil))) dNil))) (hTup 2 (hCons (hName 0) (hCons (hName 1) hNil))))
  (sSeq (sDrop (frz (dFn (den_refuse) (dArD [(true, 0), (true, 1), (false, 1), (false, 2), (true, 2)] (dCons (dName 0) dNil) (dCons (dName 1) (dCons (dTup (dCons (dName 2) dNil)) dNil))))))
  (sSeq (sSet 3 (dFn (den_masks_behind) (aCons (ofD (dName 0)) (aCons (ofD (dName 1)) aNil))))
  (sSeq (sSet 4 (dFn (den_first_held) (aCons (ofD (frz (dFn (den_offers_from) (aCons (ofD (dPeek 0 (dC (.int 2)))) (aCons (ofD (dName 2)) aNil))))) (aCons (ofD (dName 3)) aNil))))
  (sSeq (sIf (dCmpT isND (dName 4) (dC .none)) (sRet (ofD (dC .none))) sNx)
  (sSeq (sSet 5 (dComp (iSeq (frz (dBin ixD (frz (dBin ixD (dPeek 0 (dC (.int 2))) (dName 4))) (dC (.int 3))))) (hName 6) (dTru (frz (dFn (den_has_place) (aCons (ofD (dPeek 3 (frz (dBin addD (dName 4) (dC (.int 1)))))) (aCons (ofD (dName 6)) aNil))))) (dName 6) [6]))
  (sRet (ofD (dTup (dCons (dName 4) (dCons (frz (dCall tupleD (dCons (frz (dComp (iSeq (dName 5)) (hName 6) yesT (frz (dFn (den_road_in) (aCons (ofD (dPeek 0 (dC (.int 2)))) (aCons (ofD (dName 3)) (aCons (ofD (dName 6)) (aCons (ofD (frz (dBin addD (dName 4) (dC (.int 1))))) aNil)))))) [6])) dNil))) dNil)))))))))))
def den_hold_paper : Den := runF 3 7 b_hold_paper
def b_has : Dn Fl := (sRet (dBin neD (frz (dComp (iSeq (dName 0)) (hName 2) (dTru (frz (dFn (den_within) (aCons (ofD (dName 2)) (aCons (ofD (dName 1)) aNil))))) (dC (.int 1)) [2])) (frz (dLst dNil))))
def den_has : Den := runF 2 3 b_has
def b_law_comings : Dn Fl := (sSeq (sSet 2 (ofD (dPeek 0 (dC (.int 2)))))
  (sSeq (sIf (dAndT (dNotT (dTru (frz (dFn (den_law_is_write) (aCons (ofD (dPeek 2 (dName 1))) aNil))))) (dCmpT neD (frz (dBin ixD (dPeek 2 (dName 1)) (dC (.int 0)))) (dC (.str "send")))) (sRet (dLst dNil)) sNx)
  (sRet (dComp (iRg2 (dCons (dName 1) (dCons (dLenP 2) dNil))) (hName 3) (dCmpT leD (frz (dBin ixD (dPeek 2 (dName 3)) (dC (.int 1)))) (frz (dBin addD (frz (dBin ixD (dPeek 2 (dName 1)) (dC (.int 1)))) (dPeek 0 (dC (.int 1)))))) (frz (dBin addD (dName 3) (dC (.int 1)))) [3]))))
def den_law_comings : Den := runF 2 4 b_law_comings
def b_pairs : Dn Fl := (sSeq (sSet 2 (dLst dNil))
  (sSeq (sFor (iSeq (dName 0)) (hName 3) (sSet 2 (dBin addD (dName 2) (frz (dComp (iSeq (dName 1)) (hName 4) yesT (dTup (dCons (dName 3) (dCons (dName 4) dNil))) [4])))))
  (sRet (dMove 2))))
def den_pairs : Den := runF 2 5 b_pairs
def b_law_is_set : Dn Fl := (sSeq (sIf (dNotT (dTru (dUn (isiD .tup) (dName 0)))) (sRet (ofD (dC (.bool false)))) sNx)
  (sSeq (sSet 2 (dLst dNil))
  (sSeq (sFor (iSeq (dName 0)) (hName 3) (sSet 2 (dBin addD (dName 2) (frz (dComp (iEnB (dCons (dName 1) dNil)) (hTup 2 (hCons (hName 4) (hCons (hName 5) hNil))) (dTru (frz (dFn (den_same 10) (aCons (ofD (dName 3)) (aCons (ofD (dName 5)) aNil))))) (dName 4) [4, 5])))))
  (sRet (ofD (dAnd (frz (dBin eqD (dLenP 2) (dLenP 0))) (frz (dBin eqD (dName 2) (frz (dCall setSortD (dCons (dName 2) dNil)))))))))))
def den_law_is_set : Den := runF 2 6 b_law_is_set
def b_is_share : Dn Fl := (sSeq (sPar [3, 4] (dCons (frz (dBin ixD (dPeek 0 (dC (.int 2))) (dName 1))) (dCons (frz (dFn (den_law_comings) (aCons (ofD (dName 0)) (aCons (ofD (dName 1)) aNil)))) dNil)))
  (sSeq (sIf (dNotT (dTru (frz (dFn (den_law_is_write) (aCons (ofD (dName 3)) aNil))))) (sRet (dFn (den_law_is_set) (aCons (ofD (dName 2)) (aCons (ofD (dName 4)) aNil)))) sNx)
  (sSeq (sIf (dOrT (dNotT (dTru (dUn (isiD .tup) (dName 2)))) (dOrT (dCmpT neD (dLenP 2) (dC (.int 2))) (dNotT (dTru (frz (dFn (den_law_is_set) (aCons (ofD (dPeek 2 (dC (.int 0)))) (aCons (ofD (frz (dCall listD (dCons (dPeek 3 (dC (.int 3))) dNil)))) aNil)))))))) (sRet (ofD (dC (.bool false)))) sNx)
  (sRet (ofD (dAnd (frz (dFn (den_law_is_set) (aCons (ofD (dPeek 2 (dC (.int 1)))) (aCons (ofD (frz (dFn (den_pairs) (aCons (ofD (dPeek 3 (dC (.int 3)))) (aCons (ofD (dName 4)) aNil))))) aNil)))) (frz (dFn (den_has) (aCons (ofD (dPeek 3 (dC (.int 4)))) (aCons (ofD (dPeek 2 (dC (.int 0)))) aNil))))))))))
def den_is_share : Den := runF 3 5 b_is_share
def b_law_is_fate : Dn Fl := (sSeq (sIf (dOrT (dNotT (dTru (dUn (isiD .tup) (dName 1)))) (dCmpT neD (dLenP 1) (frz (dCall lenD (dCons (dPeek 0 (dC (.int 2))) dNil))))) (sRet (ofD (dC (.bool false)))) sNx)
  (sRet (dBin eqD (frz (dComp (iEnB (dCons (dName 1) dNil)) (hTup 2 (hCons (hName 2) (hCons (hName 3) hNil))) (dNotT (dTru (frz (dFn (den_is_share) (aCons (ofD (dName 0)) (aCons (ofD (dName 2)) (aCons (ofD (dName 3)) aNil))))))) (dName 2) [2, 3])) (frz (dLst dNil)))))
def den_law_is_fate : Den := runF 2 4 b_law_is_fate
def b_law_is_road : Dn Fl := (sSeq (sIf (dOrT (dNotT (dTru (dUn (isiD .tup) (dName 1)))) (dCmpT neD (dLenP 1) (frz (dBin addD (frz (dBin subD (dName 2) (dName 3))) (dC (.int 1)))))) (sRet (ofD (dC (.bool false)))) sNx)
  (sSeq (sFor (iRg1 (dCons (frz (dBin subD (dLenP 1) (dC (.int 1)))) dNil)) (hName 4) (sSeq (sPar [7, 8] (dCons (frz (dBin ixD (dPeek 0 (dC (.int 2))) (frz (dBin addD (dName 3) (dName 4))))) (dCons (dPeek 1 (dName 4)) dNil)))
  (sSeq (sSet 5 (ofD (dPeek 1 (frz (dBin addD (dName 4) (dC (.int 1)))))))
  (sSeq (sSet 6 (ofD (dAnd (frz (dBin eqD (dName 8) (dName 5))) (dNot (dAnd (frz (dBin eqD (dPeek 7 (dC (.int 0))) (dC (.str "lose")))) (frz (dBin eqD (dPeek 7 (dC (.int 2))) (dName 8))))))))
  (sIf (dAndT (dNotT (dTru (dName 6))) (dCmpT neD (frz (dBin addD (frz (dSl (dName 7) dOff (dOn (dC (.int 1))))) (frz (dSl (dName 7) (dOn (dC (.int 2))) dOff)))) (dTup (dCons (dC (.str "copy")) (dCons (dName 8) (dCons (dName 5) dNil)))))) (sRet (ofD (dC (.bool false)))) sNx)))))
  (sRet (ofD (dC (.bool true))))))
def den_law_is_road : Den := runF 4 9 b_law_is_road
def b_idle_deeds : Dn Fl := (sSeq (sAsg (frz (dFn (den_frozen 8) (aCons (ofD (dName 0)) aNil))) (hTup 3 (hCons (hName 3) (hCons (hName 4) (hCons (hName 5) hNil)))))
  (sSeq (sAsg (frz (dComp (iRg1 (dCons (dName 3) dNil)) (hName 6) yesT (frz (dFn (den_past_masks) (aCons (ofD (dName 5)) (aCons (ofD (frz (dBin shlD (dC (.int 1)) (dName 6)))) (aCons (ofD (dLenP 5)) aNil))))) [6])) (hName 1))
  (sSeq (sSet 2 (dComp (iEnB (dCons (dName 5) dNil)) (hTup 2 (hCons (hName 7) (hCons (hName 8) hNil))) (dCmpT inW (dPeek 8 (dC (.int 0))) (dTup (dCons (dC (.str "copy")) (dCons (dC (.str "lose")) dNil)))) (dName 7) [7, 8]))
  (sRet (dCall tupleD (dCons (frz (dComp (iSeq (dName 2)) (hName 7) (dTru (frz (dCall allD (dCons (frz (dComp (iSeq (dName 1)) (hName 9) yesT (frz (dBin eqD (dPeek 9 (dName 7)) (dPeek 9 (frz (dBin addD (dName 7) (dC (.int 1))))))) [9])) dNil)))) (dName 7) [7])) dNil))))))
def den_idle_deeds : Den := runF 1 10 b_idle_deeds
def b_without_idle : Dn Fl := (sSeq (sAsg (frz (dFn (den_frozen 8) (aCons (ofD (dName 0)) aNil))) (hTup 3 (hCons (hName 2) (hCons (hName 3) (hCons (hName 4) hNil)))))
  (sSeq (sSet 1 (dFn (den_idle_deeds) (aCons (ofD (dName 0)) aNil)))
  (sRet (ofD (dTup (dCons (dName 2) (dCons (dName 3) (dCons (frz (dCall tupleD (dCons (frz (dComp (iEnB (dCons (dName 4) dNil)) (hTup 2 (hCons (hName 5) (hCons (hName 6) hNil))) (dCmpT notInD (dName 5) (dName 1)) (dName 6) [5, 6])) dNil))) dNil))))))))
def den_without_idle : Den := runF 1 7 b_without_idle
end Sh

/-! G26: list(range(a, b)). -/
namespace Gx
open PySem PySem.Spec L2
open PyProof.Rows hiding St
section
variable {X : Cx} {E : XK} {pos : Pos}
theorem AOk.grown {K : PySem.W.Frag} {ρ ρ1 : Ev} {σ : St} {H F1 H1 : Hp} {as : List Ar} {vs : List V} (A : AOk K ρ σ H ρ1 F1 H1 as vs) {T : Addr} {o : HO} (n : H1 T = none) : AOk K ρ σ H ρ1 F1 (upd H1 T o) as vs :=
  ⟨A.ln, A.fz, A.sl, fun k xs h => by
    obtain ⟨p, ws, h1, h2, h3, h4, h5, h6⟩ := A.tp k xs h
    refine ⟨p, ws, h1, h2, ?_, h4, h5, h6⟩
    rw [upd_ne (by intro z; subst z; rw [n] at h3; cases h3)]
    exact h3, A.sc, A.ap⟩
end
end Gx

/-! G33: while, with so many turns at most. -/
namespace Gx
open PySem PySem.Spec L2
open PyProof.Rows hiding St
def whF (c : Dn Bool) (fb : Dn Fl) : Nat → Dn Fl
  | 0, _ => .st
  | n + 1, ρ => match c ρ with
    | .st => .st
    | .ex e => .ex e
    | .ok (false, ρ1) => .ok (.nx, ρ1)
    | .ok (true, ρ1) => match fb ρ1 with
      | .st => .st
      | .ex e => .ex e
      | .ok (.nx, ρ2) => whF c fb n ρ2
      | .ok (.ct, ρ2) => whF c fb n ρ2
      | .ok (.bk, ρ2) => .ok (.nx, ρ2)
      | .ok (.rt r, ρ2) => .ok (.rt r, ρ2)
section
variable {X : Cx} {E : XK} {pos : Pos}
theorem gs_while (n : Nat) {c : Expr} {body : List Stmt} {fc : Dn Bool} {fb : Dn Fl} (hp : PassesOwn (model X.prog X.w) X.A X.env X.xe) (hc : PT X c (tT X.K X.mg E fc)) (hb : PSs X body (tS X.K X.mg E fb)) : PS X (.While c body [] pos) (tS X.K X.mg E (whF fc fb n)) :=
  ps_wk (ps_while hp hc hb) fun D σ H ⟨ρ, F, R, q⟩ => by
    refine ⟨fun m σi Hi => ∃ ρi Fi, Stp X.K ρ σ F H ρi σi Fi Hi ∧ Out X.mg E ρi σi Hi (whF fc fb m ρi) (fun fl ρ' => match fl with
        | .nx => ∀ σ' F' H', Stp X.K ρ σ F H ρ' σ' F' H' → D.nx σ' H'
        | .bk => ∀ σ' F' H', Stp X.K ρ σ F H ρ' σ' F' H' → D.bk σ' H'
        | .ct => ∀ σ' F' H', Stp X.K ρ σ F H ρ' σ' F' H' → D.ct σ' H'
        | .rt r => ∀ σ' v F' H', Stp X.K ρ σ F H ρ' σ' F' H' → ROk ρ σ H ρ' σ' F' H' r v → D.rt v H'), ⟨n, ρ, F, Stp.refl R, q⟩, ?_⟩
    rintro m σi Hi ⟨ρi, Fi, Si, o⟩
    cases m with
    | zero => exact (show False from o).elim
    | succ m =>
      unfold whF at o
      refine ⟨ρi, Fi, Si.rel, ?_⟩
      cases e : fc ρi with
      | st => simp only [e] at o; exact (show False from o).elim
      | ex ex => simp only [e] at o; exact fun cls dd H'' xp => o cls dd H'' xp
      | ok r =>
        obtain ⟨b, ρ1⟩ := r
        cases b with
        | false =>
          simp only [e] at o
          intro F' H' S'
          have o' : ∀ σ' F' H', Stp X.K ρ σ F H ρ1 σ' F' H' → D.nx σ' H' := o
          exact o' _ _ _ (Si.trans S')
        | true =>
          simp only [e] at o
          intro F1 H1 S1
          refine ⟨fun σ' H' => ∃ ρi Fi, Stp X.K ρ σ F H ρi σ' Fi H' ∧ Out X.mg E ρi σ' H' (whF fc fb m ρi) _, fun σ' H' h => ⟨m, Nat.lt_succ_self m, h⟩, ρ1, F1, S1.rel, ?_⟩
          have Sc := Si.trans S1
          cases e2 : fb ρ1 with
          | st => simp only [e2] at o; exact (show False from o).elim
          | ex ex => simp only [e2] at o; exact fun cls dd H'' xp => o cls dd H'' (xp.after S1)
          | ok r2 =>
            obtain ⟨fl, ρ3⟩ := r2
            simp only [e2] at o
            cases fl with
            | nx => exact fun σ' F' H'' S' => ⟨ρ3, F', Sc.trans S', o.later (S1.trans S')⟩
            | ct => exact fun σ' F' H'' S' => ⟨ρ3, F', Sc.trans S', o.later (S1.trans S')⟩
            | bk =>
              have o' : ∀ σ' F' H', Stp X.K ρ σ F H ρ3 σ' F' H' → D.nx σ' H' := o
              exact fun σ' F' H'' S' => o' σ' F' H'' (Sc.trans S')
            | rt r =>
              have o' : ∀ σ' v F' H', Stp X.K ρ σ F H ρ3 σ' F' H' → ROk ρ σ H ρ3 σ' F' H' r v → D.rt v H' := o
              exact fun σ' v F' H'' S' ro => o' σ' v F' H'' (Sc.trans S') (ro.before Sc)
end
end Gx

/-! G34: any; numbers that stand in the module. -/
namespace Gx
open PySem PySem.Spec L2
open PyProof.Rows hiding St
section
variable {X : Cx} {E : XK} {pos : Pos}
def anyD : List PyData → Option Rv
  | [.list xs] => (bools xs).bind fun bs => fB (bs.any id)
  | _ => none
def IntAt (mg : Str → Option Value) (x : Str) (n : Int) : Prop := ∃ t, mg x = some (.int n t)
end
end Gx

/-! G35: a op b op c op d, as a test. -/
namespace Gx
open PySem PySem.Spec L2
open PyProof.Rows hiding St
section
variable {X : Cx} {E : XK} {pos : Pos} {a b c d : Expr} {ta tb tc td : TE}
def tChain3 (r r' r'' : R2) (ta tb tc td : TE) : TE := fun σ H Q => ta σ H fun x H1 => tb σ H1 fun y H2 => r x y H2 fun z H3 => ∃ k, z = .bl k ∧
  (if k = true then tc σ H3 fun w' H4 => r' y w' H4 fun z' H5 => ∃ k', z' = .bl k' ∧ (if k' = true then td σ H5 fun u' H6 => r'' w' u' H6 Q else Q (.bl false) H5) else Q (.bl false) H3)
def dCh3 (g g' g'' : PyData → PyData → Option Rv) (fa fb fc fd : Dn PyData) : Dn Rv := bnd fa fun x => bnd fb fun y => bnd (lft (g x y)) fun r => bnd (lft (boolOf r.d)) fun k => if k then bnd fc fun z => bnd (lft (g' y z)) fun r => bnd (lft (boolOf r.d)) fun k => if k then bnd fd fun u => lft (g'' z u) else ret (.fz (.bool false)) else ret (.fz (.bool false))
abbrev rOf (g : PyData → PyData → Option Rv) : R2 := fun x y H Q => ∃ F d e r, Same F H ∧ Dq F x d ∧ Dq F y e ∧ g d e = some r ∧ ∀ v F' H', Grow F H F' H' → NOk H F' H' r v → Q v H'
abbrev dChT3 (g g' g'' : PyData → PyData → Option Rv) (fa fb fc fd : Dn PyData) : Dn Bool := bnd (dCh3 g g' g'' fa fb fc fd) fun r => lft (boolOf r.d)
end
end Gx

/-! G36: a, b = a row, list or tuple. -/
namespace Gx
open PySem PySem.Spec L2
open PyProof.Rows hiding St
section
variable {X : Cx} {E : XK} {pos : Pos}
def hTupX (n : Nat) (g : List PyData → Ev → Option Ev) (d : PyData) (ρ : Ev) : Option Ev := match d with
  | .tuple ds => if ds.length = n then g ds ρ else none
  | .list ds => if ds.length = n then g ds ρ else none
  | _ => none
end
end Gx

/-! G37: dicts as data: {k: v for ..}, d[k]. -/
namespace Gx
open PySem PySem.Spec L2
open PyProof.Rows hiding St
def keyOf : PyData → Option Key
  | .int i => some (.inl i)
  | .str x => some (.inr x)
  | _ => none
theorem key_dq {F : Hp} {v : V} {d : PyData} {k : Key} (h : keyOf d = some k) (q : Dq F v d) : v = kV k ∧ d = keyD k := by
  cases d with
  | int i => cases h; cases q; exact ⟨rfl, rfl⟩
  | str x => cases h; cases q; exact ⟨rfl, rfl⟩
  | _ => cases h
def keq (a b : PyData) : Bool := match a, b with
  | .int i, .int j => decide (i = j)
  | .str x, .str y => decide (x = y)
  | _, _ => false
theorem keq_key (a b : Key) : keq (keyD a) (keyD b) = decide (a = b) := by
  cases a with
  | inl i => cases b with
    | inl j => exact decide_eq_decide.mpr ⟨fun h => by rw [h], fun h => Sum.inl.inj h⟩
    | inr y => exact (decide_eq_false (fun h => by cases h)).symm
  | inr x => cases b with
    | inl j => exact (decide_eq_false (fun h => by cases h)).symm
    | inr y => exact decide_eq_decide.mpr ⟨fun h => by rw [h], fun h => Sum.inr.inj h⟩
def putP (ps : List (PyData × PyData)) (k d : PyData) : List (PyData × PyData) :=
  if (ps.any fun p => keq p.1 k) = true then ps.map (fun p => if keq p.1 k = true then (p.1, d) else p) else ps ++ [(k, d)]
def lkP (ps : List (PyData × PyData)) (k : PyData) : Option PyData := (ps.find? fun p => keq p.1 k).map (·.2)
section
variable {F : Hp}
theorem dpk_len : ∀ {kvs : List (Key × V)} {ps : List (PyData × PyData)}, DqKv F kvs ps → kvs.length = ps.length
  | [], _, h => by cases h; rfl
  | _ :: _, _, h => by
    cases h with
    | cons h1 h2 => simp [dpk_len h2]
theorem dpk_any (k : Key) : ∀ {kvs : List (Key × V)} {ps : List (PyData × PyData)}, DqKv F kvs ps → (kvs.any fun kv => decide (kv.1 = k)) = ps.any fun p => keq p.1 (keyD k)
  | [], _, h => by cases h; rfl
  | _ :: _, _, h => by
    cases h with
    | cons h1 h2 => rw [List.any_cons, List.any_cons, dpk_any k h2, keq_key]
theorem dpk_map (k : Key) {v : V} {d : PyData} (q : Dq F v d) : ∀ {kvs : List (Key × V)} {ps : List (PyData × PyData)}, DqKv F kvs ps → DqKv F (kvs.map fun kv => if kv.1 = k then (kv.1, v) else kv) (ps.map fun p => if keq p.1 (keyD k) = true then (p.1, d) else p)
  | [], _, h => by cases h; exact .nil
  | (j, u) :: _, _, h => by
    cases h with
    | cons h1 h2 =>
      rw [List.map_cons, List.map_cons]
      have ih := dpk_map k q h2
      by_cases e : j = k
      · rw [if_pos e, if_pos (by rw [keq_key]; exact decide_eq_true e)]
        exact .cons q ih
      · rw [if_neg e, if_neg (by rw [keq_key]; simp [e])]
        exact .cons h1 ih
theorem dpk_snoc (k : Key) {v : V} {d : PyData} (q : Dq F v d) : ∀ {kvs : List (Key × V)} {ps : List (PyData × PyData)}, DqKv F kvs ps → DqKv F (kvs ++ [(k, v)]) (ps ++ [(keyD k, d)])
  | [], _, h => by cases h; exact .cons q .nil
  | _ :: _, _, h => by
    cases h with
    | cons h1 h2 => exact .cons h1 (dpk_snoc k q h2)
theorem dpk_put {kvs : List (Key × V)} {ps : List (PyData × PyData)} (h : DqKv F kvs ps) (k : Key) {v : V} {d : PyData} (q : Dq F v d) : DqKv F (putK kvs k v) (putP ps (keyD k) d) := by
  unfold putK putP
  rw [dpk_any k h]
  by_cases e : (ps.any fun p => keq p.1 (keyD k)) = true
  · rw [if_pos e, if_pos e]
    exact dpk_map k q h
  · rw [if_neg e, if_neg e]
    exact dpk_snoc k q h
theorem dpk_val (k : Key) : ∀ {kvs : List (Key × V)} {ps : List (PyData × PyData)}, DqKv F kvs ps → (valV kvs k = none ∧ lkP ps (keyD k) = none) ∨ ∃ v d, valV kvs k = some v ∧ lkP ps (keyD k) = some d ∧ Dq F v d
  | [], _, h => by cases h; exact .inl ⟨rfl, rfl⟩
  | (j, u) :: _, _, h => by
    cases h with
    | @cons _ _ d _ ps h1 h2 =>
      by_cases e : j = k
      · exact .inr ⟨u, d, valV_pos e, by unfold lkP; rw [List.find?_cons, keq_key, decide_eq_true e]; rfl, h1⟩
      · have e2 : lkP ((keyD j, d) :: ps) (keyD k) = lkP ps (keyD k) := by unfold lkP; rw [List.find?_cons, keq_key, decide_eq_false e]
        rw [valV_neg (p := (j, u)) e, e2]
        exact dpk_val k h2
end
section
variable {K : PySem.W.Frag} {ρ ρ1 : Ev} {σ σ1 : St} {F F1 H H1 : Hp}
end
def compK (h : PyData → Ev → Option Ev) (ft : Dn Bool) (fk fe : Dn PyData) (vs : List Nat) : List PyData → List (PyData × PyData) → Dn (List (PyData × PyData))
  | [], acc, ρ => .ok (acc, ρ)
  | d :: ds, acc, ρ => match h d ρ with
    | none => .st
    | some ρ1 => match ft ρ1 with
      | .ok (true, ρ2) => match fk ρ2 with
        | .ok (kd, ρ3) => match fe ρ3 with
          | .ok (y, ρ4) => match keyOf kd with
            | some _ => if okLen (acc.length + 1) then compK h ft fk fe vs ds (putP acc kd y) (wipeE ρ4 vs) else .st
            | none => .st
          | _ => .st
        | _ => .st
      | .ok (false, ρ2) => compK h ft fk fe vs ds acc (wipeE ρ2 vs)
      | _ => .st
def dDc (fi : Dn (List PyData)) (h : PyData → Ev → Option Ev) (ft : Dn Bool) (fk fe : Dn PyData) (vs : List Nat) : Dn PyData := bnd fi fun ds => fun ρ => if vs.all (fun v => !isBl ρ[v]?) then match compK h ft fk fe vs ds [] (wipeE ρ vs) with
  | .ok (ys, ρ2) => .ok (dicD ys, restE ρ ρ2 vs)
  | _ => .st
  else .st
section
variable {X : Cx} {E : XK} {pos : Pos}
def dgetD (d k : PyData) : Option PyData := match d with
  | .dict ((.none, .none) :: ps) => (keyOf k).bind fun _ => lkP ps k
  | _ => none
def dDg (fo fi : Dn PyData) : Dn PyData := bnd fo fun x => bnd fi fun k => lft (dgetD x k)
theorem dict_inv {F : Hp} {v : V} {ps : List (PyData × PyData)} (h : Dq F v (.dict ((.none, .none) :: ps))) : ∃ a kvs, v = .ref a ∧ F a = some (.dK kvs) ∧ DqKv F kvs ps := by
  cases h with
  | dic h1 h2 => exact ⟨_, _, rfl, h1, h2⟩
end
end Gx

/-! G38: min of a list of data that are alike. -/
namespace Gx
open PySem PySem.Spec L2
open PyProof.Rows hiding St
def notNone : PyData → Bool
  | .none => false
  | _ => true
def alikeB (xs : List PyData) : Bool := (xs.all fun x => xs.all fun y => PySem.W.alike x y) && (xs.all notNone)
theorem alikeB_ok {xs : List PyData} (h : alikeB xs = true) : PySem.W.AlikeAll xs := by
  unfold alikeB at h
  rw [Bool.and_eq_true] at h
  refine ⟨fun x hx y hy => List.all_eq_true.mp (List.all_eq_true.mp h.1 x hx) y hy, fun x hx z => ?_⟩
  have := List.all_eq_true.mp h.2 x hx
  rw [z] at this
  cases this
def leastX : List PyData → Option Rv
  | [] => none
  | x :: xs => if alikeB (x :: xs) && (clns (x :: xs) && decide (PyData.depthAll (x :: xs) ≤ 60)) then some (.fz (PySem.W.minD x xs)) else none
def minX : List PyData → Option Rv
  | [.int i, .int j] => fI (if j < i then j else i)
  | [.list xs] => leastX xs
  | _ => none
def rMinX (K : PySem.W.Frag) : List V → Hp → VK → Prop := fun vs H Q => ∃ (a : Addr) (ys : List V) (x : PyData) (xs : List PyData), vs = [V.ref a] ∧ SqL K H a ys ∧ DpAll K H ys (x :: xs) ∧ PySem.W.AlikeAll (x :: xs) ∧ PyData.depthAll (x :: xs) ≤ 60 ∧
  ∀ (i : Nat) (v : V), ys[i]? = some v → (x :: xs)[i]? = some (PySem.W.minD x xs) → Q v H
end Gx

/-! G39: dicts of one's own (keys: numbers, texts): {}, dict(pairs), d[k], k in d, d.get, len(d), d[k] = v, del d[k], setdefault. -/
namespace Gx
open PySem PySem.Spec L2
open PyProof.Rows hiding St
def dicE : Option En → Option (List (PyData × PyData))
  | some (.oo (.d ps)) => some ps
  | some (.bo (.d ps)) => some ps
  | some (.fz (.dict ((.none, .none) :: ps))) => some ps
  | _ => none
theorem dic_val {K : PySem.W.Frag} {ρ : Ev} {σ : St} {F H : Hp} {i : Nat} {ps : List (PyData × PyData)} (R : Rel K ρ σ F H) (h : dicE ρ[i]? = some ps) :
    ∃ p kvs, σ[i]? = some (some (.ref p)) ∧ DqKv F kvs ps ∧ H p = some (.dK kvs) := by
  unfold dicE at h
  split at h
  · rename_i e
    cases h
    obtain ⟨p, kvs, h1, h2, h3, h4⟩ := R.ds i ps (.inl e)
    exact ⟨p, kvs, h1, h4, h2⟩
  · rename_i e
    cases h
    obtain ⟨p, kvs, h1, h2, h3, h4⟩ := R.ds i ps (.inr e)
    exact ⟨p, kvs, h1, h4, h2⟩
  · rename_i e
    cases h
    obtain ⟨v, h1, h2⟩ := R.fz i _ e
    obtain ⟨a, kvs, rfl, h3, h4⟩ := dict_inv h2
    exact ⟨a, kvs, h1, h4, R.sub _ _ h3⟩
  · cases h
def atK (ps : List (PyData × PyData)) (k : PyData) : Option (Option PyData) := (keyOf k).map fun _ => lkP ps k
theorem atK_dq {F : Hp} {kvs : List (Key × V)} {ps : List (PyData × PyData)} {y : V} {k : PyData} {o : Option PyData} (d : DqKv F kvs ps) (hk : Dq F y k) (h : atK ps k = some o) :
    ∃ kk, y = kV kk ∧ k = keyD kk ∧ ((valV kvs kk = none ∧ o = none) ∨ ∃ v x, valV kvs kk = some v ∧ o = some x ∧ Dq F v x) := by
  unfold atK at h
  obtain ⟨kk, e1, e2⟩ := Option.map_eq_some_iff.mp h
  obtain ⟨ey, rfl⟩ := key_dq e1 hk
  refine ⟨kk, ey, rfl, ?_⟩
  subst e2
  rcases dpk_val kk d with ⟨z1, z2⟩ | ⟨v, x, z1, z2, z3⟩
  · exact .inl ⟨z1, z2⟩
  · exact .inr ⟨v, x, z1, z2, z3⟩
section
variable {X : Cx} {E : XK} {pos : Pos}
def dNewD : Dn Rv := ret (.od [])
theorem g_newD : PE X (.Dict [] [] pos) (tE X.K X.mg E dNewD) := pe_wk pe_dnewK fun σ H Q ⟨ρ, F, R, q⟩ p np => by
  have gr := Grow.own (o := .dK []) R.sub np
  have nk : NOk H F (upd H p (.dK [])) (.od []) (.ref p) := ⟨p, _, rfl, np, upd_same, R.sub.free np, [], rfl, .nil⟩
  exact (out_ret q) _ F _ (gr.stp R) (nk.rok R)
def dDk (i : Nat) (f : Dn PyData) : Dn PyData := fun ρ => if (dicE ρ[i]?).isSome then bnd f (fun k ρ => match (dicE ρ[i]?).bind fun ps => atK ps k with
  | some (some d) => .ok (d, ρ)
  | _ => .st) ρ else .st
theorem g_dk (i : Nat) {x : Str} {p2 : Pos} {e : Expr} {f : Dn PyData} (hu : X.A.units + 65 < cLine) (he : PE X e (tD X.K X.mg E f)) (hN : X.N[i]? = some x := by rfl) (hv : Vis X.env.scope x := by first | exact Or.inl rfl | exact Or.inr (Or.inl rfl) | exact Or.inr (Or.inr rfl))
    (hd : (x == ("__debug__" : Str)) = false := by decide) (hcd : (x == ("__classdict__" : Str)) = false := by decide) (hs : NoSl e := by intro _ _; rfl) : PE X (.Subscript (.Name x p2) e pos) (tD X.K X.mg E (dDk i f)) :=
  pe_wk (pe_dget (by omega) (pe_var hN hv hd hcd) he hs) fun σ H Q ⟨ρ, F, R, q⟩ => by
    unfold dDk at q
    cases hb : (dicE ρ[i]?).isSome with
    | false => rw [hb] at q; exact (show False from q).elim
    | true =>
    rw [hb] at q
    obtain ⟨ps0, h0⟩ := Option.isSome_iff_exists.mp hb
    obtain ⟨p, kvs0, hp, _⟩ := dic_val R h0
    refine ⟨.ref p, hp, ρ, F, R, (out_bnd (K := X.K) (F := F) q).mono fun k ρ1 kk v F1 H1 S1 dk => ?_⟩
    have q2 := kk _ _ _ S1
    cases hx : dicE ρ1[i]? with
    | none => simp only [hx] at q2; exact (show False from q2).elim
    | some ps =>
      obtain ⟨p', kvs, hp', dx, hh⟩ := dic_val S1.rel hx
      rw [hp] at hp'
      cases hp'
      simp only [hx, Option.bind_some] at q2
      cases ha : atK ps k with
      | none => simp only [ha] at q2; exact (show False from q2).elim
      | some o =>
        obtain ⟨kk, rfl, rfl, z⟩ := atK_dq dx dk ha
        rcases z with ⟨z1, rfl⟩ | ⟨w, y, z1, rfl, z3⟩
        · simp only [ha] at q2; exact (show False from q2).elim
        · simp only [ha] at q2
          exact ⟨p, w, rfl, by rw [← z1]; exact .k hh, q2 w F1 H1 S1 z3⟩
def dInD (neg : Bool) (i : Nat) (f : Dn PyData) : Dn PyData := bnd f (fun k ρ => match (dicE ρ[i]?).bind fun ps => atK ps k with
  | some o => .ok (.bool (if neg then !o.isSome else o.isSome), ρ)
  | _ => .st)
def dInT (neg : Bool) (i : Nat) (f : Dn PyData) : Dn Bool := bnd (dInD neg i f) fun d => lft (boolOf d)
def dGet1 (i : Nat) (f : Dn PyData) : Dn PyData := fun ρ => if (dicE ρ[i]?).isSome then bnd f (fun k ρ => match (dicE ρ[i]?).bind fun ps => atK ps k with
  | some o => .ok (o.getD .none, ρ)
  | _ => .st) ρ else .st
def dGet2 (i : Nat) (f g : Dn PyData) : Dn PyData := fun ρ => if (dicE ρ[i]?).isSome then bnd f (fun k => bnd g fun x ρ => match (dicE ρ[i]?).bind fun ps => atK ps k with
  | some o => .ok (o.getD x, ρ)
  | _ => .st) ρ else .st
theorem g_get2 (i : Nat) {x : Str} {p2 apos : Pos} {e e2 : Expr} {f g : Dn PyData} (hu : X.A.units + 65 < cLine) (he : PE X e (tD X.K X.mg E f)) (he2 : PE X e2 (tD X.K X.mg E g)) (m : M2 X (.Name x p2) "get" apos e e2 pos) (hN : X.N[i]? = some x := by rfl) (hv : Vis X.env.scope x := by first | exact Or.inl rfl | exact Or.inr (Or.inl rfl) | exact Or.inr (Or.inr rfl))
    (hd : (x == ("__debug__" : Str)) = false := by decide) (hcd : (x == ("__classdict__" : Str)) = false := by decide) : PE X (.Call (.Attribute (.Name x p2) "get" apos) [e, e2] [] pos) (tD X.K X.mg E (dGet2 i f g)) :=
  pe_wk (pe_dget2 (by omega) (pe_var hN hv hd hcd) he he2 m) fun σ H Q ⟨ρ, F, R, q⟩ => by
    unfold dGet2 at q
    cases hb : (dicE ρ[i]?).isSome with
    | false => rw [hb] at q; exact (show False from q).elim
    | true =>
    rw [hb] at q
    obtain ⟨ps0, h0⟩ := Option.isSome_iff_exists.mp hb
    obtain ⟨p, kvs0, hp, _, hh0⟩ := dic_val R h0
    refine ⟨.ref p, hp, p, rfl, .inl ⟨kvs0, .inl hh0⟩, ρ, F, R, (out_bnd (K := X.K) (F := F) q).mono fun k ρ1 k0 v F1 H1 S1 dk => ?_⟩
    refine ⟨ρ1, F1, S1.rel, (out_bnd (K := X.K) (F := F1) (k0 _ _ _ S1)).mono fun dx0 ρ2 k2 u F2 H2 S2 du => ?_⟩
    have q2 := k2 _ _ _ S2
    have S12 := S1.trans S2
    have dk := dp_mono S2.ff _ _ dk
    cases hx : dicE ρ2[i]? with
    | none => simp only [hx] at q2; exact (show False from q2).elim
    | some ps =>
      obtain ⟨p', kvs, hp', dx, hh⟩ := dic_val S2.rel hx
      rw [hp] at hp'
      cases hp'
      simp only [hx, Option.bind_some] at q2
      cases ha : atK ps k with
      | none => simp only [ha] at q2; exact (show False from q2).elim
      | some o =>
        obtain ⟨kk, rfl, rfl, z⟩ := atK_dq dx dk ha
        simp only [ha] at q2
        refine ⟨_, .k hh, ?_⟩
        rcases z with ⟨z1, rfl⟩ | ⟨w, y, z1, rfl, z3⟩
        · rw [z1]
          exact q2 _ F2 H2 S12 du
        · rw [z1]
          exact q2 _ F2 H2 S12 z3
def dLenD (i : Nat) : Dn PyData := fun ρ => match dicE ρ[i]? with
  | some ps => .ok (.int ps.length, ρ)
  | none => .st
/-! ### changes -/
def updD (i : Nat) (g : List (PyData × PyData) → Option (List (PyData × PyData))) : Dn Fl := fun ρ => match (ownOfD ρ[i]?).bind g with
  | some ys => .ok (.nx, ρ.set i (reKindC ρ[i]? (.d ys)))
  | none => .st
theorem own_updD {K : PySem.W.Frag} {ρ ρ1 : Ev} {σ σ1 : St} {F F1 H H1 : Hp} {i : Nat} {p : Addr} {kvs : List (Key × V)} {xs ys : List (PyData × PyData)} (S : Stp K ρ σ F H ρ1 σ1 F1 H1) (hx : ownOfD ρ1[i]? = some xs) (hp : σ1[i]? = some (some (.ref p))) (d : DqKv F1 kvs ys) :
    Stp K ρ σ F H (ρ1.set i (reKindC ρ1[i]? (.d ys))) σ1 F1 (upd H1 p (.dK kvs)) := own_updC (ys := .d ys) S (ownOfD_C hx) hp ⟨kvs, rfl, d⟩
def putD (d k : PyData) (ps : List (PyData × PyData)) : Option (List (PyData × PyData)) := (keyOf k).bind fun _ => if okLen (ps.length + 1) then some (putP ps k d) else none
def sPutD (i : Nat) (fk f : Dn PyData) : Dn Fl := bnd f fun d => fun ρ => if (ownOfD ρ[i]?).isSome then bnd fk (fun k => updD i (putD d k)) ρ else .st
theorem putD_dq {F : Hp} {kvs : List (Key × V)} {ps qs : List (PyData × PyData)} {y v : V} {k d : PyData} (h : putD d k ps = some qs) (dx : DqKv F kvs ps) (hk : Dq F y k) (dv : Dq F v d) : ∃ kk, y = kV kk ∧ DqKv F (putK kvs kk v) qs ∧ kvs.length < sizeLine := by
  unfold putD at h
  obtain ⟨kk, e1, e2⟩ := Option.bind_eq_some_iff.mp h
  obtain ⟨ey, rfl⟩ := key_dq e1 hk
  by_cases hl : okLen (ps.length + 1) = true
  · rw [if_pos hl] at e2
    cases e2
    refine ⟨kk, ey, dpk_put dx kk dv, ?_⟩
    have := okLen_le hl
    rw [dpk_len dx]
    omega
  · rw [if_neg hl] at e2
    cases e2
theorem gs_putD (i : Nat) {x : Str} {e ei : Expr} {p2 tpos : Pos} {f fk : Dn PyData} (hu : X.A.units + 65 < cLine) (he : PE X e (tD X.K X.mg E f)) (hi : PE X ei (tD X.K X.mg E fk)) (hN : X.N[i]? = some x := by rfl) (hv : Vis X.env.scope x := by first | exact Or.inl rfl | exact Or.inr (Or.inl rfl) | exact Or.inr (Or.inr rfl))
    (hd : (x == ("__debug__" : Str)) = false := by decide) (hcd : (x == ("__classdict__" : Str)) = false := by decide)
    (hs : swapsWith e (some (.Subscript (.Name x p2) ei tpos)) pos.line X.env = pure false := by rfl) :
    PS X (.Assign [.Subscript (.Name x p2) ei tpos] e pos) (tS X.K X.mg E (sPutD i fk f)) :=
  ps_wk (ps_dput (by omega) (pe_var hN hv hd hcd) hi he hs) fun D σ H ⟨ρ, F, R, q⟩ => ⟨ρ, F, R, (out_bnd (K := X.K) (F := F) q).mono fun d ρ1 k v F1 H1 S1 dq => by
    have q1 := k _ _ _ S1
    cases hb : (ownOfD ρ1[i]?).isSome with
    | false => rw [hb] at q1; exact (show False from q1).elim
    | true =>
    rw [hb] at q1
    obtain ⟨xs0, h0⟩ := Option.isSome_iff_exists.mp hb
    obtain ⟨p, kvs0, hp, h2, _⟩ := S1.rel.ds i xs0 (ownOfD_some h0)
    refine ⟨.ref p, hp, ρ1, F1, S1.rel, (out_bnd (K := X.K) (F := F1) q1).mono fun n ρ2 k2 u F2 H2 S2 dn => ?_⟩
    have q3 := k2 _ _ _ S2
    unfold updD at q3
    cases hx : ownOfD ρ2[i]? with
    | none => rw [hx] at q3; exact (show False from q3).elim
    | some xs =>
      obtain ⟨p', kvs, hp', a2, a3, a4⟩ := S2.rel.ds i xs (ownOfD_some hx)
      rw [hp] at hp'
      cases hp'
      rw [hx] at q3
      cases hq : putD d n xs with
      | none => simp only [Option.bind_some, hq] at q3; exact (show False from q3).elim
      | some qs =>
        simp only [Option.bind_some, hq] at q3
        obtain ⟨kk, rfl, d2, hl⟩ := putD_dq hq a4 dn (dp_mono S2.ff _ _ dq)
        exact ⟨p, _, rfl, .k a2 hl, q3 σ F2 _ (own_updD (S1.trans S2) hx hp d2)⟩⟩
def dropP (ps : List (PyData × PyData)) (k : PyData) : List (PyData × PyData) := ps.filter fun p => !keq p.1 k
def delD (k : PyData) (ps : List (PyData × PyData)) : Option (List (PyData × PyData)) := (atK ps k).bind fun o => if o.isSome then some (dropP ps k) else none
def sDelD (i : Nat) (fk : Dn PyData) : Dn Fl := fun ρ => if (ownOfD ρ[i]?).isSome then bnd fk (fun k => updD i (delD k)) ρ else .st
def setdD (d k : PyData) (ps : List (PyData × PyData)) : Option (List (PyData × PyData)) := (atK ps k).bind fun o => if o.isSome then (if okLen (ps.length + 1) then some ps else none) else putD d k ps
def sSetdD (i : Nat) (fk f : Dn PyData) : Dn Fl := fun ρ => if (ownOfD ρ[i]?).isSome then bnd fk (fun k => bnd f fun d => updD i (setdD d k)) ρ else .st
/-! ### made by a call -/
def prsOf : List PyData → Option (List (PyData × PyData))
  | [] => some []
  | .tuple [k, d] :: xs => (keyOf k).bind fun _ => (prsOf xs).map ((k, d) :: ·)
  | _ => none
def mergeP (ps more : List (PyData × PyData)) : List (PyData × PyData) := more.foldl (fun acc p => putP acc p.1 p.2) ps
theorem dpk_merge {F : Hp} : ∀ {more : List (Key × V)} {ms : List (PyData × PyData)} {kvs : List (Key × V)} {ps : List (PyData × PyData)}, DqKv F more ms → DqKv F kvs ps → DqKv F (mergeK kvs more) (mergeP ps ms)
  | [], _, kvs, ps, h, h0 => by cases h; exact h0
  | (j, u) :: more, _, kvs, ps, h, h0 => by
    cases h with
    | @cons _ _ d _ ms h1 h2 =>
      show DqKv F (mergeK (putK kvs j u) more) (mergeP (putP ps (keyD j) d) ms)
      exact dpk_merge h2 (dpk_put h0 j h1)
theorem prs_dq {K : PySem.W.Frag} {F H : Hp} (s : Same F H) : ∀ {xs : List PyData} {vs : List V} {ps : List (PyData × PyData)}, DqAll F vs xs → prsOf xs = some ps → ∃ (as : List Addr) (kvs : List (Key × V)), vs = as.map V.ref ∧ Paired (fun p kv => SqT K H p [kV kv.1, kv.2]) as kvs ∧ DqKv F kvs ps
  | [], vs, ps, h, e => by
    cases h
    cases e
    exact ⟨[], [], rfl, .nil, .nil⟩
  | x :: xs, vs, ps, h, e => by
    unfold prsOf at e
    split at e
    · rename_i e0; cases e0
    · rename_i k d ys e0
      cases e0
      obtain ⟨kk, e1, e2⟩ := Option.bind_eq_some_iff.mp e
      obtain ⟨qs, e3, rfl⟩ := Option.map_eq_some_iff.mp e2
      cases h with
      | cons h1 h2 =>
        obtain ⟨as, kvs, rfl, hp, hk⟩ := prs_dq s h2 e3
        cases h1 with
        | @tup a us _ ha hx =>
          cases hx with
          | cons d1 d2 =>
            cases d2 with
            | cons d2 d3 =>
              cases d3
              obtain ⟨rfl, rfl⟩ := key_dq e1 d1
              exact ⟨a :: as, (kk, _) :: kvs, rfl, .cons (.of (s _ _ ha)) hp, .cons d2 hk⟩
    · cases e
def dictD : List PyData → Option Rv
  | [.list xs] => (prsOf xs).map fun ps => .od (mergeP [] ps)
  | [.dict ((.none, .none) :: ps)] => some (.od ps)
  | _ => none
theorem call_dictD2 (hc : X.calm = true) : CallD X (.type "dict") dictD := callR_wk ((call_dictP hc).or call_dictD) fun xs H Q ⟨F, ds, r, s, dq, hr, q⟩ => by
  unfold dictD at hr
  split at hr
  · rename_i xs
    obtain ⟨ps, e1, rfl⟩ := Option.map_eq_some_iff.mp hr
    cases dq with
    | cons d1 d2 =>
      cases d2
      cases d1 with
      | @lst a vs _ ha hx =>
        obtain ⟨as, kvs, rfl, hp, hk⟩ := prs_dq (K := X.K) s hx e1
        exact .inl ⟨a, as, kvs, rfl, .of (s _ _ ha), hp, fun p np => q _ _ _ (Grow.own s np) ⟨p, _, rfl, np, upd_same, s.free np, _, rfl, dpk_merge hk .nil⟩⟩
  · rename_i ps
    cases hr
    cases dq with
    | cons d1 d2 =>
      cases d2
      obtain ⟨a, kvs, rfl, ha, hk⟩ := dict_inv d1
      exact .inr ⟨a, kvs, rfl, .inl (s _ _ ha), fun p np => q _ _ _ (Grow.own s np) ⟨p, _, rfl, np, upd_same, s.free np, _, rfl, hk⟩⟩
  · cases hr
def keysD : List PyData → Option Rv
  | [.dict ((.none, .none) :: ps)] => some (.ol (ps.map (·.1)))
  | _ => none
theorem dq_keyD {F : Hp} (k : Key) : Dq F (kV k) (keyD k) := by cases k with | inl i => exact .int i | inr x => exact .str x
theorem dqs_keys {F : Hp} : ∀ {kvs : List (Key × V)} {ps : List (PyData × PyData)}, DqKv F kvs ps → DqAll F (kvs.map fun kv => kV kv.1) (ps.map (·.1))
  | [], _, h => by cases h; exact .nil
  | _ :: _, _, h => by
    cases h with
    | cons h1 h2 => exact .cons (dq_keyD _) (dqs_keys h2)
theorem call_keysD (hc : X.calm = true) : CallD X (.type "list") keysD := callR_wk (call_listD hc) fun xs H Q ⟨F, ds, r, s, dq, hr, q⟩ => by
  unfold keysD at hr
  split at hr
  · rename_i ps
    cases hr
    cases dq with
    | cons d1 d2 =>
      cases d2
      obtain ⟨a, kvs, rfl, ha, hk⟩ := dict_inv d1
      exact ⟨a, kvs, rfl, .inl (s _ _ ha), fun p np => q _ _ _ (Grow.own s np) ⟨p, _, rfl, np, upd_same, s.free np, _, rfl, dqs_keys hk⟩⟩
  · cases hr
def listDX (ds : List PyData) : Option Rv := (listD ds).or (keysD ds)
theorem call_listDX (hc : X.calm = true) : CallD X (.type "list") listDX := callD_or call_listDD (call_keysD hc)
end
end Gx

/-! G40: min and max with default=. -/
namespace Gx
open PySem PySem.Spec L2
open PyProof.Rows hiding St
def CallKD (X : Cx) (f : Value) (ks : List Str) (g : List PyData → List PyData → Option Rv) : Prop :=
  CallRK X f ks fun xs zs H Q => ∃ F ds es r, Same F H ∧ DqAll F xs ds ∧ DqAll F zs es ∧ g ds es = some r ∧ ∀ v F' H', Grow F H F' H' → NOk H F' H' r v → Q v H'
def dCallK (g : List PyData → List PyData → Option Rv) (f fk : Dn (List PyData)) : Dn Rv := bnd f fun ds => bnd fk fun es => lft (g ds es)
def okAlike (xs : List PyData) : Bool := alikeB xs && (clns xs && decide (PyData.depthAll xs ≤ 60))
def minDf : List PyData → List PyData → Option Rv
  | [.list []], [d] => some (.fz d)
  | [.list (x :: xs)], [_] => if okAlike (x :: xs) then some (.fz (PySem.W.minD x xs)) else none
  | _, _ => none
def maxDf : List PyData → List PyData → Option Rv
  | [.list []], [d] => some (.fz d)
  | [.list (x :: xs)], [_] => if okAlike (x :: xs) then some (.fz (PySem.W.maxD x xs)) else none
  | _, _ => none
section
variable {X : Cx} {E : XK} {pos : Pos}
theorem okAlike_ok {xs : List PyData} (h : okAlike xs = true) : PySem.W.AlikeAll xs ∧ clns xs = true ∧ PyData.depthAll xs ≤ 60 := by
  unfold okAlike at h
  rw [Bool.and_eq_true, Bool.and_eq_true, decide_eq_true_eq] at h
  exact ⟨alikeB_ok h.1, h.2⟩
end
end Gx

/-! G41: sorted, of a tuple of rows of ints. -/
namespace Gx
open PySem PySem.Spec L2
open PyProof.Rows hiding St
section
variable {prog : Program} {w : World} {A : Around} {E : Value → Shared → Prop} {s : Shared}
end
def rLotsT (K : PySem.W.Frag) : List V → Hp → VK → Prop := fun vs H Q => ∃ (a : Addr) (xs : List V) (k : V → List Int), vs = [.ref a] ∧ SqT K H a xs ∧ (∀ x ∈ xs, ∃ t, x = .ref t ∧ SqT K H t ((k x).map V.int)) ∧
  ∀ (ys : List V) (p : Addr), ys.Perm xs → ys.Pairwise (fun x y => HT.lexLt (k y) (k x) = false) → H p = none → Q (.ref p) (upd H p (.lst ys))
def sort3D : List PyData → Option Rv
  | [.tuple ds] => (lotsD ds).map fun nss => .ol ((srtL nss).map tupI)
  | _ => none
end Gx

/-! G42: a name set to a comprehension over two. -/
namespace Gx
open PySem PySem.Spec L2
open PyProof.Rows hiding St
section
variable {X : Cx} {E : XK} {pos : Pos}
theorem gs_setComp2 {i : Nat} {y : Str} {py spos : Pos} {elt tg iter tg1 iter1 : Expr} {ifs ifs1 : List Expr} {scope : Scope} {own : List (Str × Nat)} {ts ts1 vs1 : List Nat} {fi fi1 : Dn (List PyData)} {h h1 : PyData → Ev → Option Ev} {ft ft1 : Dn Bool} {fe : Dn PyData} (hc : X.calm = true) (hN : X.N.Nodup) (hy : X.N[i]? = some y) (hyl : X.env.scope.names.lookup y = some .local)
    (hsw : swapsWith (.ListComp elt [⟨tg, iter, ifs, 0⟩, ⟨tg1, iter1, ifs1, 0⟩] scope pos) (some (.Name y py)) spos.line X.env = pure true) (hi : PI X tg iter (tI X.K X.mg E fi)) (ok : BlkOk X.N X.env.scope scope own)
    (hts : ∀ i ∈ ts, i ∈ own.map (·.2)) (hts1 : ∀ i ∈ ts1, i ∈ vs1) (hv1 : ∀ i ∈ vs1, i ∈ own.map (·.2)) (hg : ∀ (s : Shared) (H : Hp) (C : Addr) (cl : List (Str × Addr)) (fp : List Addr), PG (X.blk s H scope (compEnvC scope cl C X.env) fp) tg (tGd X.K ts h))
    (ht : ∀ (s : Shared) (H : Hp) (C : Addr) (cl : List (Str × Addr)) (fp : List Addr), PTs (X.blk s H scope (compEnvC scope cl C X.env) fp) ifs (tT X.K X.mg E0 ft))
    (hi1 : ∀ (s : Shared) (H : Hp) (C : Addr) (cl : List (Str × Addr)) (fp : List Addr), PI (X.blk s H scope (compEnvC scope cl C X.env) fp) tg1 iter1 (tI X.K X.mg E0 fi1))
    (hg1 : ∀ (s : Shared) (H : Hp) (C : Addr) (cl : List (Str × Addr)) (fp : List Addr), PG (X.blk s H scope (compEnvC scope cl C X.env) fp) tg1 (tGd X.K ts1 h1))
    (ht1 : ∀ (s : Shared) (H : Hp) (C : Addr) (cl : List (Str × Addr)) (fp : List Addr), PTs (X.blk s H scope (compEnvC scope cl C X.env) fp) ifs1 (tT X.K X.mg E0 ft1))
    (he : ∀ (s : Shared) (H : Hp) (C : Addr) (cl : List (Str × Addr)) (fp : List Addr), PE (X.blk s H scope (compEnvC scope cl C X.env) fp) elt (tD X.K X.mg E0 fe))
    (hs : ∀ x, foldedSetIterable iter X.env x = pure x := by intro _; rfl) (hs1 : ∀ env x, foldedSetIterable iter1 env x = pure x := by intro _ _; rfl) :
    PS X (.Assign [.Name y py] (.ListComp elt [⟨tg, iter, ifs, 0⟩, ⟨tg1, iter1, ifs1, 0⟩] scope pos) spos) (tS X.K X.mg E (sSet i (dComp2 fi h ft fi1 h1 ft1 fe (own.map (·.2)) vs1))) :=
  ps_wk (ps_setLc2 hc hN hy hyl hsw hi ok hv1 hg ht hi1 hg1 ht1 he hs hs1) fun D σ H q => by
    obtain ⟨ρ, F, R, q⟩ := q
    refine lc2_wk (E := E) hts hts1 hv1 σ H _ ⟨ρ, F, R, (out_bnd (K := X.K) (F := F) q).mono fun r ρ1 k v F1 H1 S1 ro => ?_⟩
    obtain ⟨q2, S2⟩ := put_stp S1 ro (k _ _ _ S1)
    exact q2 _ F1 H1 S2
end
end Gx

/-! G43: sorted, of any data that are alike. -/
namespace Gx
open PySem PySem.Spec L2
open PyProof.Rows hiding St
def tupB : PyData → Bool
  | .tuple (_ :: _) => true
  | _ => false
def flatB : PyData → Bool
  | .none => false
  | .tuple _ => false
  | _ => true
def sorB (xs : List PyData) : Bool := xs.all tupB || xs.all flatB
theorem sorB_ok {xs : List PyData} (h : sorB xs = true) : PySem.W.Sortable xs := by
  unfold sorB at h
  rw [Bool.or_eq_true, List.all_eq_true, List.all_eq_true] at h
  rcases h with h | h
  · refine .inl fun d hd => ?_
    have := h d hd
    match d, this with
    | .tuple (x :: r), _ => exact ⟨x, r, rfl⟩
  · refine .inr fun d hd => ?_
    have := h d hd
    constructor
    · rintro rfl; cases this
    · rintro ys rfl; cases this
def srtX (xs : List PyData) : List PyData := xs.mergeSort (PySem.W.dataLe false id)
def sortX : List PyData → Option Rv
  | [.list xs] => if okAlike xs && sorB xs then some (.ol (srtX xs)) else none
  | _ => none
abbrev VD := V × PyData
def srtP (ps : List VD) : List VD := ps.mergeSort (PySem.W.dataLe false (·.2))
theorem srtP_snd (ps : List VD) : (srtP ps).map (·.2) = srtX (ps.map (·.2)) := List.map_mergeSort fun _ _ _ _ => rfl
theorem each_zip : ∀ {ys : List V} {its : List Value} {ds : List PyData}, Vals ys its → ys.length = ds.length → PySem.W.EachIs (fun (v : Value) (b : VD) => RelV b.1 v) its (ys.zip ds)
  | [], _, [], h, _ => by cases h; exact .nil
  | y :: ys, _, d :: ds, h, l => by
    cases h with
    | cons h1 h2 => exact .cons h1 (each_zip h2 (by simpa using l))
theorem each_reads {h : Heap} : ∀ {ys : List V} {its : List Value} {ds : List PyData} {as : List Addr}, ReadsAll h its ds as → ys.length = ds.length → PySem.W.EachIs (fun (v : Value) (b : VD) => ∃ as, Reads h v b.2 as) its (ys.zip ds)
  | [], its, [], _, r, _ => by cases r; exact .nil
  | y :: ys, _, d :: ds, _, r, l => by
    cases r with
    | cons r1 r2 => exact .cons ⟨_, r1⟩ (each_reads r2 (by simpa using l))
theorem each_vals : ∀ {its : List Value} {ps : List VD}, PySem.W.EachIs (fun (v : Value) (b : VD) => RelV b.1 v) its ps → Vals (ps.map (·.1)) its
  | _, [], h => by cases h; exact .nil
  | _, p :: ps, h => by
    cases h with
    | cons h1 h2 => exact .cons h1 (each_vals h2)
def rSortX (K : PySem.W.Frag) : List V → Hp → VK → Prop := fun vs H Q => ∃ (a : Addr) (ys : List V) (ds : List PyData), vs = [V.ref a] ∧ SqL K H a ys ∧ DpAll K H ys ds ∧ ys.length = ds.length ∧ PySem.W.AlikeAll ds ∧ PySem.W.Sortable ds ∧ PyData.depthAll ds ≤ 60 ∧
  ∀ p : Addr, H p = none → Q (.ref p) (upd H p (.lst ((srtP (ys.zip ds)).map (·.1))))
theorem depth_mem : ∀ {ds : List PyData} {d : PyData}, d ∈ ds → PyData.depth d ≤ PyData.depthAll ds
  | e :: ds, d, h => by
    have q : PyData.depthAll (e :: ds) = max (PyData.depth e) (PyData.depthAll ds) := by simp [PyData.depthAll]
    rw [q]
    rcases List.mem_cons.mp h with rfl | h
    · omega
    · have := depth_mem h
      omega
theorem cr_sortX {X : Cx} (hu : X.A.units + 65 < cLine) : CallR X (.builtin "sorted") (rSortX X.K) := by
  intro pins s σ H vs us Q I r h
  obtain ⟨a, ys, ds, rfl, hs, hd, ln, ha, hk, h60, q⟩ := h
  obtain ⟨its, rv, hl, hz⟩ := I.list hs
  rw [Vals.ref1 r]
  obtain ⟨as, hr⟩ := Dp.readsAll I _ _ _ hd rv
  have zs : (ys.zip ds).map (·.2) = ds := List.map_snd_zip (by omega)
  have zl : (ys.zip ds).length = ys.length := by rw [List.length_zip]; omega
  refine PySem.W.sorted_data (bs := ys.zip ds) (enc := (·.2)) (R := fun (v : Value) (b : VD) => RelV b.1 v) hl.isList (each_zip rv ln) (each_reads hr ln) (by rw [zs]; exact fun x hx y hy => ha.1 x hx y hy) (by rw [zs]; exact hk) (by rw [zl]; exact hz) (fun b hb => ?_) fun out hlen eo => ?_
  · have : b.2 ∈ ds := by rw [← zs]; exact List.mem_map.mpr ⟨b, hb, rfl⟩
    have := depth_mem this
    omega
  · have vl := each_vals eo
    obtain ⟨n, hn⟩ := sortedAll_at s.heap its out.toArray
    have hd' : s.heap.objs.size ≤ s.heap.objs.size + 1 := Nat.le_succ _
    refine ⟨.ref (s.heap.objs.size + 1), _, I.laid (t' := s.toks) (o := .lst ((srtP (ys.zip ds)).map (·.1))) (fun b o e => sortedAll_old e) hd' ⟨?_, out, n, vl, hn⟩, rfl, q _ (I.hok.fresh hd')⟩
    have : ((srtP (ys.zip ds)).map (·.1)).length = ys.length := by
      rw [List.length_map]
      unfold srtP
      rw [List.length_mergeSort, zl]
    rw [this]
    exact hz
theorem call_sortX {X : Cx} (hu : X.A.units + 65 < cLine) : CallD X (.builtin "sorted") sortX := callR_wk (cr_sortX hu) fun xs H Q h => by
  obtain ⟨F, ds, r, s, h1, hr, q⟩ := h
  cases h1 with
  | nil => cases hr
  | cons h1 h2 =>
    cases h2 with
    | cons _ _ => cases h1 <;> cases hr
    | nil =>
      cases h1 with
      | @lst a vs xs ha hx =>
        have hr' : (if okAlike xs && sorB xs then some (Rv.ol (srtX xs)) else none) = some r := hr
        by_cases c : (okAlike xs && sorB xs) = true
        · rw [if_pos c] at hr'
          cases hr'
          rw [Bool.and_eq_true] at c
          obtain ⟨c1, c2, c3⟩ := okAlike_ok c.1
          have ln : vs.length = xs.length := dps_len hx
          refine ⟨a, vs, xs, rfl, .of (s _ _ ha), dqs_dp _ _ c2 (dps_mono s _ _ hx), ln, c1, sorB_ok c.2, c3, fun p np => ?_⟩
          have dz : ∀ {vs : List V} {xs : List PyData}, DqAll F vs xs → ∀ b ∈ vs.zip xs, Dq F b.1 b.2 := by
            intro vs
            induction vs with
            | nil => intro xs _ b hb; cases hb
            | cons v vs ih =>
              intro xs h b hb
              cases h with
              | cons h1 h2 =>
                rw [List.zip_cons_cons] at hb
                rcases List.mem_cons.mp hb with rfl | hb
                · exact h1
                · exact ih h2 b hb
          have da : ∀ ps : List VD, (∀ b ∈ ps, Dq F b.1 b.2) → DqAll F (ps.map (·.1)) (ps.map (·.2)) := by
            intro ps
            induction ps with
            | nil => intro _; exact .nil
            | cons b ps ih => intro h; exact .cons (h b (by simp)) (ih fun x hx => h x (by simp [hx]))
          have dy := da (srtP (vs.zip xs)) fun b hb => dz hx b ((List.mergeSort_perm _ _).mem_iff.mp hb)
          rw [srtP_snd, List.map_snd_zip (by omega)] at dy
          exact q _ _ _ (Grow.own s np) ⟨p, _, rfl, np, upd_same, s.free np, _, rfl, dy⟩
        · rw [if_neg c] at hr'
          cases hr'
      | _ => cases hr
end Gx

/-! G44: x in a list of one's own, x not in it. -/
namespace Gx
open PySem PySem.Spec L2
open PyProof.Rows hiding St
def lstE : Option En → Option (List PyData)
  | some (.oo (.l xs)) => some xs
  | some (.bo (.l xs)) => some xs
  | some (.fz (.list xs)) => some xs
  | _ => none
def dInP (neg : Bool) (i : Nat) (f : Dn PyData) : Dn PyData := bnd f (fun d ρ => match (lstE ρ[i]?).bind fun xs => inB d (.list xs) with
  | some b => .ok (.bool (if neg then !b else b), ρ)
  | none => .st)
section
variable {X : Cx} {E : XK} {pos : Pos}
def dInPT (neg : Bool) (i : Nat) (f : Dn PyData) : Dn Bool := bnd (dInP neg i f) fun d => lft (boolOf d)
end
end Gx

/-! G45: a range kept as a value, and walked. -/
namespace Gx
open PySem PySem.Spec L2
open PyProof.Rows hiding St
def rangeVD : List PyData → Option Rv
  | [.int i, .int j] => if small62 i && small62 j then some (.fz (rngD i j)) else none
  | _ => none
section
variable {X : Cx} {E : XK} {pos : Pos} {tg : Expr}
def iRngV (te : TE) : L2.TI := fun σ H R => te σ H fun x H1 => ∃ (a : Addr) (i j : Int), x = .ref a ∧ H1 a = some (.rng i j) ∧ (-(2 ^ 62) ≤ i ∧ i < 2 ^ 62 ∧ -(2 ^ 62) ≤ j ∧ j < 2 ^ 62) ∧ R (Itr i (j - i).toNat) H1
def rgV : PyData → Option (List PyData)
  | .dict [(.bool true, .none), (.int i, .int j)] => if small62 i && small62 j then some (rgD i (j - i).toNat) else none
  | _ => none
def iRgV (f : Dn PyData) : Dn (List PyData) := bnd f fun d => lft (rgV d)
end
end Gx

/-! G46: how many different numbers a row has: len(set(..)). -/
namespace Gx
open PySem PySem.Spec L2
open PyProof.Rows hiding St
def lenSetL (ds : List PyData) : Option Rv := (intsD ds).bind fun ns => if ns.length < 1000 then some (.fz (.int ((setI ns).length : Nat))) else none
def lenSetD : List PyData → Option Rv
  | [d] => (setSq d).bind lenSetL
  | _ => none
section
variable {X : Cx} {E : XK} {pos pos2 : Pos}
def rLenSet (w : World) : List V → Hp → VK → Prop := fun vs H Q => ∃ (a : Addr) (S : Int → Bool) (n : Nat), vs = [V.ref a] ∧ H a = some (SetO w a S n) ∧ n < 1000000 ∧ Q (.int (n : Nat)) H
end
end Gx

/-! G47: a row walked from its end: reversed(x), tuple(reversed(x)). -/
namespace Gx
open PySem PySem.Spec L2
open PyProof.Rows hiding St
open RT
def rvD (d : PyData) : Option (List PyData) := (seqOf d).map List.reverse
def iRev (f : Dn PyData) : Dn (List PyData) := bnd f fun d => lft (rvD d)
def rvTD : PyData → Option Rv
  | .list xs => some (.fz (.tuple xs.reverse))
  | _ => none
def dTupRev (f : Dn PyData) : Dn Rv := bnd f fun d => lft (rvTD d)
section
variable {X : Cx} {E : XK} {pos : Pos} {tg : Expr}
end
end Gx

/-! G48: sorted, of a tuple: of ints, or of rows of ints. -/
namespace Gx
open PySem PySem.Spec L2
open PyProof.Rows hiding St
def rIntsT (K : PySem.W.Frag) : List V → Hp → VK → Prop := fun vs H Q => ∃ (a : Addr) (ns : List Int), vs = [V.ref a] ∧ SqT K H a (ns.map V.int) ∧
  ∀ (ns' : List Int) (p : Addr), ns'.Perm ns → ns'.Pairwise (· ≤ ·) → H p = none → Q (.ref p) (upd H p (.lst (ns'.map V.int)))
def sort4D : List PyData → Option Rv
  | [.tuple ds] => match intsD ds with
    | some ns => some (.ol ((srtI ns).map .int))
    | none => (lotsD ds).map fun nss => .ol ((srtL nss).map tupI)
  | _ => none
end Gx

/-! G32: x, y, z = a, b, c, where a name is read by a comprehension. -/
namespace Gx
open PySem PySem.Spec L2
open PyProof.Rows hiding St
def parX (i j l : Nat) : List Ar → Dn Fl
  | [a, b, c] => fun ρ => match rvA a, rvA b, rvA c with
    | some r, some t, some u => if isBl ρ[i]? || (isBl (ρ.set i r.en)[j]? || isBl ((ρ.set i r.en).set j t.en)[l]?) then .st else .ok (.nx, ((ρ.set i r.en).set j t.en).set l u.en)
    | _, _, _ => .st
  | _ => fun _ => .st
def sParX (i j l : Nat) (f : Dn (List Ar)) : Dn Fl := bnd f (parX i j l)
theorem ar_tp_of {a : Ar} {r : Rv} {xs : Cn} (h : rvA a = some r) (e : r = .oo xs) : a = .tq xs := by
  subst e
  cases a <;> simp [rvA] at h
  subst h
  rfl
section
variable {X : Cx} {E : XK} {pos : Pos}
end
end Gx

/-! G49: three names assigned at once, own things among them. -/
namespace Gx
open PySem PySem.Spec L2
open PyProof.Rows hiding St
section
variable {X : Cx} {E : XK} {pos : Pos}
end
end Gx

/-! G50: is, is not, of truths. -/
namespace Gx
open PySem PySem.Spec L2
open PyProof.Rows hiding St
section
variable {X : Cx}
def isBD : PyData → PyData → Option Rv
  | .bool a, .bool b => fB (a == b)
  | _, _ => none
def isNotBD : PyData → PyData → Option Rv
  | .bool a, .bool b => fB (!(a == b))
  | _, _ => none
end
end Gx

/-! G51: a dict of one's own made by {k: v for ..}. -/
namespace Gx
open PySem PySem.Spec L2
open PyProof.Rows hiding St
def dDcE (fi : Dn (List PyData)) (h : PyData → Ev → Option Ev) (ft : Dn Bool) (fk fe : Dn PyData) (vs : List Nat) : Dn Rv := bnd fi fun ds => fun ρ => if vs.all (fun v => !isBl ρ[v]?) then match compK h ft fk fe vs ds [] (wipeE ρ vs) with
  | .ok (ys, ρ2) => .ok (.od ys, restE ρ ρ2 vs)
  | _ => .st
  else .st
section
variable {X : Cx} {E : XK} {pos : Pos}
end
end Gx

/-! G52: sorted(d), a dict whose keys are numbers. -/
namespace Gx
open PySem PySem.Spec L2
open PyProof.Rows hiding St
def sortKD : List PyData → Option Rv
  | [.dict ((.none, .none) :: ps)] => (intsD (ps.map (·.1))).bind fun ns => if ns.length < 64 then some (.ol ((srtI ns).map .int)) else none
  | _ => none
section
variable {X : Cx}
end
end Gx

/-! G53: x in (a, b), items of any data. -/
namespace Gx
open PySem PySem.Spec L2
open PyProof.Rows hiding St
def inTB (d e : PyData) : Option Bool := match e with
  | .tuple ds => if (cln d && clns ds) && (SeqAt.shaped d && SeqAt.shaped (.tuple ds)) then some (ds.any fun z => z.eqv d) else none
  | _ => none
def inTD (d e : PyData) : Option Rv := (inTB d e).bind fB
def notInTD (d e : PyData) : Option Rv := (inTB d e).bind fun b => fB (!b)
section
variable {X : Cx}
def rInT (K : PySem.W.Frag) : R2 := fun x y H Q => ∃ d ds, Dp K H x d ∧ Dp K H y (.tuple ds) ∧ SeqAt.shaped d = true ∧ SeqAt.shaped (.tuple ds) = true ∧ Q (.bl (ds.any fun z => PyData.eqv z d)) H
def rNotInT (K : PySem.W.Frag) : R2 := fun x y H Q => ∃ d ds, Dp K H x d ∧ Dp K H y (.tuple ds) ∧ SeqAt.shaped d = true ∧ SeqAt.shaped (.tuple ds) = true ∧ Q (.bl (!ds.any fun z => PyData.eqv z d)) H
end
end Gx

/-! G54: dicts with tuples as keys. -/
namespace Gx
open PySem PySem.Spec L2
open PyProof.Rows hiding St
mutual
theorem hash_w (w w' : World) : ∀ (d : PyData) (k : NestedKey), toK d = some k → k.hash w = k.hash w'
  | .none, _, h => by cases h; rfl
  | .int _, _, h => by cases h; rfl
  | .tuple ds, k, h => by
    unfold toK at h
    obtain ⟨ks, h1, rfl⟩ := Option.map_eq_some_iff.mp h
    unfold NestedKey.hash
    rw [hashes_w w w' ds ks h1]
  | .bool _, _, h => by unfold toK at h; cases h
  | .str _, _, h => by unfold toK at h; cases h
  | .list _, _, h => by unfold toK at h; cases h
  | .dict _, _, h => by unfold toK at h; cases h
theorem hashes_w (w w' : World) : ∀ (ds : List PyData) (ks : List NestedKey), toKs ds = some ks → NestedKey.hashes w ks = NestedKey.hashes w' ks
  | [], _, h => by unfold toKs at h; cases h; rfl
  | d :: ds, ks, h => by
    unfold toKs at h
    cases h1 : toK d with
    | none => rw [h1] at h; cases h
    | some k =>
      cases h2 : toKs ds with
      | none => rw [h1, h2] at h; cases h
      | some ks' =>
        rw [h1, h2] at h
        cases h
        unfold NestedKey.hashes
        rw [hash_w w w' d k h1, hashes_w w w' ds ks' h2]
end
section
variable {X : Cx} {pins : List (Addr × Obj)} {σ : St} {H F : Hp} {s : Shared}
mutual
theorem nest_of (I : Inv X pins σ H s) (S : Same F H) : ∀ (d : PyData) (k : NestedKey) (v : V) (u : Value), toK d = some k → Dq F v d → RelV v u → NestedIs s.heap k u
  | .none, _, _, _, h, q, r => by cases h; cases q; cases r; exact .none
  | .int i, _, _, _, h, q, r => by
    cases h
    cases q
    obtain ⟨t, rfl⟩ := r
    exact .int i t
  | .tuple ds, k, _, _, h, q, r => by
    unfold toK at h
    obtain ⟨ks, h1, rfl⟩ := Option.map_eq_some_iff.mp h
    cases q with
    | @tup a vs ds ha hx =>
      cases r
      obtain ⟨its, rv, ⟨o, ho, hc, n, hd⟩, _⟩ := I.tuple (.inl (.of (S _ _ ha)))
      exact .tup ho hc hd (by simpa using nests_of I S ds ks vs its h1 hx rv)
  | .bool _, _, _, _, h, _, _ => by unfold toK at h; cases h
  | .str _, _, _, _, h, _, _ => by unfold toK at h; cases h
  | .list _, _, _, _, h, _, _ => by unfold toK at h; cases h
  | .dict _, _, _, _, h, _, _ => by unfold toK at h; cases h
theorem nests_of (I : Inv X pins σ H s) (S : Same F H) : ∀ (ds : List PyData) (ks : List NestedKey) (vs : List V) (us : List Value), toKs ds = some ks → DqAll F vs ds → Vals vs us → NestedAll s.heap ks us
  | [], _, _, _, h, q, r => by unfold toKs at h; cases h; cases q; cases r; exact .nil
  | d :: ds, ks, _, _, h, q, r => by
    unfold toKs at h
    cases h1 : toK d with
    | none => rw [h1] at h; cases h
    | some k =>
      cases h2 : toKs ds with
      | none => rw [h1, h2] at h; cases h
      | some ks' =>
        rw [h1, h2] at h
        cases h
        cases q with
        | cons q1 q2 =>
          cases r with
          | cons r1 r2 => exact .cons (nest_of I S d k _ _ h1 q1 r1) (nests_of I S ds ks' _ _ h2 q2 r2)
end
abbrev RowP (r : KRow) (x : NestedKey × Addr × Value) : Prop := r.1 = x.1 ∧ r.2.1 = x.2.1 ∧ RelV r.2.2 x.2.2
def putRw (rows : List KRow) (k : NestedKey) (a : Addr) (v : V) : List KRow := if (rows.any fun r => decide (r.1 = k)) = true then rows.map (fun r => if r.1 = k then (r.1, r.2.1, v) else r) else rows ++ [(k, a, v)]
end
/-! ### the denotations -/
def eqK (a b : PyData) : Bool := decide (keyT a = keyT b)
def putT (ps : List (PyData × PyData)) (k d : PyData) : List (PyData × PyData) := if (ps.any fun p => eqK p.1 k) = true then ps.map (fun p => if eqK p.1 k = true then (p.1, d) else p) else ps ++ [(k, d)]
def kE : Option En → Option (List (PyData × PyData))
  | some (.oo (.k ps)) => some ps
  | some (.bo (.k ps)) => some ps
  | some (.fz (.dict ((.bool false, .none) :: ps))) => some ps
  | _ => none
section
variable {X : Cx} {E : XK} {pos : Pos}
def dNewK : Dn Rv := ret (.oo (.k []))
def tKIn (neg : Bool) (ty td : TE) : TE := fun σ H Q => ty σ H fun y H1 => td σ H1 fun x H2 => ∃ (F : Hp) (p a : Addr) (rows : List KRow) (ps : List (PyData × PyData)) (kd : PyData) (k : NestedKey), x = .ref p ∧ y = .ref a ∧ Same F H2 ∧ H2 p = some (KeyO p rows) ∧ DqRw F rows ps ∧ keyT kd = some k ∧ Dq F (.ref a) kd ∧ Q (.bl (if neg then !(rows.any fun r => decide (r.1 = k)) else rows.any fun r => decide (r.1 = k))) H2
def dKIn (neg : Bool) (i : Nat) (f : Dn PyData) : Dn PyData := bnd f (fun k ρ => match kE ρ[i]? with
  | some ps => if (keyT k).isSome then .ok (.bool (if neg then !(ps.any fun p => eqK p.1 k) else ps.any fun p => eqK p.1 k), ρ) else .st
  | none => .st)
def sKPut (td ty tv : TE) : TS := fun D σ H => tv σ H fun v H1 => td σ H1 fun x H2 => ty σ H2 fun y H3 => ∃ (F : Hp) (p a : Addr) (rows : List KRow) (ps : List (PyData × PyData)) (kd : PyData) (k : NestedKey), x = .ref p ∧ y = .ref a ∧ Same F H3 ∧ H3 p = some (KeyO p rows) ∧ DqRw F rows ps ∧ keyT kd = some k ∧ Dq F (.ref a) kd ∧ rows.length < sizeLine ∧ D.nx σ (upd H3 p (KeyO p (putRw rows k a v)))
def ownK : Option En → Option (List (PyData × PyData))
  | some (.oo (.k xs)) => some xs
  | some (.bo (.k xs)) => some xs
  | _ => none
def updK' (i : Nat) (g : List (PyData × PyData) → Option (List (PyData × PyData))) : Dn Fl := fun ρ => match (ownK ρ[i]?).bind g with
  | some ys => .ok (.nx, ρ.set i (reKindC ρ[i]? (.k ys)))
  | none => .st
def putKy (d k : PyData) (ps : List (PyData × PyData)) : Option (List (PyData × PyData)) := (keyT k).bind fun _ => if okLen (ps.length + 1) then some (putT ps k d) else none
def sPutK (i : Nat) (fk f : Dn PyData) : Dn Fl := bnd f fun d => fun ρ => if (ownK ρ[i]?).isSome then bnd fk (fun k => updK' i (putKy d k)) ρ else .st
end
end Gx

/-! G55: list(d), sorted(d), d with tuples as keys. -/
namespace Gx
open PySem PySem.Spec L2
open PyProof.Rows hiding St
section
variable {X : Cx}
def listK : List PyData → Option Rv
  | [.dict ((.bool false, .none) :: ps)] => some (.ol (ps.map (·.1)))
  | _ => none
def sortKT : List PyData → Option Rv
  | [.dict ((.bool false, .none) :: ps)] => if okAlike (ps.map (·.1)) && sorB (ps.map (·.1)) then some (.ol (srtX (ps.map (·.1)))) else none
  | _ => none
end
end Gx

/-! G56: xs.pop(). -/
namespace Gx
open PySem PySem.Spec L2
open PyProof.Rows hiding St
variable {E : XK}
def dPop (i : Nat) : Dn PyData := fun ρ => match ownOf ρ[i]? with
  | some xs => match xs[xs.length - 1]? with
    | some d => .ok (d, ρ.set i (reKind ρ[i]? xs.dropLast))
    | none => .st
  | none => .st
section
variable {X : Cx} {pos : Pos}
def dKInT (neg : Bool) (i : Nat) (f : Dn PyData) : Dn Bool := bnd (dKIn neg i f) fun d => lft (boolOf d)
end
end Gx

/-! G57: a list of one's own compared, which stays one's own. -/
namespace Gx
open PySem PySem.Spec L2
open PyProof.Rows hiding St
def dCmpN (neg : Bool) (i : Nat) (f : Dn PyData) : Dn PyData := fun ρ => if (lstE ρ[i]?).isSome then bnd f (fun d ρ => match lstE ρ[i]? with
  | some xs => if okEq (.list xs) d then .ok (.bool (if neg then !PyData.eqv (.list xs) d else PyData.eqv (.list xs) d), ρ) else .st
  | none => .st) ρ else .st
section
variable {X : Cx} {E : XK} {pos : Pos}
def dCmpNT (neg : Bool) (i : Nat) (f : Dn PyData) : Dn Bool := bnd (dCmpN neg i f) fun d => lft (boolOf d)
end
end Gx

/-! G58: a tuple once, or not at all. -/
namespace Gx
open PySem PySem.Spec L2
open PyProof.Rows hiding St
section
variable {X : Cx}
def rRep01 (K : PySem.W.Frag) : R2 := fun x y H Q => ∃ (l : Addr) (k : Int) (xs : List V), x = .ref l ∧ y = .int k ∧ SqT K H l xs ∧ xs ≠ [] ∧ ((k = 1 ∧ Q (.ref l) H) ∨ (k = 0 ∧ ∀ p, H p = none → Q (.ref p) (upd H p (.tup []))))
def mulXD (d e : PyData) : Option Rv := match d, e with
  | .tuple (x :: xs), .int 1 => some (.fz (.tuple (x :: xs)))
  | .tuple (_ :: _), .int 0 => some (.fz (.tuple []))
  | d, e => mulTD d e
end
end Gx

/-! G59: x, ys[k] = a, b. -/
namespace Gx
open PySem PySem.Spec L2
open PyProof.Rows hiding St
section
variable {X : Cx} {E : XK} {pos : Pos}
def sTwo (i j : Nat) (fk f : Dn PyData) : Dn Fl := bnd f fun d => match d with
  | .tuple [a, b] => fun ρ => match hName i a ρ with
    | none => .st
    | some ρ1 => if (ownOf ρ1[j]?).isSome then bnd fk (fun k => sUpd j (setIxD b k)) ρ1 else .st
  | _ => fun _ => .st
end
end Gx

/-! G60: list(d.items()); xs[k], ys[k] = a, b of dicts of one's own. -/
namespace Gx
open PySem PySem.Spec L2
open PyProof.Rows hiding St
section
variable {X : Cx} {E : XK} {pos : Pos}
def prD (p : PyData × PyData) : PyData := .tuple [p.1, p.2]
def dItemsL (i : Nat) : Dn Rv := fun ρ => match dicE ρ[i]? with
  | some ps => .ok (.ol (ps.map prD), ρ)
  | none => .st
theorem dqs_items {F F' H' : Hp} (e : Same F F') : ∀ {kvs : List (Key × V)} {ps : List (PyData × PyData)} {ts : List Addr}, DqKv F kvs ps → (∀ t ∈ ts, F' t = H' t) → Paired (fun (t : Addr) (q : Key × V) => H' t = some (.tup [kV q.1, q.2])) ts kvs → DqAll F' (ts.map V.ref) (ps.map prD)
  | [], _, [], h, _, _ => by cases h; exact .nil
  | [], _, _ :: _, _, _, h => by cases h
  | _ :: _, _, [], _, _, h => by cases h
  | kv :: kvs, _, t :: ts, h, ht, hp => by
    cases h with
    | cons h1 h2 =>
      cases hp with
      | cons g1 g2 =>
        refine .cons (.tup ((ht t (List.mem_cons_self ..)).trans g1) (.cons (dq_keyD _) (.cons (dp_mono e _ _ h1) .nil))) (dqs_items e h2 (fun t h => ht t (List.mem_cons_of_mem _ h)) g2)
theorem g_itemsL (i : Nat) {x : Str} {p p2 apos cpos : Pos} (hc : X.calm = true) (hg : Gl X "list") (hm : X.mg "list" = none) (hb : bootBuiltins "list" = some (.type "list")) (hN : X.N[i]? = some x := by rfl) (hv : Vis X.env.scope x := by first | exact Or.inl rfl | exact Or.inr (Or.inl rfl) | exact Or.inr (Or.inr rfl))
    (hd : (x == ("__debug__" : Str)) = false := by decide) (hcd : (x == ("__classdict__" : Str)) = false := by decide)
    (hbase : attributeBase (.Name x p2) "items" X.env (eval (.Name x p2) X.env) = eval (.Name x p2) X.env := by rfl) (hline : (apos.endLine == cpos.line) = true := by rfl)
    (hs : starEach [.Call (.Attribute (.Name x p2) "items" apos) [] [] cpos] X.env = (false, eval (.Call (.Attribute (.Name x p2) "items" apos) [] [] cpos) X.env) :: starEach [] X.env := by rfl) :
    PE X (.Call (.Name "list" p) [.Call (.Attribute (.Name x p2) "items" apos) [] [] cpos] [] pos) (tE X.K X.mg E (dItemsL i)) :=
  pe_wk (LiI.pe_listItems hc (pe_var hN hv hd hcd) hg hm hb hbase hline hs) fun σ H Q ⟨ρ, F, R, q⟩ => by
    unfold dItemsL at q
    cases hx : dicE ρ[i]? with
    | none => simp only [hx] at q; exact (show False from q).elim
    | some ps =>
      simp only [hx] at q
      obtain ⟨p0, kvs, hp, dx, hh⟩ := dic_val R hx
      refine ⟨.ref p0, hp, p0, kvs, rfl, hh, fun H' p ts hk np nt pn hl hpr => ?_⟩
      have hF : ∃ F' : Hp, (∀ b, b ∈ ts → F' b = H' b) ∧ ∀ b, b ∉ ts → F' b = F b := by
        classical
        exact ⟨fun b => if b ∈ ts then H' b else F b, fun b hb => if_pos hb, fun b hb => if_neg hb⟩
      obtain ⟨F', f1, f2⟩ := hF
      have ff : Same F F' := fun b o e => by
        by_cases hb : b ∈ ts
        · have := R.sub.free (nt b hb)
          rw [e] at this
          cases this
        · rw [f2 b hb]; exact e
      have gr : Grow F H F' H' := ⟨ff, hk, fun b o e => by
        by_cases hb : b ∈ ts
        · rw [f1 b hb] at e; exact e
        · rw [f2 b hb] at e; exact hk _ _ (R.sub _ _ e), fun b z => by
        by_cases hb : b ∈ ts
        · exact .inr (nt b hb)
        · rw [f2 b hb] at z; exact .inl z⟩
      have nk : NOk H F' H' (.ol (ps.map prD)) (.ref p) := ⟨p, _, rfl, np, hl, by rw [f2 p pn]; exact R.sub.free np, _, rfl, dqs_items ff dx f1 hpr⟩
      exact q _ F' H' (gr.stp R) (nk.rok R)
def sTwoP (i j : Nat) (fk fl f : Dn PyData) : Dn Fl := bnd f fun d => match d with
  | .tuple [a, b] => fun ρ => if (ownOfD ρ[i]?).isSome then bnd fk (fun k => bnd (updD i (putD a k)) fun _ ρ => if (ownOfD ρ[j]?).isSome then bnd fl (fun l => updD j (putD b l)) ρ else .st) ρ else .st
  | _ => fun _ => .st
theorem gs_twoP (i j : Nat) {x y : Str} {e ei ej : Expr} {px py tpos tpos1 tpos2 : Pos} {kt : Nat} {f fk fl : Dn PyData} (hc : X.calm = true) (hu : X.A.units + 65 < cLine) (he : PE X e (tD X.K X.mg E f)) (hk : PE X ei (tD X.K X.mg E fk)) (hl : PE X ej (tD X.K X.mg E fl)) (hi : X.N[i]? = some x := by rfl) (hj : X.N[j]? = some y := by rfl)
    (hv : Vis X.env.scope y := by first | exact Or.inl rfl | exact Or.inr (Or.inl rfl) | exact Or.inr (Or.inr rfl))
    (hv1 : Vis X.env.scope x := by first | exact Or.inl rfl | exact Or.inr (Or.inl rfl) | exact Or.inr (Or.inr rfl))
    (hd : (y == ("__debug__" : Str)) = false := by decide) (hcd : (y == ("__classdict__" : Str)) = false := by decide)
    (hd1 : (x == ("__debug__" : Str)) = false := by decide) (hcd1 : (x == ("__classdict__" : Str)) = false := by decide)
    (ha : ∀ v, assign (.Subscript (.Name y py) ej tpos) X.env v = (do
      let ov ← holding [v] (eval (.Name y py) X.env)
      let iv ← holding [v, ov] (eval ej X.env)
      standAt tpos
      holding [v, ov, iv] (setItem ov iv v)
      release [v, ov, iv] []) := by intro _; rfl)
    (ha1 : ∀ v, assign (.Subscript (.Name x px) ei tpos1) X.env v = (do
      let ov ← holding [v] (eval (.Name x px) X.env)
      let iv ← holding [v, ov] (eval ei X.env)
      standAt tpos1
      holding [v, ov, iv] (setItem ov iv v)
      release [v, ov, iv] []) := by intro _; rfl)
    (hn : (assignEach [.Subscript (.Name x px) ei tpos1, .Subscript (.Name y py) ej tpos] X.env).length = 2 := by rfl) (hst : (assignEach [.Subscript (.Name x px) ei tpos1, .Subscript (.Name y py) ej tpos] X.env).findIdx? (·.1) = none := by rfl)
    (hs1 : (assignEach [.Subscript (.Name x px) ei tpos1, .Subscript (.Name y py) ej tpos] X.env).map (·.2) = assign (.Subscript (.Name x px) ei tpos1) X.env :: (assignEach [.Subscript (.Name y py) ej tpos] X.env).map (·.2) := by rfl)
    (hs2 : (assignEach [.Subscript (.Name y py) ej tpos] X.env).map (·.2) = assign (.Subscript (.Name y py) ej tpos) X.env :: (assignEach [] X.env).map (·.2) := by rfl)
    (hs : swapsWithSole [.Tuple [.Subscript (.Name x px) ei tpos1, .Subscript (.Name y py) ej tpos] kt tpos2] e pos.line X.env = pure false := by rfl) (hw : swappedStores [.Tuple [.Subscript (.Name x px) ei tpos1, .Subscript (.Name y py) ej tpos] kt tpos2] e X.env = pure none := by rfl)
    (h1 : (assignEach [.Tuple [.Subscript (.Name x px) ei tpos1, .Subscript (.Name y py) ej tpos] kt tpos2] X.env).map (·.2) = [assign (.Tuple [.Subscript (.Name x px) ei tpos1, .Subscript (.Name y py) ej tpos] kt tpos2) X.env] := by rfl) :
    PS X (.Assign [.Tuple [.Subscript (.Name x px) ei tpos1, .Subscript (.Name y py) ej tpos] kt tpos2] e pos) (tS X.K X.mg E (sTwoP i j fk fl f)) :=
  ps_wk (ps_asg he (pg_tup hc (pgs_cons (pg_sub (pe_var hi hv1 hd1 hcd1) hk (set_dict (by omega)) ha1) (pgs_cons (pg_sub (pe_var hj hv hd hcd) hl (set_dict (by omega)) ha) pgs_nil hs2) hs1) hn hst) hs hw h1) fun D σ H ⟨ρ, F, R, q⟩ => ⟨ρ, F, R, (out_bnd (K := X.K) (F := F) q).mono fun d ρ1 k v F1 H1 S1 dq => by
    have q2 := k _ _ _ S1
    split at q2
    · rename_i a b
      cases dq with
      | @tup p0 vs _ hp0 hall =>
      cases hall with
      | @cons va vs _ _ da hall =>
      cases hall with
      | @cons vb vs _ _ db hall =>
      cases hall
      refine ⟨p0, [va, vb], rfl, .of (S1.rel.sub _ _ hp0), rfl, va, [vb], rfl, ?_⟩
      cases hb : (ownOfD ρ1[i]?).isSome with
      | false => rw [hb] at q2; exact (show False from q2).elim
      | true =>
      rw [hb] at q2
      have q2 : Out X.mg E ρ1 σ H1 (bnd fk (fun k => bnd (updD i (putD a k)) fun _ ρ => if (ownOfD ρ[j]?).isSome then bnd fl (fun l => updD j (putD b l)) ρ else .st) ρ1) _ := q2
      obtain ⟨xs0, h0⟩ := Option.isSome_iff_exists.mp hb
      obtain ⟨p, kvs0, hp, h2, _⟩ := S1.rel.ds i xs0 (ownOfD_some h0)
      show ∃ w, _ ∧ _
      refine ⟨.ref p, hp, ρ1, F1, S1.rel, (out_bnd (K := X.K) (F := F1) q2).mono fun n ρ2 k2 u F2 H2 S2 dn => ?_⟩
      have q3 := k2 _ _ _ S2
      unfold bnd updD at q3
      cases hx : ownOfD ρ2[i]? with
      | none => rw [hx] at q3; exact (show False from q3).elim
      | some xs =>
        obtain ⟨p', kvs, hp', a2, a3, a4⟩ := S2.rel.ds i xs (ownOfD_some hx)
        rw [hp] at hp'
        cases hp'
        rw [hx] at q3
        cases hq : putD a n xs with
        | none => simp only [Option.bind_some, hq] at q3; exact (show False from q3).elim
        | some qs =>
          simp only [Option.bind_some, hq] at q3
          obtain ⟨kk, rfl, d2, hl1⟩ := putD_dq hq a4 dn (dp_mono S2.ff _ _ da)
          have S3 := own_updD (Stp.refl S2.rel) hx hp d2
          refine ⟨p, _, rfl, .k a2 hl1, vb, [], rfl, ?_⟩
          have q4 := Out.later S3 q3
          cases hb2 : (ownOfD (ρ2.set i (reKindC ρ2[i]? (.d qs)))[j]?).isSome with
          | false => rw [hb2] at q4; exact (show False from q4).elim
          | true =>
          rw [hb2] at q4
          obtain ⟨ys0, h0'⟩ := Option.isSome_iff_exists.mp hb2
          obtain ⟨r, kvs1, hr, _, _⟩ := S3.rel.ds j ys0 (ownOfD_some h0')
          refine ⟨.ref r, hr, _, F2, S3.rel, (out_bnd (K := X.K) (F := F2) q4).mono fun m ρ4 k4 u4 F4 H4 S4 dm => ?_⟩
          have q5 := k4 _ _ _ S4
          unfold updD at q5
          cases hy : ownOfD ρ4[j]? with
          | none => rw [hy] at q5; exact (show False from q5).elim
          | some zs =>
            obtain ⟨r', kvs4, hr', b2, b3, b4⟩ := S4.rel.ds j zs (ownOfD_some hy)
            rw [hr] at hr'
            cases hr'
            rw [hy] at q5
            cases hq4 : putD b m zs with
            | none => simp only [Option.bind_some, hq4] at q5; exact (show False from q5).elim
            | some qs4 =>
              simp only [Option.bind_some, hq4] at q5
              obtain ⟨k5, rfl, d5, hl5⟩ := putD_dq hq4 b4 dm (dp_mono S4.ff _ _ (dp_mono S3.ff _ _ (dp_mono S2.ff _ _ db)))
              exact ⟨r, _, rfl, .k b2 hl5, rfl, q5 _ F4 _ (own_updD (S1.trans (S2.trans (S3.trans S4))) hy hr d5)⟩
    · exact (show False from q2).elim⟩
end
end Gx

/-! G61: x, y, z, w = a, b, c, d with things of one's own. -/
namespace Gx
open PySem PySem.Spec L2
open PyProof.Rows hiding St
def parX4 (i j l m : Nat) : List Ar → Dn Fl
  | [a, b, c, d] => fun ρ => match rvA a, rvA b, rvA c, rvA d with
    | some r, some t, some u, some s => if isBl ρ[i]? || (isBl (ρ.set i r.en)[j]? || (isBl ((ρ.set i r.en).set j t.en)[l]? || isBl (((ρ.set i r.en).set j t.en).set l u.en)[m]?)) then .st else .ok (.nx, (((ρ.set i r.en).set j t.en).set l u.en).set m s.en)
    | _, _, _, _ => .st
  | _ => fun _ => .st
def sParX4 (i j l m : Nat) (f : Dn (List Ar)) : Dn Fl := bnd f (parX4 i j l m)
section
variable {X : Cx} {E : XK} {pos : Pos}
theorem gs_parX4 (i j l m : Nat) {x y z x4 : Str} {a b c d : Expr} {f : Dn (List Ar)} {px py pz p4 pt pt2 : Pos} {kt k2 : Nat} (hc : X.calm = true) (nd : X.N.Nodup) (hi : X.N[i]? = some x) (hj : X.N[j]? = some y) (hl : X.N[l]? = some z) (hm : X.N[m]? = some x4)
    (lx : L2.Loc X.env.scope x) (ly : L2.Loc X.env.scope y) (lz : L2.Loc X.env.scope z) (l4 : L2.Loc X.env.scope x4) (fx : X.fn x = true ∨ List.lookup x X.env.scope.names = some .local) (fy : X.fn y = true ∨ List.lookup y X.env.scope.names = some .local) (fz : X.fn z = true ∨ List.lookup z X.env.scope.names = some .local) (f4 : X.fn x4 = true ∨ List.lookup x4 X.env.scope.names = some .local)
    (ha : PA X [a, b, c, d] (tAr X.K X.mg E f)) (hs : swapsWithSole [.Tuple [.Name x px, .Name y py, .Name z pz, .Name x4 p4] kt pt] (.Tuple [a, b, c, d] k2 pt2) pos.line X.env = pure false := by rfl) (hw : swappedStores [.Tuple [.Name x px, .Name y py, .Name z pz, .Name x4 p4] kt pt] (.Tuple [a, b, c, d] k2 pt2) X.env = pure none := by rfl)
    (h1 : (assignEach [.Tuple [.Name x px, .Name y py, .Name z pz, .Name x4 p4] kt pt] X.env).map (·.2) = [assign (.Tuple [.Name x px, .Name y py, .Name z pz, .Name x4 p4] kt pt) X.env] := by rfl)
    (h2 : (assignEach [.Name x px, .Name y py, .Name z pz, .Name x4 p4] X.env).map (·.2) = assign (.Name x px) X.env :: (assignEach [.Name y py, .Name z pz, .Name x4 p4] X.env).map (·.2) := by rfl) (h3 : (assignEach [.Name y py, .Name z pz, .Name x4 p4] X.env).map (·.2) = assign (.Name y py) X.env :: (assignEach [.Name z pz, .Name x4 p4] X.env).map (·.2) := by rfl)
    (h3b : (assignEach [.Name z pz, .Name x4 p4] X.env).map (·.2) = assign (.Name z pz) X.env :: (assignEach [.Name x4 p4] X.env).map (·.2) := by rfl)
    (h3c : (assignEach [.Name x4 p4] X.env).map (·.2) = assign (.Name x4 p4) X.env :: (assignEach [] X.env).map (·.2) := by rfl)
    (h4 : (assignEach [.Name x px, .Name y py, .Name z pz, .Name x4 p4] X.env).length = 4 := by rfl) (h5 : (assignEach [.Name x px, .Name y py, .Name z pz, .Name x4 p4] X.env).findIdx? (·.1) = none := by rfl) :
    PS X (.Assign [.Tuple [.Name x px, .Name y py, .Name z pz, .Name x4 p4] kt pt] (.Tuple [a, b, c, d] k2 pt2) pos) (tS X.K X.mg E (sParX4 i j l m f)) :=
  ps_wk (ps_asg (pe_tup ha) (pg_tup hc (pgs_cons (pg_name nd hi lx fx) (pgs_cons (pg_name nd hj ly fy) (pgs_cons (pg_name nd hl lz fz) (pgs_cons (pg_name nd hm l4 f4) pgs_nil h3c) h3b) h3) h2) h4 h5) hs hw h1) fun D σ H ⟨ρ, F, R, q⟩ => ⟨ρ, F, R, (out_bnd (K := X.K) (F := F) q).mono fun as ρ1 k vs F1 H1 S1 A => by
    have q2 := k _ _ _ S1
    have hlen := A.ln
    match as, hlen, q2, A with
    | [], _, q2, _ => exact (show False from q2).elim
    | [_], _, q2, _ => exact (show False from q2).elim
    | [_, _], _, q2, _ => exact (show False from q2).elim
    | [_, _, _], _, q2, _ => exact (show False from q2).elim
    | _ :: _ :: _ :: _ :: _ :: _, _, q2, _ => exact (show False from q2).elim
    | [a1, b1, c1, d1], hlen, q2, A =>
      match vs, hlen, A with
      | [v, w, z, y4], _, A =>
        cases hr : rvA a1 with
        | none => unfold parX4 at q2; simp only [hr] at q2; exact (show False from q2).elim
        | some r =>
        cases ht : rvA b1 with
        | none => unfold parX4 at q2; simp only [hr, ht] at q2; exact (show False from q2).elim
        | some t =>
        cases hu : rvA c1 with
        | none => unfold parX4 at q2; simp only [hr, ht, hu] at q2; exact (show False from q2).elim
        | some u =>
        cases hu4 : rvA d1 with
        | none => unfold parX4 at q2; simp only [hr, ht, hu, hu4] at q2; exact (show False from q2).elim
        | some s4 =>
        unfold parX4 at q2
        simp only [hr, ht, hu, hu4] at q2
        by_cases hp : (isBl ρ1[i]? || (isBl (ρ1.set i r.en)[j]? || (isBl ((ρ1.set i r.en).set j t.en)[l]? || isBl (((ρ1.set i r.en).set j t.en).set l u.en)[m]?))) = true
        · rw [if_pos hp] at q2
          exact (show False from q2).elim
        · rw [if_neg hp] at q2
          simp only [Bool.or_eq_true, not_or, Bool.not_eq_true] at hp
          obtain ⟨b1', b2, b3, b4⟩ := hp
          refine ⟨by show 4 ≤ sizeLine; decide, fun T nT => ?_⟩
          have A := A.grown (o := .tup [v, w, z, y4]) nT
          have gr := Grow.own (o := .tup [v, w, z, y4]) S1.rel.sub nT
          have S1 := S1.trans (gr.stp S1.rel)
          have r1 := rok_ar A (k := 0) rfl rfl hr
          have r2 := rok_ar A (k := 1) rfl rfl ht
          have r3 := rok_ar A (k := 2) rfl rfl hu
          have r4 := rok_ar A (k := 3) rfl rfl hu4
          have z1 : ∀ xs, r = .oo xs → [a1, b1, c1, d1][0]? = some (.tq xs) := fun xs e => by rw [ar_tp_of hr e]; rfl
          have z2 : ∀ xs, t = .oo xs → [a1, b1, c1, d1][1]? = some (.tq xs) := fun xs e => by rw [ar_tp_of ht e]; rfl
          have z3 : ∀ xs, u = .oo xs → [a1, b1, c1, d1][2]? = some (.tq xs) := fun xs e => by rw [ar_tp_of hu e]; rfl
          have z4 : ∀ xs, s4 = .oo xs → [a1, b1, c1, d1][3]? = some (.tq xs) := fun xs e => by rw [ar_tp_of hu4 e]; rfl
          have hl1 := (isBl_f b1').2
          have hs1 : i < σ.length := by rw [← S1.rel.ln]; exact hl1
          obtain ⟨_, S2⟩ := put_stp (P := fun _ _ => True) (E := E) (mg := X.mg) S1 r1 (by unfold put; rw [b1']; trivial)
          have r2' := rok_putG r1 r2 (fun xs ys p e1 e2 e3 e4 => by
            subst e3; subst e4
            exact absurd (A.ap 0 1 xs ys p (z1 xs e1) (z2 ys e2) rfl rfl) (by decide)) hs1 hl1
          have r3' := rok_putG r1 r3 (fun xs ys p e1 e2 e3 e4 => by
            subst e3; subst e4
            exact absurd (A.ap 0 2 xs ys p (z1 xs e1) (z3 ys e2) rfl rfl) (by decide)) hs1 hl1
          have r4' := rok_putG r1 r4 (fun xs ys p e1 e2 e3 e4 => by
            subst e3; subst e4
            exact absurd (A.ap 0 3 xs ys p (z1 xs e1) (z4 ys e2) rfl rfl) (by decide)) hs1 hl1
          have hl2 := (isBl_f b2).2
          have hs2 : j < (σ.set i (some v)).length := by rw [← S2.rel.ln]; exact hl2
          obtain ⟨_, S3⟩ := put_stp (P := fun _ _ => True) (E := E) (mg := X.mg) S2 r2' (by unfold put; rw [b2]; trivial)
          have r3'' := rok_putG r2' r3' (fun xs ys p e1 e2 e3 e4 => by
            subst e3; subst e4
            exact absurd (A.ap 1 2 xs ys p (z2 xs e1) (z3 ys e2) rfl rfl) (by decide)) hs2 hl2
          have r4'' := rok_putG r2' r4' (fun xs ys p e1 e2 e3 e4 => by
            subst e3; subst e4
            exact absurd (A.ap 1 3 xs ys p (z2 xs e1) (z4 ys e2) rfl rfl) (by decide)) hs2 hl2
          have hl3 := (isBl_f b3).2
          have hs3 : l < ((σ.set i (some v)).set j (some w)).length := by rw [← S3.rel.ln]; exact hl3
          obtain ⟨_, S4⟩ := put_stp (P := fun _ _ => True) (E := E) (mg := X.mg) S3 r3'' (by unfold put; rw [b3]; trivial)
          have r4''' := rok_putG r3'' r4'' (fun xs ys p e1 e2 e3 e4 => by
            subst e3; subst e4
            exact absurd (A.ap 2 3 xs ys p (z3 xs e1) (z4 ys e2) rfl rfl) (by decide)) hs3 hl3
          obtain ⟨_, S5⟩ := put_stp (P := fun _ _ => True) (E := E) (mg := X.mg) S4 r4''' (by unfold put; rw [b4]; trivial)
          exact ⟨T, [v, w, z, y4], rfl, .of upd_same, rfl, v, [w, z, y4], rfl, w, [z, y4], rfl, z, [y4], rfl, y4, [], rfl, rfl, q2 _ F1 _ S5⟩⟩
end
end Gx

namespace K80
open PySem PySem.Spec L2 Gx Sh
open PyProof.Rows hiding St
def top (i : Nat) : Stmt := PySem.Challenge.pw_hintring_k80_whole_ranges_compared_and_m.main.body.getD i (.Pass ⟨0, 0, 0, 0⟩)
structure Bt (mg : Str → Option Value) : Prop where
  abs : mg "abs" = none
  all : mg "all" = none
  bool : mg "bool" = none
  dict : mg "dict" = none
  enumerate : mg "enumerate" = none
  int : mg "int" = none
  isinstance : mg "isinstance" = none
  len : mg "len" = none
  list : mg "list" = none
  max : mg "max" = none
  min : mg "min" = none
  range : mg "range" = none
  sorted : mg "sorted" = none
  str : mg "str" = none
  tuple : mg "tuple" = none
  zip : mg "zip" = none
abbrev s_frozen : Stmt := top 1
theorem sc_frozen : FnScope ["value", "part"] ["value"] (defScope s_frozen) := ⟨rfl, rfl, rfl, by decide +kernel, rfl, by decide +kernel, by decide +kernel⟩
abbrev s_points_of : Stmt := top 3
theorem sc_points_of : FnScope ["tree", "points", "_"] ["tree"] (defScope s_points_of) := ⟨rfl, rfl, rfl, by decide +kernel, rfl, by decide +kernel, by decide +kernel⟩
def lb_points_of : Dn Fl := (sSet 1 (dBin mulD (dName 1) (dPeek 0 (dC (.int 0)))))
def b_points_of : Dn Fl := (sSeq (sSet 1 (ofD (dC (.int 1))))
  (sSeq (sFor (iRg1 (dCons (dPeek 0 (dC (.int 1))) dNil)) (hName 2) lb_points_of)
  (sRet (dMove 1))))
def den_points_of : Den := runF 1 3 b_points_of
abbrev s_pairs_in : Stmt := top 4
theorem sc_pairs_in : FnScope ["rows", "span", "low", "high", "point", "version"] ["rows", "span"] (defScope s_pairs_in) := ⟨rfl, rfl, rfl, by decide +kernel, rfl, by decide +kernel, by decide +kernel⟩
def ct_pairs_in : Dn Bool := (dChT leD ltD (dName 2) (dName 4) (dName 3))
def ce_pairs_in : Dn PyData := (dTup (dCons (dName 4) (dCons (dName 5) dNil)))
def b_pairs_in : Dn Fl := (sSeq (sAsg (dName 1) (hTup 2 (hCons (hName 2) (hCons (hName 3) hNil))))
  (sRet (dComp (iSeq (dName 0)) (hTup 2 (hCons (hName 4) (hCons (hName 5) hNil))) ct_pairs_in ce_pairs_in [4, 5])))
def den_pairs_in : Den := runF 2 6 b_pairs_in
abbrev s_sum_in : Stmt := top 5
theorem sc_sum_in : FnScope ["tree", "rows", "span", "_", "size", "base", "count", "number", "point", "version"] ["tree", "rows", "span"] (defScope s_sum_in) := ⟨rfl, rfl, rfl, by decide +kernel, rfl, by decide +kernel, by decide +kernel⟩
def lb_sum_in : Dn Fl := (sPar [6, 7] (dCons (frz (dBin addD (dName 6) (dC (.int 1)))) (dCons (frz (dBin modD (frz (dBin addD (frz (dBin addD (frz (dBin mulD (dName 7) (dName 5))) (frz (dBin mulD (dName 9) (dC (.int 64)))))) (dName 8))) (dName 4))) dNil)))
def b_sum_in : Dn Fl := (sSeq (sAsg (dName 0) (hTup 4 (hCons (hName 3) (hCons (hName 3) (hCons (hName 4) (hCons (hName 5) hNil))))))
  (sSeq (sAsg (dTup (dCons (dC (.int 0)) (dCons (dC (.int 0)) dNil))) (hTup 2 (hCons (hName 6) (hCons (hName 7) hNil))))
  (sSeq (sFor (iSeq (frz (dFn (den_pairs_in) (aCons (ofD (dName 1)) (aCons (ofD (dName 2)) aNil))))) (hTup 2 (hCons (hName 8) (hCons (hName 9) hNil))) lb_sum_in)
  (sRet (ofD (dTup (dCons (dName 6) (dCons (dName 7) dNil))))))))
def den_sum_in : Den := runF 3 10 b_sum_in
abbrev s_parts_of : Stmt := top 6
theorem sc_parts_of : FnScope ["tree", "span", "length", "low", "high", "at"] ["tree", "span"] (defScope s_parts_of) := ⟨rfl, rfl, rfl, by decide +kernel, rfl, by decide +kernel, by decide +kernel⟩
def ce_parts_of : Dn PyData := (dTup (dCons (frz (dBin addD (dName 3) (frz (dBin mulD (dName 5) (dName 2))))) (dCons (frz (dBin addD (dName 3) (frz (dBin mulD (frz (dBin addD (dName 5) (dC (.int 1)))) (dName 2))))) dNil)))
def b_parts_of : Dn Fl := (sSeq (sAsg (dName 1) (hTup 2 (hCons (hName 3) (hCons (hName 4) hNil))))
  (sSeq (sIf (dCmpT eqD (frz (dBin subD (dName 4) (dName 3))) (dC (.int 1))) (sRet (dLst dNil)) sNx)
  (sSeq (sSet 2 (dBin fdivD (frz (dBin subD (dName 4) (dName 3))) (dPeek 0 (dC (.int 0)))))
  (sRet (dComp (iRg1 (dCons (dPeek 0 (dC (.int 0))) dNil)) (hName 5) yesT ce_parts_of [5])))))
def den_parts_of : Den := runF 2 6 b_parts_of
abbrev s_compare : Stmt := top 7
theorem sc_compare : FnScope ["tree", "left", "right", "spans", "found", "asked", "unlike", "span", "part", "low", "high"] ["tree", "left", "right"] (defScope s_compare) := ⟨rfl, rfl, rfl, by decide +kernel, rfl, by decide +kernel, by decide +kernel⟩
def ct_compare : Dn Bool := (dCmpT gtD (dLenP 3) (dC (.int 0)))
def ct_compare_2 : Dn Bool := (dCmpT neD (frz (dFn (den_sum_in) (aCons (ofD (dName 0)) (aCons (ofD (dName 1)) (aCons (ofD (dName 7)) aNil))))) (frz (dFn (den_sum_in) (aCons (ofD (dName 0)) (aCons (ofD (dName 2)) (aCons (ofD (dName 7)) aNil))))))
def ce_compare : Dn PyData := (dName 7)
def ct_compare_3 : Dn Bool := (dCmpT eqD (frz (dBin subD (dName 10) (dName 9))) (dC (.int 1)))
def ce_compare_2 : Dn PyData := (dName 9)
def ce_compare_3 : Dn PyData := (dName 8)
def lb_compare : Dn Fl := (sSeq (sSet 5 (dBin addD (dName 5) (dLenP 3)))
  (sSeq (sSet 6 (dComp (iSeq (dName 3)) (hName 7) ct_compare_2 ce_compare [7]))
  (sSeq (sSet 4 (dBin addD (dName 4) (frz (dComp (iSeq (dName 6)) (hTup 2 (hCons (hName 9) (hCons (hName 10) hNil))) ct_compare_3 ce_compare_2 [9, 10]))))
  (sSet 3 (dComp2 (iSeq (dName 6)) (hName 7) yesT (iSeq (frz (dFn (den_parts_of) (aCons (ofD (dName 0)) (aCons (ofD (dName 7)) aNil))))) (hName 8) yesT ce_compare_3 [7, 8] [8])))))
def b_compare : Dn Fl := (sSeq (sAsg (dTup (dCons (frz (dFn (den_frozen 8) (aCons (ofD (dName 0)) aNil))) (dCons (frz (dFn (den_frozen 8) (aCons (ofD (dName 1)) aNil))) (dCons (frz (dFn (den_frozen 8) (aCons (ofD (dName 2)) aNil))) dNil)))) (hTup 3 (hCons (hName 0) (hCons (hName 1) (hCons (hName 2) hNil)))))
  (sSeq (sParA 4 5 (aCons (dLst dNil) (aCons (ofD (dC (.int 0))) aNil)))
  (sSeq (sSet 3 (dLst (dCons (dTup (dCons (dC (.int 0)) (dCons (frz (dFn (den_points_of) (aCons (ofD (dName 0)) aNil))) dNil))) dNil)))
  (sSeq (whF ct_compare lb_compare 70)
  (sRet (ofD (dTup (dCons (frz (dCall tupleD (dCons (frz (dCall sort2D (dCons (dName 4) dNil))) dNil))) (dCons (dName 5) dNil)))))))))
def den_compare : Den := runF 3 11 b_compare
abbrev s_least_proof : Stmt := top 8
theorem sc_least_proof : FnScope ["tree", "left", "right", "count", "spans", "unlike", "points", "span", "part"] ["tree", "left", "right"] (defScope s_least_proof) := ⟨rfl, rfl, rfl, by decide +kernel, rfl, by decide +kernel, by decide +kernel⟩
def ct_least_proof : Dn Bool := (dCmpT gtD (dLenP 4) (dC (.int 0)))
def ct_least_proof_2 : Dn Bool := (dCmpT neD (frz (dFn (den_pairs_in) (aCons (ofD (dName 1)) (aCons (ofD (dName 7)) aNil)))) (frz (dFn (den_pairs_in) (aCons (ofD (dName 2)) (aCons (ofD (dName 7)) aNil)))))
def ce_least_proof : Dn PyData := (dName 7)
def ct_least_proof_3 : Dn Bool := (dCmpT eqD (frz (dBin subD (dPeek 7 (dC (.int 1))) (dPeek 7 (dC (.int 0))))) (dC (.int 1)))
def ce_least_proof_2 : Dn PyData := (dName 7)
def ce_least_proof_3 : Dn PyData := (dName 8)
def lb_least_proof : Dn Fl := (sSeq (sSet 5 (dComp (iSeq (dName 4)) (hName 7) ct_least_proof_2 ce_least_proof [7]))
  (sSeq (sSet 6 (dComp (iSeq (dName 5)) (hName 7) ct_least_proof_3 ce_least_proof_2 [7]))
  (sSeq (sSet 3 (dBin addD (frz (dBin subD (frz (dBin addD (dName 3) (dLenP 4))) (dLenP 5))) (dLenP 6)))
  (sSet 4 (dComp2 (iSeq (dName 5)) (hName 7) yesT (iSeq (frz (dFn (den_parts_of) (aCons (ofD (dName 0)) (aCons (ofD (dName 7)) aNil))))) (hName 8) yesT ce_least_proof_3 [7, 8] [8])))))
def b_least_proof : Dn Fl := (sSeq (sAsg (dTup (dCons (frz (dFn (den_frozen 8) (aCons (ofD (dName 0)) aNil))) (dCons (frz (dFn (den_frozen 8) (aCons (ofD (dName 1)) aNil))) (dCons (frz (dFn (den_frozen 8) (aCons (ofD (dName 2)) aNil))) dNil)))) (hTup 3 (hCons (hName 0) (hCons (hName 1) (hCons (hName 2) hNil)))))
  (sSeq (sSet 3 (ofD (dC (.int 0))))
  (sSeq (sSet 4 (dLst (dCons (dTup (dCons (dC (.int 0)) (dCons (frz (dFn (den_points_of) (aCons (ofD (dName 0)) aNil))) dNil))) dNil)))
  (sSeq (whF ct_least_proof lb_least_proof 70)
  (sRet (dMove 3))))))
def den_least_proof : Den := runF 3 9 b_least_proof
abbrev s_box : Stmt := top 10
theorem sc_box : FnScope ["script", "k", "cell"] ["script", "k"] (defScope s_box) := ⟨rfl, rfl, rfl, by decide +kernel, rfl, by decide +kernel, by decide +kernel⟩
def b_box : Dn Fl := (sSeq (sSet 2 (ofD (dIf (dCmpT ltD (dName 1) (dLenP 0)) (dPeek 0 (dName 1)) (dC (.int 0)))))
  (sRet (dLst (dCons (frz (dBin mulD (frz (dCall absD (dCons (dName 2) dNil))) (frz (dCall intD (dCons (frz (dBin geD (frz (dCall absD (dCons (dName 2) dNil))) (frz (dBin powD (dC (.int 10)) (dC (.int 18)))))) dNil))))) (dCons (frz (dBin addD (frz (dBin addD (frz (dBin modD (frz (dCall intD (dCons (dName 2) dNil))) (dC (.int 2305843009213693951)))) (frz (dBin mulD (dC (.int 39373)) (dName 1))))) (dC (.int 1940080)))) (dCons (dC (.int 0)) dNil))))))
def den_box : Den := runF 2 3 b_box
abbrev s_take : Stmt := top 11
theorem sc_take : FnScope ["tin", "below_so", "once_so", "wide_so", "twice_so", "drawn"] ["tin", "below_so"] (defScope s_take) := ⟨rfl, rfl, rfl, by decide +kernel, rfl, by decide +kernel, by decide +kernel⟩
abbrev s_law_cells : Stmt := top 12
theorem sc_law_cells : FnScope ["script", "most_so", "cells_so", "k", "cell", "at_so"] ["script", "most_so"] (defScope s_law_cells) := ⟨rfl, rfl, rfl, by decide +kernel, rfl, by decide +kernel, by decide +kernel⟩
abbrev s_of : Stmt := top 13
theorem sc_of : FnScope ["tin", "goods_so"] ["tin", "goods_so"] (defScope s_of) := ⟨rfl, rfl, rfl, by decide +kernel, rfl, by decide +kernel, by decide +kernel⟩
abbrev s_pick : Stmt := top 14
theorem sc_pick : FnScope ["tin", "goods_so", "count_so", "lap", "pool_so", "found"] ["tin", "goods_so", "count_so"] (defScope s_pick) := ⟨rfl, rfl, rfl, by decide +kernel, rfl, by decide +kernel, by decide +kernel⟩
abbrev s_lists : Stmt := top 15
theorem sc_lists : FnScope ["matter", "bit"] ["matter"] (defScope s_lists) := ⟨rfl, rfl, rfl, by decide +kernel, rfl, by decide +kernel, by decide +kernel⟩
abbrev s_same : Stmt := top 16
theorem sc_same : FnScope ["got", "due", "mine", "its"] ["got", "due"] (defScope s_same) := ⟨rfl, rfl, rfl, by decide +kernel, rfl, by decide +kernel, by decide +kernel⟩
abbrev s_law_power : Stmt := top 17
theorem sc_law_power : FnScope ["foot_so", "count_so", "made_so", "lap"] ["foot_so", "count_so"] (defScope s_law_power) := ⟨rfl, rfl, rfl, by decide +kernel, rfl, by decide +kernel, by decide +kernel⟩
def lb_law_power : Dn Fl := (sSet 2 (dBin mulD (dName 2) (dName 0)))
def b_law_power : Dn Fl := (sSeq (sSet 2 (ofD (dC (.int 1))))
  (sSeq (sFor (iRg1 (dCons (dName 1) dNil)) (hName 3) lb_law_power)
  (sRet (dMove 2))))
def den_law_power : Den := runF 2 4 b_law_power
abbrev s_total : Stmt := top 18
theorem sc_total : FnScope ["grove_so", "page_so", "from_so", "to_so", "lot_so", "whole_so", "k", "own"] ["grove_so", "page_so", "from_so", "to_so"] (defScope s_total) := ⟨rfl, rfl, rfl, by decide +kernel, rfl, by decide +kernel, by decide +kernel⟩
def ct_total : Dn Bool := (dChT leD ltD (dName 2) (dPeek 7 (dC (.int 0))) (dName 3))
def ce_total : Dn PyData := (dName 7)
def lb_total : Dn Fl := (sSet 5 (dBin addD (dName 5) (frz (dBin mulD (frz (dBin addD (frz (dBin mulD (dPeek 7 (dC (.int 1))) (dC (.int 64)))) (dPeek 7 (dC (.int 0))))) (frz (dFn (den_law_power) (aCons (ofD (dPeek 0 (dC (.int 3)))) (aCons (ofD (frz (dBin subD (frz (dBin subD (dLenP 4) (dC (.int 1)))) (dName 6)))) aNil))))))))
def b_total : Dn Fl := (sSeq (sSet 4 (dComp (iSeq (dName 1)) (hName 7) ct_total ce_total [7]))
  (sSeq (sSet 5 (ofD (dC (.int 0))))
  (sSeq (sFor (iEnB (dCons (dName 4) dNil)) (hTup 2 (hCons (hName 6) (hCons (hName 7) hNil))) lb_total)
  (sRet (ofD (dTup (dCons (dLenP 4) (dCons (frz (dBin modD (frz (dCall intD (dCons (dName 5) dNil))) (dPeek 0 (dC (.int 2))))) dNil))))))))
def den_total : Den := runF 4 8 b_total
abbrev s_width : Stmt := top 19
theorem sc_width : FnScope ["grove_so"] ["grove_so"] (defScope s_width) := ⟨rfl, rfl, rfl, by decide +kernel, rfl, by decide +kernel, by decide +kernel⟩
def b_width : Dn Fl := (sRet (dFn (den_law_power) (aCons (ofD (dPeek 0 (dC (.int 0)))) (aCons (ofD (dPeek 0 (dC (.int 1)))) aNil))))
def den_width : Den := runF 1 1 b_width
abbrev s_grove : Stmt := top 20
theorem sc_grove : FnScope ["tin", "size_so", "wide_so", "deep_so"] ["tin"] (defScope s_grove) := ⟨rfl, rfl, rfl, by decide +kernel, rfl, by decide +kernel, by decide +kernel⟩
def b_grove : Dn Fl := (sSeq (sAsg (frz (dFn (den_of) (aLend 0 (aCons (ofD (frz (dLst (dCons (dTup (dCons (dC (.int 2)) (dCons (dC (.int 0)) dNil))) (dCons (dTup (dCons (dC (.int 2)) (dCons (dC (.int 1)) dNil))) (dCons (dTup (dCons (dC (.int 2)) (dCons (dC (.int 2)) dNil))) (dCons (dTup (dCons (dC (.int 2)) (dCons (dC (.int 2)) dNil))) (dCons (dTup (dCons (dC (.int 2)) (dCons (dC (.int 3)) dNil))) (dCons (dTup (dCons (dC (.int 2)) (dCons (dC (.int 3)) dNil))) (dCons (dTup (dCons (dC (.int 2)) (dCons (dC (.int 4)) dNil))) (dCons (dTup (dCons (dC (.int 3)) (dCons (dC (.int 1)) dNil))) (dCons (dTup (dCons (dC (.int 3)) (dCons (dC (.int 2)) dNil))) (dCons (dTup (dCons (dC (.int 3)) (dCons (dC (.int 2)) dNil))) (dCons (dTup (dCons (dC (.int 4)) (dCons (dC (.int 1)) dNil))) (dCons (dTup (dCons (dC (.int 4)) (dCons (dC (.int 2)) dNil))) (dCons (dTup (dCons (dC (.int 3)) (dCons (dC (.int 3)) dNil))) (dCons (dTup (dCons (dC (.int 2)) (dCons (dC (.int 6)) dNil))) (dCons (dTup (dCons (dC (.int 4)) (dCons (dC (.int 3)) dNil))) dNil)))))))))))))))))) aNil)))) (hTup 2 (hCons (hName 2) (hCons (hName 3) hNil))))
  (sSeq (sSet 1 (dFn (den_of) (aLend 0 (aCons (ofD (frz (dLst (dCons (dC (.int 2)) (dCons (dC (.int 2)) (dCons (dC (.int 3)) (dCons (dC (.int 5)) (dCons (dC (.int 8)) (dCons (dC (.int 97)) (dCons (dC (.int 1009)) (dCons (frz (dBin powD (dC (.int 10)) (dC (.int 9)))) dNil))))))))))) aNil))))
  (sRet (ofD (dTup (dCons (dName 2) (dCons (dName 3) (dCons (dName 1) (dCons (frz (dBin addD (dC (.int 1)) (frz (dFn (den_take) (aLend 0 (aCons (ofD (frz (dCall minD (dCons (frz (dBin subD (dName 1) (dC (.int 1)))) (dCons (dC (.int 90)) dNil))))) aNil)))))) dNil)))))))))
def den_grove : Den := runF 1 4 b_grove
abbrev s_leaves : Stmt := top 21
theorem sc_leaves : FnScope ["tin", "grove_so", "many_so", "spots_so", "spot_so"] ["tin", "grove_so"] (defScope s_leaves) := ⟨rfl, rfl, rfl, by decide +kernel, rfl, by decide +kernel, by decide +kernel⟩
def ce_leaves : Dn PyData := (dTup (dCons (dName 4) (dCons (frz (dBin addD (dC (.int 1)) (frz (dFn (den_take) (aLend 0 (aCons (ofD (frz (dFn (den_of) (aLend 0 (aCons (ofD (frz (dLst (dCons (dC (.int 2)) (dCons (dC (.int 3)) (dCons (dC (.int 40)) dNil)))))) aNil))))) aNil)))))) dNil)))
def b_leaves : Dn Fl := (sSeq (sSet 2 (dFn (den_width) (aCons (ofD (dName 1)) aNil)))
  (sSeq (sSet 3 (dCall sort2D (dCons (frz (dFn (den_pick) (aLend 0 (aCons (ofD (frz (dR1 (rg1X false) (dName 2)))) (aCons (ofD (frz (dFn (den_take) (aLend 0 (aCons (ofD (frz (dBin addD (frz (dCall minD (dCons (dName 2) (dCons (dC (.int 9)) dNil)))) (dC (.int 1))))) aNil))))) aNil))))) dNil)))
  (sRet (dCall tupleD (dCons (frz (dComp (iSeq (dName 3)) (hName 4) yesT ce_leaves [4])) dNil)))))
def den_leaves : Den := runF 2 5 b_leaves
abbrev s_turned : Stmt := top 22
theorem sc_turned : FnScope ["tin", "grove_so", "page_so", "found", "spot_so", "rank_so", "kind_so"] ["tin", "grove_so", "page_so"] (defScope s_turned) := ⟨rfl, rfl, rfl, by decide +kernel, rfl, by decide +kernel, by decide +kernel⟩
def lb_turned : Dn Fl := (sSeq (sSet 6 (dFn (den_take) (aLend 0 (aCons (ofD (dC (.int 8))) aNil))))
  (sIf (dCmpT gtD (dName 6) (dC (.int 0))) (sPutD 3 (dName 4) (frz (dBin addD (dName 5) (frz (dBin mulD (frz (dCall intD (dCons (frz (dBin ltD (dName 6) (dC (.int 3)))) dNil))) (frz (dBin addD (dC (.int 1)) (frz (dFn (den_take) (aLend 0 (aCons (ofD (dC (.int 4))) aNil))))))))))) sNx))
def lb_turned_2 : Dn Fl := (sIf (dCmpT eqD (frz (dFn (den_take) (aLend 0 (aCons (ofD (dC (.int 2))) aNil)))) (dC (.int 0))) (sPutD 3 (dName 4) (dName 5)) sNx)
def ce_turned : Dn PyData := (dTup (dCons (dName 4) (dCons (dDk 3 (dName 4)) dNil)))
def b_turned : Dn Fl := (sSeq (sSet 3 dNewD)
  (sSeq (sFor (iSeq (dName 2)) (hTup 2 (hCons (hName 4) (hCons (hName 5) hNil))) lb_turned)
  (sSeq (sFor (iSeq (frz (dSl (frz (dFn (den_leaves) (aLend 0 (aCons (ofD (dName 1)) aNil)))) dOff (dOn (dC (.int 3)))))) (hTup 2 (hCons (hName 4) (hCons (hName 5) hNil))) lb_turned_2)
  (sRet (dCall tupleD (dCons (frz (dComp (iSeq (frz (dCall sort2D (dCons (frz (dCall listDX (dCons (dName 3) dNil))) dNil)))) (hName 4) yesT ce_turned [4])) dNil))))))
def den_turned : Den := runF 3 7 b_turned
abbrev s_table : Stmt := top 23
theorem sc_table : FnScope ["grove_so", "own_so", "far_so", "k", "found", "many_so", "wide_so", "j", "count_so", "row_so", "near_so", "late_so", "sums_so", "from_so", "to_so", "its"] ["grove_so", "own_so", "far_so"] (defScope s_table) := ⟨rfl, rfl, rfl, by decide +kernel, rfl, by decide +kernel, by decide +kernel⟩
def ct_table : Dn Bool := (dChT leD ltD (dName 13) (dPeek 15 (dC (.int 0))) (dName 14))
def ce_table : Dn PyData := (dName 15)
def ct_table_2 : Dn Bool := (dChT leD ltD (dName 13) (dPeek 15 (dC (.int 0))) (dName 14))
def ce_table_2 : Dn PyData := (dName 15)
def lb_table : Dn Fl := (sSeq (sAsg (dTup (dCons (frz (dBin mulD (dName 7) (dName 6))) (dCons (frz (dBin addD (frz (dBin mulD (dName 7) (dName 6))) (dName 6))) dNil))) (hTup 2 (hCons (hName 13) (hCons (hName 14) hNil))))
  (sSeq (sSet 10 (dComp (iSeq (dName 1)) (hName 15) ct_table ce_table [15]))
  (sSeq (sSet 11 (dComp (iSeq (dName 2)) (hName 15) ct_table_2 ce_table_2 [15]))
  (sSeq (sSet 12 (dBin neD (frz (dFn (den_total) (aCons (ofD (dName 0)) (aCons (ofD (dName 1)) (aCons (ofD (dName 13)) (aCons (ofD (dName 14)) aNil)))))) (frz (dFn (den_total) (aCons (ofD (dName 0)) (aCons (ofD (dName 2)) (aCons (ofD (dName 13)) (aCons (ofD (dName 14)) aNil))))))))
  (sApp 9 (dTup (dCons (dName 12) (dCons (frz (dBin neD (dName 10) (dName 11))) dNil))))))))
def lb_table_2 : Dn Fl := (sSeq (sParA 8 9 (aCons (dFn (den_law_power) (aCons (ofD (dPeek 0 (dC (.int 0)))) (aCons (ofD (dName 3)) aNil))) (aCons (dLst dNil) aNil)))
  (sSeq (sSet 6 (dBin fdivD (dName 5) (dName 8)))
  (sSeq (sFor (iRg1 (dCons (dName 8) dNil)) (hName 7) lb_table)
  (sApp 4 (dName 9)))))
def b_table : Dn Fl := (sSeq (sParA 4 5 (aCons (dLst dNil) (aCons (dFn (den_width) (aCons (ofD (dName 0)) aNil)) aNil)))
  (sSeq (sFor (iRg1 (dCons (frz (dBin addD (dPeek 0 (dC (.int 1))) (dC (.int 1)))) dNil)) (hName 3) lb_table_2)
  (sRet (dMove 4))))
def den_table : Den := runF 3 16 b_table
abbrev s_around : Stmt := top 24
theorem sc_around : FnScope ["grove_so", "k", "j", "goods_so", "n"] ["grove_so", "k", "j", "goods_so"] (defScope s_around) := ⟨rfl, rfl, rfl, by decide +kernel, rfl, by decide +kernel, by decide +kernel⟩
def ce_around : Dn PyData := (frz (dBin ixD (dPeek 3 (dName 4)) (frz (dBin fdivD (dName 2) (frz (dFn (den_law_power) (aCons (ofD (dPeek 0 (dC (.int 0)))) (aCons (ofD (frz (dBin subD (dName 1) (dName 4)))) aNil))))))))
def b_around : Dn Fl := (sRet (dComp (iRg1 (dCons (dName 1) dNil)) (hName 4) yesT ce_around [4]))
def den_around : Den := runF 4 5 b_around
abbrev s_due : Stmt := top 25
theorem sc_due : FnScope ["grove_so", "goods_so", "found", "asked_so", "proof_so", "lied_so", "k", "row_so", "j", "own", "above_so", "its"] ["grove_so", "goods_so"] (defScope s_due) := ⟨rfl, rfl, rfl, by decide +kernel, rfl, by decide +kernel, by decide +kernel⟩
def ce_due : Dn PyData := (dPeek 11 (dC (.int 0)))
def lb_due : Dn Fl := (sSeq (sSet 10 (dFn (den_around) (aCons (ofD (dName 0)) (aCons (ofD (dName 6)) (aCons (ofD (dName 8)) (aCons (ofD (dName 1)) aNil))))))
  (sSeq (sIf (dTru (frz (dCall allD (dCons (frz (dComp (iSeq (dName 10)) (hName 11) yesT ce_due [11])) dNil)))) (sSeq (sSet 3 (dBin addD (dName 3) (dC (.int 1))))
  (sSeq (sSet 5 (dOr (dMove 5) (ofD (dAnd (dPeek 9 (dC (.int 1))) (dNot (dPeek 9 (dC (.int 0))))))))
  (sIf (dAndT (dCmpT eqD (dName 6) (dPeek 0 (dC (.int 1)))) (dTru (dPeek 9 (dC (.int 0))))) (sApp 2 (dName 8)) sNx))) sNx)
  (sIf (dOrT (dAndT (dCmpT eqD (dName 6) (dPeek 0 (dC (.int 1)))) (dTru (dPeek 9 (dC (.int 1))))) (dAndT (dNotT (dTru (dPeek 9 (dC (.int 1))))) (dOrT (dCmpT eqD (dName 10) (frz (dLst dNil))) (dTru (frz (dBin ixD (dPeek 10 (dUn negD (dC (.int 1)))) (dC (.int 1)))))))) (sSet 4 (dBin addD (dName 4) (dC (.int 1)))) sNx)))
def lb_due_2 : Dn Fl := (sFor (iEnB (dCons (dName 7) dNil)) (hTup 2 (hCons (hName 8) (hCons (hName 9) hNil))) lb_due)
def b_due : Dn Fl := (sSeq (sParX4 2 3 4 5 (aCons (dLst dNil) (aCons (ofD (dC (.int 0))) (aCons (ofD (dC (.int 0))) (aCons (ofD (dC (.bool false))) aNil)))))
  (sSeq (sFor (iEnB (dCons (dName 1) dNil)) (hTup 2 (hCons (hName 6) (hCons (hName 7) hNil))) lb_due_2)
  (sRet (ofD (dTup (dCons (dName 2) (dCons (dName 3) (dCons (dName 4) (dCons (dName 5) dNil)))))))))
def den_due : Den := runF 2 12 b_due
abbrev s_law_mended : Stmt := top 26
theorem sc_law_mended : FnScope ["own_so", "far_so", "spots_so", "spot_so", "here", "there_so", "late_so"] ["own_so", "far_so", "spots_so"] (defScope s_law_mended) := ⟨rfl, rfl, rfl, by decide +kernel, rfl, by decide +kernel, by decide +kernel⟩
def lb_law_mended : Dn Fl := (sSeq (sSet 6 (dCall max2D (dCons (dGet2 4 (dName 3) (dC (.int 0))) (dCons (dGet2 5 (dName 3) (dC (.int 0))) dNil))))
  (sTwoP 4 5 (dName 3) (dName 3) (dTup (dCons (dName 6) (dCons (dName 6) dNil)))))
def b_law_mended : Dn Fl := (sSeq (sParA 4 5 (aCons (dCall dictD (dCons (frz (dCall listD (dCons (dName 0) dNil))) dNil)) (aCons (dCall dictD (dCons (frz (dCall listD (dCons (dName 1) dNil))) dNil)) aNil)))
  (sSeq (sFor (iSeq (dName 2)) (hName 3) lb_law_mended)
  (sRet (ofD (dTup (dCons (frz (dCall tupleD (dCons (frz (dCall sortX (dCons (frz (dItemsL 4)) dNil))) dNil))) (dCons (frz (dCall tupleD (dCons (frz (dCall sortX (dCons (frz (dItemsL 5)) dNil))) dNil))) dNil)))))))
def den_law_mended : Den := runF 3 7 b_law_mended
abbrev s_case_right : Stmt := top 27
theorem sc_case_right : FnScope ["grove_so", "own_so", "far_so", "goods_so", "due", "got", "unlike_so", "found", "asked_so", "proof_so", "lied_so", "near_so", "late_so", "j", "own"] ["grove_so", "own_so", "far_so"] (defScope s_case_right) := ⟨rfl, rfl, rfl, by decide +kernel, rfl, by decide +kernel, by decide +kernel⟩
def ct_case_right : Dn Bool := (dTru (dPeek 14 (dC (.int 1))))
def ce_case_right : Dn PyData := (dName 13)
def ct_case_right_2 : Dn Bool := (dCmpT notInD (dName 13) (dName 6))
def ce_case_right_2 : Dn PyData := (dName 13)
def ct_case_right_3 : Dn Bool := (dCmpT inD (dName 13) (dName 7))
def ce_case_right_3 : Dn PyData := (dName 13)
def b_case_right : Dn Fl := (sSeq (sSet 3 (dFn (den_table) (aCons (ofD (dName 0)) (aCons (ofD (dName 1)) (aCons (ofD (dName 2)) aNil)))))
  (sSeq (sAsg (frz (dFn (den_due) (aCons (ofD (dName 0)) (aCons (ofD (dName 3)) aNil)))) (hTup 4 (hCons (hName 7) (hCons (hName 8) (hCons (hName 9) (hCons (hName 10) hNil))))))
  (sSeq (sSet 4 (ofD (dTup (dCons (frz (dCall tupleD (dCons (dName 7) dNil))) (dCons (dName 8) dNil)))))
  (sSeq (sSet 5 (dLst (dCons (frz (dFn (den_compare) (aCons (ofD (dName 0)) (aCons (ofD (dName 1)) (aCons (ofD (dName 2)) aNil))))) dNil)))
  (sSeq (sApp 5 (frz (dFn (den_compare) (dArP [2, 1, 0] (dCons (frz (dFn (den_lists 8) (aCons (ofD (dName 1)) aNil))) (dCons (frz (dFn (den_lists 8) (aCons (ofD (dName 2)) aNil))) (dCons (frz (dCall listD (dCons (dName 0) dNil))) dNil)))))))
  (sSeq (sApp 5 (frz (dFn (den_least_proof) (aCons (ofD (dName 0)) (aCons (ofD (dName 1)) (aCons (ofD (dName 2)) aNil))))))
  (sSeq (sApp 5 (frz (dFn (den_least_proof) (dArP [2, 0, 1] (dCons (dName 2) (dCons (frz (dFn (den_lists 8) (aCons (ofD (dName 1)) aNil))) (dCons (dName 0) dNil)))))))
  (sSeq (sIf (dNotT (dTru (frz (dFn (den_same 10) (aCons (ofD (dName 5)) (aCons (ofD (frz (dLst (dCons (dName 4) (dCons (dName 4) (dCons (dName 9) (dCons (dName 9) dNil))))))) aNil)))))) (sRet (ofD (dC (.bool false)))) sNx)
  (sSeq (sAsg (frz (dComp (iEnB (dCons (dPeek 3 (dUn negD (dC (.int 1)))) dNil)) (hTup 2 (hCons (hName 13) (hCons (hName 14) hNil))) ct_case_right ce_case_right [13, 14])) (hName 6))
  (sSeq (sIf (dCmpT neD (frz (dComp (iSeq (dName 7)) (hName 13) ct_case_right_2 ce_case_right_2 [13])) (frz (dLst dNil))) (sRet (ofD (dC (.bool false)))) sNx)
  (sSeq (sIf (dAndT (dNotT (dTru (dName 10))) (dOrT (dCmpT neD (dName 7) (dName 6)) (dCmpT ltD (dName 8) (dName 9)))) (sRet (ofD (dC (.bool false)))) sNx)
  (sSeq (sAsg (frz (dFn (den_law_mended) (aCons (ofD (dName 1)) (aCons (ofD (dName 2)) (aCons (ofD (dName 7)) aNil))))) (hTup 2 (hCons (hName 11) (hCons (hName 12) hNil))))
  (sSeq (sIf (dTru (dName 10)) (sRet (dBin eqD (frz (dComp (iSeq (frz (dBin ixD (frz (dFn (den_compare) (aCons (ofD (dName 0)) (aCons (ofD (dName 11)) (aCons (ofD (dName 12)) aNil))))) (dC (.int 0))))) (hName 13) ct_case_right_3 ce_case_right_3 [13])) (frz (dLst dNil)))) sNx)
  (sSeq (sSet 5 (dLst (dCons (frz (dBin eqD (dName 11) (dName 12))) (dCons (frz (dFn (den_compare) (aCons (ofD (dName 0)) (aCons (ofD (dName 11)) (aCons (ofD (dName 12)) aNil))))) (dCons (frz (dFn (den_least_proof) (aCons (ofD (dName 0)) (aCons (ofD (dName 11)) (aCons (ofD (dName 12)) aNil))))) dNil)))))
  (sRet (dFn (den_same 10) (aCons (ofD (dName 5)) (aCons (ofD (frz (dLst (dCons (dC (.bool true)) (dCons (dTup (dCons (dTup dNil) (dCons (dC (.int 1)) dNil))) (dCons (dC (.int 1)) dNil)))))) aNil))))))))))))))))))
def den_case_right : Den := runF 3 15 b_case_right
abbrev s_by_hand_right : Stmt := top 28
theorem sc_by_hand_right : FnScope ["got", "due", "grove_so", "own_so", "far_so", "wide_so", "near_so", "late_so"] [] (defScope s_by_hand_right) := ⟨rfl, rfl, rfl, by decide +kernel, rfl, by decide +kernel, by decide +kernel⟩
@[irreducible] def b_by_hand_right : Dn Fl := (sSeq (sAsg (dTup (dCons (dTup (dCons (dC (.int 2)) (dCons (dC (.int 2)) (dCons (dC (.int 97)) (dCons (dC (.int 10)) dNil))))) (dCons (dTup (dCons (dTup (dCons (dC (.int 0)) (dCons (dC (.int 1)) dNil))) (dCons (dTup (dCons (dC (.int 2)) (dCons (dC (.int 4)) dNil))) (dCons (dTup (dCons (dC (.int 3)) (dCons (dC (.int 2)) dNil))) dNil)))) (dCons (dTup (dCons (dTup (dCons (dC (.int 0)) (dCons (dC (.int 1)) dNil))) (dCons (dTup (dCons (dC (.int 2)) (dCons (dC (.int 5)) dNil))) (dCons (dTup (dCons (dC (.int 3)) (dCons (dC (.int 2)) dNil))) dNil)))) dNil)))) (hTup 3 (hCons (hName 2) (hCons (hName 3) (hCons (hName 4) hNil)))))
  (sSeq (sSet 0 (dLst (dCons (frz (dFn (den_compare) (aCons (ofD (dName 2)) (aCons (ofD (dName 3)) (aCons (ofD (dName 4)) aNil))))) (dCons (frz (dFn (den_compare) (aCons (ofD (dName 2)) (aCons (ofD (dName 3)) (aCons (ofD (dName 3)) aNil))))) dNil))))
  (sSeq (sApp 0 (frz (dFn (den_compare) (aCons (ofD (dTup (dCons (dC (.int 2)) (dCons (dC (.int 1)) (dCons (dC (.int 2)) (dCons (dC (.int 1)) dNil)))))) (aCons (ofD (dTup (dCons (dTup (dCons (dC (.int 0)) (dCons (dC (.int 1)) dNil))) dNil))) (aCons (ofD (dTup (dCons (dTup (dCons (dC (.int 0)) (dCons (dC (.int 2)) dNil))) dNil))) aNil))))))
  (sSeq (sSet 1 (dLst (dCons (dTup (dCons (dTup (dCons (dC (.int 2)) dNil)) (dCons (dC (.int 5)) dNil))) (dCons (dTup (dCons (dTup dNil) (dCons (dC (.int 1)) dNil))) (dCons (dTup (dCons (dTup dNil) (dCons (dC (.int 1)) dNil))) dNil)))))
  (sSeq (sSet 0 (dBin addD (dName 0) (frz (dLst (dCons (frz (dFn (den_least_proof) (aCons (ofD (dName 2)) (aCons (ofD (dName 3)) (aCons (ofD (dName 4)) aNil))))) (dCons (frz (dFn (den_least_proof) (aCons (ofD (dName 2)) (aCons (ofD (dName 3)) (aCons (ofD (dName 3)) aNil))))) dNil))))))
  (sSeq (sSet 0 (dBin addD (dName 0) (frz (dLst (dCons (frz (dFn (den_least_proof) (aCons (ofD (dTup (dCons (dC (.int 2)) (dCons (dC (.int 1)) (dCons (dC (.int 2)) (dCons (dC (.int 1)) dNil)))))) (aCons (ofD (dTup (dCons (dTup (dCons (dC (.int 0)) (dCons (dC (.int 1)) dNil))) dNil))) (aCons (ofD (dTup (dCons (dTup (dCons (dC (.int 0)) (dCons (dC (.int 2)) dNil))) dNil))) aNil))))) (dCons (frz (dFn (den_compare) (aCons (ofD (dTup (dCons (dC (.int 2)) (dCons (dC (.int 1)) (dCons (dC (.int 2)) (dCons (dC (.int 1)) dNil)))))) (aCons (ofD (dTup dNil)) (aCons (ofD (dTup (dCons (dTup (dCons (dC (.int 0)) (dCons (dC (.int 1)) dNil))) dNil))) aNil))))) dNil))))))
  (sSeq (sSet 1 (dBin addD (dName 1) (frz (dLst (dCons (dC (.int 3)) (dCons (dC (.int 1)) (dCons (dC (.int 2)) (dCons (dTup (dCons (dTup (dCons (dC (.int 0)) dNil)) (dCons (dC (.int 3)) dNil))) dNil))))))))
  (sSeq (sAsg (dTup (dCons (dTup (dCons (dC (.int 3)) (dCons (dC (.int 2)) (dCons (dC (.int 97)) (dCons (dC (.int 10)) dNil))))) (dCons (dTup (dCons (dTup (dCons (dC (.int 0)) (dCons (dC (.int 1)) dNil))) (dCons (dTup (dCons (dC (.int 4)) (dCons (dC (.int 2)) dNil))) (dCons (dTup (dCons (dC (.int 8)) (dCons (dC (.int 3)) dNil))) dNil)))) (dCons (dTup (dCons (dTup (dCons (dC (.int 0)) (dCons (dC (.int 1)) dNil))) (dCons (dTup (dCons (dC (.int 4)) (dCons (dC (.int 2)) dNil))) (dCons (dTup (dCons (dC (.int 7)) (dCons (dC (.int 1)) dNil))) (dCons (dTup (dCons (dC (.int 8)) (dCons (dC (.int 4)) dNil))) dNil))))) dNil)))) (hTup 3 (hCons (hName 5) (hCons (hName 6) (hCons (hName 7) hNil)))))
  (sSeq (sSet 0 (dBin addD (dName 0) (frz (dLst (dCons (frz (dFn (den_compare) (aCons (ofD (dName 5)) (aCons (ofD (dName 6)) (aCons (ofD (dName 7)) aNil))))) (dCons (frz (dFn (den_least_proof) (aCons (ofD (dName 5)) (aCons (ofD (dName 6)) (aCons (ofD (dName 7)) aNil))))) dNil))))))
  (sSeq (sSet 1 (dBin addD (dName 1) (frz (dLst (dCons (dTup (dCons (dTup (dCons (dC (.int 7)) (dCons (dC (.int 8)) dNil))) (dCons (dC (.int 7)) dNil))) (dCons (dC (.int 5)) dNil))))))
  (sSeq (sSet 0 (dBin addD (dName 0) (frz (dLst (dCons (frz (dFn (den_compare) (aCons (ofD (dTup (dCons (dC (.int 2)) (dCons (dC (.int 0)) (dCons (dC (.int 2)) (dCons (dC (.int 1)) dNil)))))) (aCons (ofD (dTup (dCons (dTup (dCons (dC (.int 0)) (dCons (dC (.int 1)) dNil))) dNil))) (aCons (ofD (dTup dNil)) aNil))))) (dCons (frz (dFn (den_compare) (aCons (ofD (dTup (dCons (dC (.int 2)) (dCons (dC (.int 0)) (dCons (dC (.int 2)) (dCons (dC (.int 1)) dNil)))))) (aCons (ofD (dTup dNil)) (aCons (ofD (dTup dNil)) aNil))))) dNil))))))
  (sSeq (sApp 0 (frz (dFn (den_least_proof) (aCons (ofD (dTup (dCons (dC (.int 4)) (dCons (dC (.int 0)) (dCons (dC (.int 5)) (dCons (dC (.int 1)) dNil)))))) (aCons (ofD (dTup dNil)) (aCons (ofD (dTup (dCons (dTup (dCons (dC (.int 0)) (dCons (dC (.int 2)) dNil))) dNil))) aNil))))))
  (sSeq (sSet 1 (dBin addD (dName 1) (frz (dLst (dCons (dTup (dCons (dTup (dCons (dC (.int 0)) dNil)) (dCons (dC (.int 1)) dNil))) (dCons (dTup (dCons (dTup dNil) (dCons (dC (.int 1)) dNil))) (dCons (dC (.int 1)) dNil)))))))
  (sSeq (sApp 0 (frz (dFn (den_compare) (aCons (ofD (dTup (dCons (dC (.int 2)) (dCons (dC (.int 1)) (dCons (dC (.int 128)) (dCons (dC (.int 1)) dNil)))))) (aCons (ofD (dTup (dCons (dTup (dCons (dC (.int 0)) (dCons (dC (.int 1)) dNil))) (dCons (dTup (dCons (dC (.int 1)) (dCons (dC (.int 1)) dNil))) dNil)))) (aCons (ofD (dTup (dCons (dTup (dCons (dC (.int 0)) (dCons (dC (.int 2)) dNil))) (dCons (dTup (dCons (dC (.int 1)) (dCons (dC (.int 3)) dNil))) dNil)))) aNil))))))
  (sRet (dFn (den_same 10) (aCons (ofD (dName 0)) (aCons (ofD (frz (dBin addD (dName 1) (frz (dLst (dCons (dTup (dCons (dTup (dCons (dC (.int 0)) dNil)) (dCons (dC (.int 3)) dNil))) dNil)))))) aNil))))))))))))))))))
theorem eq_by_hand_right : b_by_hand_right = (sSeq (sAsg (dTup (dCons (dTup (dCons (dC (.int 2)) (dCons (dC (.int 2)) (dCons (dC (.int 97)) (dCons (dC (.int 10)) dNil))))) (dCons (dTup (dCons (dTup (dCons (dC (.int 0)) (dCons (dC (.int 1)) dNil))) (dCons (dTup (dCons (dC (.int 2)) (dCons (dC (.int 4)) dNil))) (dCons (dTup (dCons (dC (.int 3)) (dCons (dC (.int 2)) dNil))) dNil)))) (dCons (dTup (dCons (dTup (dCons (dC (.int 0)) (dCons (dC (.int 1)) dNil))) (dCons (dTup (dCons (dC (.int 2)) (dCons (dC (.int 5)) dNil))) (dCons (dTup (dCons (dC (.int 3)) (dCons (dC (.int 2)) dNil))) dNil)))) dNil)))) (hTup 3 (hCons (hName 2) (hCons (hName 3) (hCons (hName 4) hNil)))))
  (sSeq (sSet 0 (dLst (dCons (frz (dFn (den_compare) (aCons (ofD (dName 2)) (aCons (ofD (dName 3)) (aCons (ofD (dName 4)) aNil))))) (dCons (frz (dFn (den_compare) (aCons (ofD (dName 2)) (aCons (ofD (dName 3)) (aCons (ofD (dName 3)) aNil))))) dNil))))
  (sSeq (sApp 0 (frz (dFn (den_compare) (aCons (ofD (dTup (dCons (dC (.int 2)) (dCons (dC (.int 1)) (dCons (dC (.int 2)) (dCons (dC (.int 1)) dNil)))))) (aCons (ofD (dTup (dCons (dTup (dCons (dC (.int 0)) (dCons (dC (.int 1)) dNil))) dNil))) (aCons (ofD (dTup (dCons (dTup (dCons (dC (.int 0)) (dCons (dC (.int 2)) dNil))) dNil))) aNil))))))
  (sSeq (sSet 1 (dLst (dCons (dTup (dCons (dTup (dCons (dC (.int 2)) dNil)) (dCons (dC (.int 5)) dNil))) (dCons (dTup (dCons (dTup dNil) (dCons (dC (.int 1)) dNil))) (dCons (dTup (dCons (dTup dNil) (dCons (dC (.int 1)) dNil))) dNil)))))
  (sSeq (sSet 0 (dBin addD (dName 0) (frz (dLst (dCons (frz (dFn (den_least_proof) (aCons (ofD (dName 2)) (aCons (ofD (dName 3)) (aCons (ofD (dName 4)) aNil))))) (dCons (frz (dFn (den_least_proof) (aCons (ofD (dName 2)) (aCons (ofD (dName 3)) (aCons (ofD (dName 3)) aNil))))) dNil))))))
  (sSeq (sSet 0 (dBin addD (dName 0) (frz (dLst (dCons (frz (dFn (den_least_proof) (aCons (ofD (dTup (dCons (dC (.int 2)) (dCons (dC (.int 1)) (dCons (dC (.int 2)) (dCons (dC (.int 1)) dNil)))))) (aCons (ofD (dTup (dCons (dTup (dCons (dC (.int 0)) (dCons (dC (.int 1)) dNil))) dNil))) (aCons (ofD (dTup (dCons (dTup (dCons (dC (.int 0)) (dCons (dC (.int 2)) dNil))) dNil))) aNil))))) (dCons (frz (dFn (den_compare) (aCons (ofD (dTup (dCons (dC (.int 2)) (dCons (dC (.int 1)) (dCons (dC (.int 2)) (dCons (dC (.int 1)) dNil)))))) (aCons (ofD (dTup dNil)) (aCons (ofD (dTup (dCons (dTup (dCons (dC (.int 0)) (dCons (dC (.int 1)) dNil))) dNil))) aNil))))) dNil))))))
  (sSeq (sSet 1 (dBin addD (dName 1) (frz (dLst (dCons (dC (.int 3)) (dCons (dC (.int 1)) (dCons (dC (.int 2)) (dCons (dTup (dCons (dTup (dCons (dC (.int 0)) dNil)) (dCons (dC (.int 3)) dNil))) dNil))))))))
  (sSeq (sAsg (dTup (dCons (dTup (dCons (dC (.int 3)) (dCons (dC (.int 2)) (dCons (dC (.int 97)) (dCons (dC (.int 10)) dNil))))) (dCons (dTup (dCons (dTup (dCons (dC (.int 0)) (dCons (dC (.int 1)) dNil))) (dCons (dTup (dCons (dC (.int 4)) (dCons (dC (.int 2)) dNil))) (dCons (dTup (dCons (dC (.int 8)) (dCons (dC (.int 3)) dNil))) dNil)))) (dCons (dTup (dCons (dTup (dCons (dC (.int 0)) (dCons (dC (.int 1)) dNil))) (dCons (dTup (dCons (dC (.int 4)) (dCons (dC (.int 2)) dNil))) (dCons (dTup (dCons (dC (.int 7)) (dCons (dC (.int 1)) dNil))) (dCons (dTup (dCons (dC (.int 8)) (dCons (dC (.int 4)) dNil))) dNil))))) dNil)))) (hTup 3 (hCons (hName 5) (hCons (hName 6) (hCons (hName 7) hNil)))))
  (sSeq (sSet 0 (dBin addD (dName 0) (frz (dLst (dCons (frz (dFn (den_compare) (aCons (ofD (dName 5)) (aCons (ofD (dName 6)) (aCons (ofD (dName 7)) aNil))))) (dCons (frz (dFn (den_least_proof) (aCons (ofD (dName 5)) (aCons (ofD (dName 6)) (aCons (ofD (dName 7)) aNil))))) dNil))))))
  (sSeq (sSet 1 (dBin addD (dName 1) (frz (dLst (dCons (dTup (dCons (dTup (dCons (dC (.int 7)) (dCons (dC (.int 8)) dNil))) (dCons (dC (.int 7)) dNil))) (dCons (dC (.int 5)) dNil))))))
  (sSeq (sSet 0 (dBin addD (dName 0) (frz (dLst (dCons (frz (dFn (den_compare) (aCons (ofD (dTup (dCons (dC (.int 2)) (dCons (dC (.int 0)) (dCons (dC (.int 2)) (dCons (dC (.int 1)) dNil)))))) (aCons (ofD (dTup (dCons (dTup (dCons (dC (.int 0)) (dCons (dC (.int 1)) dNil))) dNil))) (aCons (ofD (dTup dNil)) aNil))))) (dCons (frz (dFn (den_compare) (aCons (ofD (dTup (dCons (dC (.int 2)) (dCons (dC (.int 0)) (dCons (dC (.int 2)) (dCons (dC (.int 1)) dNil)))))) (aCons (ofD (dTup dNil)) (aCons (ofD (dTup dNil)) aNil))))) dNil))))))
  (sSeq (sApp 0 (frz (dFn (den_least_proof) (aCons (ofD (dTup (dCons (dC (.int 4)) (dCons (dC (.int 0)) (dCons (dC (.int 5)) (dCons (dC (.int 1)) dNil)))))) (aCons (ofD (dTup dNil)) (aCons (ofD (dTup (dCons (dTup (dCons (dC (.int 0)) (dCons (dC (.int 2)) dNil))) dNil))) aNil))))))
  (sSeq (sSet 1 (dBin addD (dName 1) (frz (dLst (dCons (dTup (dCons (dTup (dCons (dC (.int 0)) dNil)) (dCons (dC (.int 1)) dNil))) (dCons (dTup (dCons (dTup dNil) (dCons (dC (.int 1)) dNil))) (dCons (dC (.int 1)) dNil)))))))
  (sSeq (sApp 0 (frz (dFn (den_compare) (aCons (ofD (dTup (dCons (dC (.int 2)) (dCons (dC (.int 1)) (dCons (dC (.int 128)) (dCons (dC (.int 1)) dNil)))))) (aCons (ofD (dTup (dCons (dTup (dCons (dC (.int 0)) (dCons (dC (.int 1)) dNil))) (dCons (dTup (dCons (dC (.int 1)) (dCons (dC (.int 1)) dNil))) dNil)))) (aCons (ofD (dTup (dCons (dTup (dCons (dC (.int 0)) (dCons (dC (.int 2)) dNil))) (dCons (dTup (dCons (dC (.int 1)) (dCons (dC (.int 3)) dNil))) dNil)))) aNil))))))
  (sRet (dFn (den_same 10) (aCons (ofD (dName 0)) (aCons (ofD (frz (dBin addD (dName 1) (frz (dLst (dCons (dTup (dCons (dTup (dCons (dC (.int 0)) dNil)) (dCons (dC (.int 3)) dNil))) dNil)))))) aNil)))))))))))))))))) := by delta b_by_hand_right; rfl
def den_by_hand_right : Den := runF 0 8 b_by_hand_right
abbrev s_right : Stmt := top 29
theorem sc_right : FnScope ["tin", "grove_so", "own_so"] ["tin"] (defScope s_right) := ⟨rfl, rfl, rfl, by decide +kernel, rfl, by decide +kernel, by decide +kernel⟩
def b_right : Dn Fl := (sSeq (sSet 1 (dFn (den_grove) (aLend 0 aNil)))
  (sSeq (sSet 2 (dFn (den_leaves) (aLend 0 (aCons (ofD (dName 1)) aNil))))
  (sRet (dFn (den_case_right) (aCons (ofD (dName 1)) (aCons (ofD (dName 2)) (aCons (ofD (frz (dFn (den_turned) (aLend 0 (aCons (ofD (dName 1)) (aCons (ofD (dName 2)) aNil)))))) aNil)))))))
def den_right : Den := runF 1 3 b_right
abbrev s_law : Stmt := top 30
theorem sc_law : FnScope ["script", "cells_so", "k"] ["script"] (defScope s_law) := ⟨rfl, rfl, rfl, by decide +kernel, rfl, by decide +kernel, by decide +kernel⟩
def ce_law : Dn PyData := (frz (dFn (den_right) (aCons (dFn (den_box) (aCons (ofD (dName 1)) (aCons (ofD (dName 2)) aNil))) aNil)))
def b_law : Dn Fl := (sSeq (sIf (dNotT (dTru (frz (dFn0 (den_by_hand_right))))) (sRet (ofD (dC (.bool false)))) sNx)
  (sSeq (sSet 1 (dFn (den_law_cells) (aLend 0 (aCons (ofD (dC (.int 2))) aNil))))
  (sRet (dCall allD (dCons (frz (dComp (iRg1 (dCons (dLenP 1) dNil)) (hName 2) yesT ce_law [2])) dNil)))))
def den_law : Den := runF 1 3 b_law
structure Txt (K : PySem.W.Frag) (mg : Str → Option Value) : Prop where
  bt : Bt mg
  d_frozen : DefAt K mg "frozen" s_frozen ["value"]
  d_points_of : DefAt K mg "points_of" s_points_of ["tree"]
  d_pairs_in : DefAt K mg "pairs_in" s_pairs_in ["rows", "span"]
  d_sum_in : DefAt K mg "sum_in" s_sum_in ["tree", "rows", "span"]
  d_parts_of : DefAt K mg "parts_of" s_parts_of ["tree", "span"]
  d_compare : DefAt K mg "compare" s_compare ["tree", "left", "right"]
  d_least_proof : DefAt K mg "least_proof" s_least_proof ["tree", "left", "right"]
  d_box : DefAt K mg "_law_box" s_box ["script", "k"]
  d_take : DefAt K mg "_law_take" s_take ["tin", "below_so"]
  d_law_cells : DefAt K mg "_law_cells" s_law_cells ["script", "most_so"]
  d_of : DefAt K mg "_law_of" s_of ["tin", "goods_so"]
  d_pick : DefAt K mg "_law_pick" s_pick ["tin", "goods_so", "count_so"]
  d_lists : DefAt K mg "_law_lists" s_lists ["matter"]
  d_same : DefAt K mg "_law_same" s_same ["got", "due"]
  d_law_power : DefAt K mg "_law_power" s_law_power ["foot_so", "count_so"]
  d_total : DefAt K mg "_law_total" s_total ["grove_so", "page_so", "from_so", "to_so"]
  d_width : DefAt K mg "_law_width" s_width ["grove_so"]
  d_grove : DefAt K mg "_law_grove" s_grove ["tin"]
  d_leaves : DefAt K mg "_law_leaves" s_leaves ["tin", "grove_so"]
  d_turned : DefAt K mg "_law_turned" s_turned ["tin", "grove_so", "page_so"]
  d_table : DefAt K mg "_law_table" s_table ["grove_so", "own_so", "far_so"]
  d_around : DefAt K mg "_law_around" s_around ["grove_so", "k", "j", "goods_so"]
  d_due : DefAt K mg "_law_due" s_due ["grove_so", "goods_so"]
  d_law_mended : DefAt K mg "_law_mended" s_law_mended ["own_so", "far_so", "spots_so"]
  d_case_right : DefAt K mg "_law_case_right" s_case_right ["grove_so", "own_so", "far_so"]
  d_by_hand_right : DefAt K mg "_law_by_hand_right" s_by_hand_right []
  d_right : DefAt K mg "_law_right" s_right ["tin"]
  d_law : DefAt K mg "law" s_law ["script"]
section
variable {P : Program} {w : World} {K : PySem.W.Frag} {mg : Str → Option Value} {base : Heap}
theorem cal_frozen (T : Txt K mg) : ∀ n : Nat, Cal P w K mg base (5 + n) "frozen" 1 (den_frozen n)
  | 0 => calOf T.d_frozen fun f fd Fn => ok_none
  | n + 1 => calOf T.d_frozen fun f fd Fn => ok_def (k := 5 + n) Fn sc_frozen fun cdv A outer s H E hr => have cs := cal_frozen T n; have B := T.bt; (gss_cons (gs_if (g_tru (g_isi2 .lst .tup (by rfl) B.isinstance (by rfl) B.list PyProof.Rows.Boot.list (by rfl) B.tuple PyProof.Rows.Boot.tuple (g_name 0))) (gss_one (gs_ret (g_callTy call_tupleD (by rfl) B.tuple PyProof.Rows.Boot.tuple (gs_cons (toD (g_comp rfl sc_frozen.nd (gi_seq (g_name 0)) (own := [("part", 1)]) (blkOk_by (by kernel_rfl)) (by decide) (fun s H C cl fp => (gg_name 1 sc_frozen.nd)) (fun s H C cl fp => gt_yes) (fun s H C cl fp => (toD (g_call cs hr (by omega) (by rfl) passL (ga_cons (toE (g_name 1)) ga_nil) (arl_cons arl_nil)))))) gs_nil)))) gss_nil)
    (gss_one (gs_ret (g_move 0))))
theorem ok_points_of (T : Txt K mg) (f : Addr) (fd : FuncData) (Fn : Fun K "points_of" "points_of" s_points_of f fd) : FnOk P w K mg base (L2.CX P w) 5 f fd ["tree"] (spD K mg 1 den_points_of) := ok_def (k := 4) Fn sc_points_of fun cdv A outer s H E hr => have B := T.bt; (gss_cons (gs_set 1 sc_points_of.nd (toE g_int))
    (gss_cons (gs_for (passes_of rfl) rfl (gi_range1 (by rfl) B.range (gs_cons (g_peek 0 g_int) gs_nil)) (gg_name 2 sc_points_of.nd) (gss_one (gs_set 1 sc_points_of.nd (g_bin op_mulD (g_name 1) (g_peek 0 g_int)))))
    (gss_one (gs_ret (g_move 1)))))
theorem cal_points_of (T : Txt K mg) : Cal P w K mg base 5 "points_of" 1 den_points_of := calOf T.d_points_of (ok_points_of T)
theorem ok_pairs_in (T : Txt K mg) (f : Addr) (fd : FuncData) (Fn : Fun K "pairs_in" "pairs_in" s_pairs_in f fd) : FnOk P w K mg base (L2.CX P w) 5 f fd ["rows", "span"] (spD K mg 2 den_pairs_in) := ok_def (k := 4) Fn sc_pairs_in fun cdv A outer s H E hr => have B := T.bt; (gss_cons (gs_asg (g_name 1) (gg_tup rfl (ggs_cons (gg_name 2 sc_pairs_in.nd) (ggs_cons (gg_name 3 sc_pairs_in.nd) ggs_nil))))
    (gss_one (gs_ret (g_comp rfl sc_pairs_in.nd (gi_seq (g_name 0)) (own := [("point", 4), ("version", 5)]) (blkOk_by (by kernel_rfl)) (by decide) (fun s H C cl fp => (gg_tup rfl (ggs_cons (gg_name 4 sc_pairs_in.nd) (ggs_cons (gg_name 5 sc_pairs_in.nd) ggs_nil)))) (fun s H C cl fp => (gt_one (g_chainT op_leD op_ltD ci_bool (g_name 2) (g_name 4) (g_name 3)))) (fun s H C cl fp => (g_tup (gs_cons (g_name 4) (gs_cons (g_name 5) gs_nil))))))))
theorem cal_pairs_in (T : Txt K mg) : Cal P w K mg base 5 "pairs_in" 2 den_pairs_in := calOf T.d_pairs_in (ok_pairs_in T)
theorem ok_sum_in (T : Txt K mg) (f : Addr) (fd : FuncData) (Fn : Fun K "sum_in" "sum_in" s_sum_in f fd) : FnOk P w K mg base (L2.CX P w) 6 f fd ["tree", "rows", "span"] (spD K mg 3 den_sum_in) := ok_def (k := 5) Fn sc_sum_in fun cdv A outer s H E hr => have B := T.bt; (gss_cons (gs_asg (g_name 0) (gg_tup rfl (ggs_cons (gg_name 3 sc_sum_in.nd) (ggs_cons (gg_name 3 sc_sum_in.nd) (ggs_cons (gg_name 4 sc_sum_in.nd) (ggs_cons (gg_name 5 sc_sum_in.nd) ggs_nil))))))
    (gss_cons (gs_asg (g_tup (gs_cons g_int (gs_cons g_int gs_nil))) (gg_tup rfl (ggs_cons (gg_name 6 sc_sum_in.nd) (ggs_cons (gg_name 7 sc_sum_in.nd) ggs_nil))))
    (gss_cons (gs_for (passes_of rfl) rfl (gi_seq (toD (g_call (cal_pairs_in T) hr (by decide) (by rfl) (passes_call (takes_of rfl rfl rfl rfl) (fun _ _ _ _ h => h)) (ga_cons (toE (g_name 1)) (ga_cons (toE (g_name 2)) ga_nil)) (arl_cons (arl_cons arl_nil))))) (gg_tup rfl (ggs_cons (gg_name 8 sc_sum_in.nd) (ggs_cons (gg_name 9 sc_sum_in.nd) ggs_nil))) (gss_one (gs_par 6 7 rfl sc_sum_in.nd rfl rfl (by decide) (by kernel_rfl) (by kernel_rfl) (gs_cons (toD (g_bin op_addD (g_name 6) g_int)) (gs_cons (toD (g_bin op_modD (toD (g_bin op_addD (toD (g_bin op_addD (toD (g_bin op_mulD (g_name 7) (g_name 5))) (toD (g_bin op_mulD (g_name 9) g_int)))) (g_name 8))) (g_name 4))) gs_nil)) (by kernel_rfl))))
    (gss_one (gs_ret (toE (g_tup (gs_cons (g_name 6) (gs_cons (g_name 7) gs_nil)))))))))
theorem cal_sum_in (T : Txt K mg) : Cal P w K mg base 6 "sum_in" 3 den_sum_in := calOf T.d_sum_in (ok_sum_in T)
theorem ok_parts_of (T : Txt K mg) (f : Addr) (fd : FuncData) (Fn : Fun K "parts_of" "parts_of" s_parts_of f fd) : FnOk P w K mg base (L2.CX P w) 5 f fd ["tree", "span"] (spD K mg 2 den_parts_of) := ok_def (k := 4) Fn sc_parts_of fun cdv A outer s H E hr => have B := T.bt; (gss_cons (gs_asg (g_name 1) (gg_tup rfl (ggs_cons (gg_name 3 sc_parts_of.nd) (ggs_cons (gg_name 4 sc_parts_of.nd) ggs_nil))))
    (gss_cons (gs_if (g_cmpT (op_eqDD (room_u hr)) (toD (g_bin op_subD (g_name 4) (g_name 3))) g_int (nomark _)) (gss_one (gs_ret (g_lst gs_nil))) gss_nil)
    (gss_cons (gs_set 2 sc_parts_of.nd (g_bin op_fdivD (toD (g_bin op_subD (g_name 4) (g_name 3))) (g_peek 0 g_int)))
    (gss_one (gs_ret (g_comp rfl sc_parts_of.nd (gi_range1 (by rfl) B.range (gs_cons (g_peek 0 g_int) gs_nil)) (own := [("at", 5)]) (blkOk_by (by kernel_rfl)) (by decide) (fun s H C cl fp => (gg_name 5 sc_parts_of.nd)) (fun s H C cl fp => gt_yes) (fun s H C cl fp => (g_tup (gs_cons (toD (g_bin op_addD (g_name 3) (toD (g_bin op_mulD (g_name 5) (g_name 2))))) (gs_cons (toD (g_bin op_addD (g_name 3) (toD (g_bin op_mulD (toD (g_bin op_addD (g_name 5) g_int)) (g_name 2))))) gs_nil))))))))))
theorem cal_parts_of (T : Txt K mg) : Cal P w K mg base 5 "parts_of" 2 den_parts_of := calOf T.d_parts_of (ok_parts_of T)
theorem ok_compare (T : Txt K mg) (f : Addr) (fd : FuncData) (Fn : Fun K "compare" "compare" s_compare f fd) : FnOk P w K mg base (L2.CX P w) 14 f fd ["tree", "left", "right"] (spD K mg 3 den_compare) := ok_def (k := 13) Fn sc_compare fun cdv A outer s H E hr => have B := T.bt; (gss_cons (gs_asg (g_tup (gs_cons (toD (g_call (cal_frozen T 8) hr (by decide) (by rfl) (passes_call (takes_of rfl rfl rfl rfl) (fun _ _ _ _ h => h)) (ga_cons (toE (g_name 0)) ga_nil) (arl_cons arl_nil))) (gs_cons (toD (g_call (cal_frozen T 8) hr (by decide) (by rfl) (passes_call (takes_of rfl rfl rfl rfl) (fun _ _ _ _ h => h)) (ga_cons (toE (g_name 1)) ga_nil) (arl_cons arl_nil))) (gs_cons (toD (g_call (cal_frozen T 8) hr (by decide) (by rfl) (passes_call (takes_of rfl rfl rfl rfl) (fun _ _ _ _ h => h)) (ga_cons (toE (g_name 2)) ga_nil) (arl_cons arl_nil))) gs_nil)))) (gg_tup rfl (ggs_cons (gg_name 0 sc_compare.nd) (ggs_cons (gg_name 1 sc_compare.nd) (ggs_cons (gg_name 2 sc_compare.nd) ggs_nil)))))
    (gss_cons (gs_parA 4 5 rfl sc_compare.nd rfl rfl (by decide) (by kernel_rfl) (by kernel_rfl) (ga_cons (g_lst gs_nil) (ga_cons (toE g_int) ga_nil)) (by kernel_rfl))
    (gss_cons (gs_set 3 sc_compare.nd (g_lst (gs_cons (g_tup (gs_cons g_int (gs_cons (toD (g_call (cal_points_of T) hr (by decide) (by rfl) (passes_call (takes_of rfl rfl rfl rfl) (fun _ _ _ _ h => h)) (ga_cons (toE (g_name 0)) ga_nil) (arl_cons arl_nil))) gs_nil))) gs_nil)))
    (gss_cons (gs_while 70 (passes_of rfl) (g_cmpT op_gtD (g_lenP 3 (by rfl) B.len) g_int (nomark _)) (gss_cons (gs_set 5 sc_compare.nd (g_bin op_addD (g_name 5) (g_lenP 3 (by rfl) B.len)))
    (gss_cons (gs_setComp (i := 6) rfl sc_compare.nd rfl rfl rfl (gi_seq (g_name 3)) (own := [("span", 7)]) (blkOk_by (by kernel_rfl)) (by decide) (fun s H C cl fp => (gg_name 7 sc_compare.nd)) (fun s H C cl fp => (gt_one (g_cmpT (op_neDD (room_u hr)) (toD (g_call (cal_sum_in T) hr (by decide) (by rfl) passL (ga_cons (toE (g_name 0)) (ga_cons (toE (g_name 1)) (ga_cons (toE (g_name 7)) ga_nil))) (arl_cons (arl_cons (arl_cons arl_nil))))) (toD (g_call (cal_sum_in T) hr (by decide) (by rfl) passL (ga_cons (toE (g_name 0)) (ga_cons (toE (g_name 2)) (ga_cons (toE (g_name 7)) ga_nil))) (arl_cons (arl_cons (arl_cons arl_nil))))) (nomark _)))) (fun s H C cl fp => (g_name 7)))
    (gss_cons (gs_set 4 sc_compare.nd (g_bin op_addD (g_name 4) (toD (g_comp rfl sc_compare.nd (gi_seq (g_name 6)) (own := [("low", 9), ("high", 10)]) (blkOk_by (by kernel_rfl)) (by decide) (fun s H C cl fp => (gg_tup rfl (ggs_cons (gg_name 9 sc_compare.nd) (ggs_cons (gg_name 10 sc_compare.nd) ggs_nil)))) (fun s H C cl fp => (gt_one (g_cmpT (op_eqDD (room_u hr)) (toD (g_bin op_subD (g_name 10) (g_name 9))) g_int (nomark _)))) (fun s H C cl fp => (g_name 9))))))
    (gss_one (gs_setComp2 (i := 3) rfl sc_compare.nd rfl rfl rfl (gi_seq (g_name 6)) (own := [("span", 7), ("part", 8)]) (vs1 := [8]) (blkOk_by (by kernel_rfl)) (by decide) (by decide) (by decide) (fun s H C cl fp => (gg_name 7 sc_compare.nd)) (fun s H C cl fp => gt_yes) (fun s H C cl fp => (gi_seq (toD (g_call (cal_parts_of T) hr (by decide) (by rfl) passL (ga_cons (toE (g_name 0)) (ga_cons (toE (g_name 7)) ga_nil)) (arl_cons (arl_cons arl_nil)))))) (fun s H C cl fp => (gg_name 8 sc_compare.nd)) (fun s H C cl fp => gt_yes) (fun s H C cl fp => (g_name 8))))))))
    (gss_one (gs_ret (toE (g_tup (gs_cons (toD (g_callTy call_tupleD (by rfl) B.tuple PyProof.Rows.Boot.tuple (gs_cons (toD (g_callB (call_sort2D (room_u1 hr)) (by rfl) B.sorted PyProof.Rows.Boot.sorted (gs_cons (g_name 4) gs_nil))) gs_nil))) (gs_cons (g_name 5) gs_nil))))))))))
theorem cal_compare (T : Txt K mg) : Cal P w K mg base 14 "compare" 3 den_compare := calOf T.d_compare (ok_compare T)
theorem ok_least_proof (T : Txt K mg) (f : Addr) (fd : FuncData) (Fn : Fun K "least_proof" "least_proof" s_least_proof f fd) : FnOk P w K mg base (L2.CX P w) 14 f fd ["tree", "left", "right"] (spD K mg 3 den_least_proof) := ok_def (k := 13) Fn sc_least_proof fun cdv A outer s H E hr => have B := T.bt; (gss_cons (gs_asg (g_tup (gs_cons (toD (g_call (cal_frozen T 8) hr (by decide) (by rfl) (passes_call (takes_of rfl rfl rfl rfl) (fun _ _ _ _ h => h)) (ga_cons (toE (g_name 0)) ga_nil) (arl_cons arl_nil))) (gs_cons (toD (g_call (cal_frozen T 8) hr (by decide) (by rfl) (passes_call (takes_of rfl rfl rfl rfl) (fun _ _ _ _ h => h)) (ga_cons (toE (g_name 1)) ga_nil) (arl_cons arl_nil))) (gs_cons (toD (g_call (cal_frozen T 8) hr (by decide) (by rfl) (passes_call (takes_of rfl rfl rfl rfl) (fun _ _ _ _ h => h)) (ga_cons (toE (g_name 2)) ga_nil) (arl_cons arl_nil))) gs_nil)))) (gg_tup rfl (ggs_cons (gg_name 0 sc_least_proof.nd) (ggs_cons (gg_name 1 sc_least_proof.nd) (ggs_cons (gg_name 2 sc_least_proof.nd) ggs_nil)))))
    (gss_cons (gs_set 3 sc_least_proof.nd (toE g_int))
    (gss_cons (gs_set 4 sc_least_proof.nd (g_lst (gs_cons (g_tup (gs_cons g_int (gs_cons (toD (g_call (cal_points_of T) hr (by decide) (by rfl) (passes_call (takes_of rfl rfl rfl rfl) (fun _ _ _ _ h => h)) (ga_cons (toE (g_name 0)) ga_nil) (arl_cons arl_nil))) gs_nil))) gs_nil)))
    (gss_cons (gs_while 70 (passes_of rfl) (g_cmpT op_gtD (g_lenP 4 (by rfl) B.len) g_int (nomark _)) (gss_cons (gs_setComp (i := 5) rfl sc_least_proof.nd rfl rfl rfl (gi_seq (g_name 4)) (own := [("span", 7)]) (blkOk_by (by kernel_rfl)) (by decide) (fun s H C cl fp => (gg_name 7 sc_least_proof.nd)) (fun s H C cl fp => (gt_one (g_cmpT (op_neDD (room_u hr)) (toD (g_call (cal_pairs_in T) hr (by decide) (by rfl) passL (ga_cons (toE (g_name 1)) (ga_cons (toE (g_name 7)) ga_nil)) (arl_cons (arl_cons arl_nil)))) (toD (g_call (cal_pairs_in T) hr (by decide) (by rfl) passL (ga_cons (toE (g_name 2)) (ga_cons (toE (g_name 7)) ga_nil)) (arl_cons (arl_cons arl_nil)))) (nomark _)))) (fun s H C cl fp => (g_name 7)))
    (gss_cons (gs_setComp (i := 6) rfl sc_least_proof.nd rfl rfl rfl (gi_seq (g_name 5)) (own := [("span", 7)]) (blkOk_by (by kernel_rfl)) (by decide) (fun s H C cl fp => (gg_name 7 sc_least_proof.nd)) (fun s H C cl fp => (gt_one (g_cmpT (op_eqDD (room_u hr)) (toD (g_bin op_subD (g_peek 7 g_int) (g_peek 7 g_int))) g_int (nomark _)))) (fun s H C cl fp => (g_name 7)))
    (gss_cons (gs_set 3 sc_least_proof.nd (g_bin op_addD (toD (g_bin op_subD (toD (g_bin op_addD (g_name 3) (g_lenP 4 (by rfl) B.len))) (g_lenP 5 (by rfl) B.len))) (g_lenP 6 (by rfl) B.len)))
    (gss_one (gs_setComp2 (i := 4) rfl sc_least_proof.nd rfl rfl rfl (gi_seq (g_name 5)) (own := [("span", 7), ("part", 8)]) (vs1 := [8]) (blkOk_by (by kernel_rfl)) (by decide) (by decide) (by decide) (fun s H C cl fp => (gg_name 7 sc_least_proof.nd)) (fun s H C cl fp => gt_yes) (fun s H C cl fp => (gi_seq (toD (g_call (cal_parts_of T) hr (by decide) (by rfl) passL (ga_cons (toE (g_name 0)) (ga_cons (toE (g_name 7)) ga_nil)) (arl_cons (arl_cons arl_nil)))))) (fun s H C cl fp => (gg_name 8 sc_least_proof.nd)) (fun s H C cl fp => gt_yes) (fun s H C cl fp => (g_name 8))))))))
    (gss_one (gs_ret (g_move 3)))))))
theorem cal_least_proof (T : Txt K mg) : Cal P w K mg base 14 "least_proof" 3 den_least_proof := calOf T.d_least_proof (ok_least_proof T)
theorem ok_box (T : Txt K mg) (f : Addr) (fd : FuncData) (Fn : Fun K "_law_box" "_law_box" s_box f fd) : FnOk P w K mg base (L2.CX P w) 5 f fd ["script", "k"] (spD K mg 2 den_box) := ok_def (k := 4) Fn sc_box fun cdv A outer s H E hr => have B := T.bt; (gss_cons (gs_set 2 sc_box.nd (toE (g_if (g_cmpT op_ltD (g_name 1) (g_lenP 0 (by rfl) B.len) (nomark _)) (g_peek 0 (g_name 1)) g_int)))
    (gss_one (gs_ret (g_lst (gs_cons (toD (g_bin op_mulD (toD (g_callB call_absD (by rfl) B.abs PyProof.Rows.Boot.abs (gs_cons (g_name 2) gs_nil))) (toD (g_callTy call_intD (by rfl) B.int PyProof.Rows.Boot.int (gs_cons (toD (g_cmp op_geD (toD (g_callB call_absD (by rfl) B.abs PyProof.Rows.Boot.abs (gs_cons (g_name 2) gs_nil))) (toD (g_bin op_powD g_int g_int)) (nomark _))) gs_nil))))) (gs_cons (toD (g_bin op_addD (toD (g_bin op_addD (toD (g_bin op_modD (toD (g_callTy call_intD (by rfl) B.int PyProof.Rows.Boot.int (gs_cons (g_name 2) gs_nil))) g_int)) (toD (g_bin op_mulD g_int (g_name 1))))) g_int)) (gs_cons g_int gs_nil)))))))
theorem cal_box (T : Txt K mg) : Cal P w K mg base 5 "_law_box" 2 den_box := calOf T.d_box (ok_box T)
theorem ok_take (T : Txt K mg) (f : Addr) (fd : FuncData) (Fn : Fun K "_law_take" "_law_take" s_take f fd) : FnOk P w K mg base (L2.CX P w) 5 f fd ["tin", "below_so"] (spD K mg 2 den_take) := ok_def (k := 4) Fn sc_take fun cdv A outer s H E hr => have B := T.bt; (gss_cons (gs_if (g_cmpT op_gtD (g_peek 0 g_int) g_int (nomark _)) (gss_cons (gs_set 5 sc_take.nd (g_bin op_modD (toD (g_callTy call_intD (by rfl) B.int PyProof.Rows.Boot.int (gs_cons (g_peek 0 g_int) gs_nil))) (g_name 1)))
    (gss_cons (gs_setIx 0 (toD (g_bin op_fdivD (g_peek 0 g_int) (g_name 1))) g_int)
    (gss_one (gs_ret (g_move 5))))) gss_nil)
    (gss_cons (gs_setIx 0 (toD (g_bin op_addD (g_peek 0 g_int) g_int)) g_int)
    (gss_cons (gs_set 2 sc_take.nd (g_bin op_modD (toD (g_callTy call_intD (by rfl) B.int PyProof.Rows.Boot.int (gs_cons (toD (g_bin op_mulD (toD (g_bin op_addD (g_peek 0 g_int) (toD (g_bin op_mulD g_int (g_peek 0 g_int))))) (toD (g_bin op_addD g_int (g_peek 0 g_int))))) gs_nil))) g_int))
    (gss_cons (gs_set 3 sc_take.nd (g_bin op_addD (toD (g_bin op_modD (toD (g_callTy call_intD (by rfl) B.int PyProof.Rows.Boot.int (gs_cons (g_name 2) gs_nil))) g_int)) g_int))
    (gss_cons (gs_set 4 sc_take.nd (g_bin op_modD (toD (g_callTy call_intD (by rfl) B.int PyProof.Rows.Boot.int (gs_cons (toD (g_bin op_mulD (toD (g_bin op_addD (toD (g_bin op_addD (g_name 2) (g_peek 0 g_int))) (toD (g_bin op_fdivD (g_peek 0 g_int) g_int)))) (g_name 3))) gs_nil))) g_int))
    (gss_one (gs_ret (g_bin op_modD (toD (g_callTy call_intD (by rfl) B.int PyProof.Rows.Boot.int (gs_cons (toD (g_bin op_fdivD (toD (g_bin op_modD (toD (g_callTy call_intD (by rfl) B.int PyProof.Rows.Boot.int (gs_cons (toD (g_bin op_addD (toD (g_bin op_mulD (g_name 4) g_int)) (g_name 2))) gs_nil))) g_int)) g_int)) gs_nil))) (g_name 1)))))))))
theorem cal_take (T : Txt K mg) : Cal P w K mg base 5 "_law_take" 2 den_take := calOf T.d_take (ok_take T)
theorem ok_law_cells (T : Txt K mg) (f : Addr) (fd : FuncData) (Fn : Fun K "_law_cells" "_law_cells" s_law_cells f fd) : FnOk P w K mg base (L2.CX P w) 5 f fd ["script", "most_so"] (spD K mg 2 den_law_cells) := ok_def (k := 4) Fn sc_law_cells fun cdv A outer s H E hr => have B := T.bt; (gss_cons (gs_set 2 sc_law_cells.nd (g_or (g_callTy call_listDD (by rfl) B.list PyProof.Rows.Boot.list (gs_cons (toD (g_slP 0 go_none (go_some (g_name 1)))) gs_nil)) (g_oneE (g_lst (gs_cons g_int gs_nil)))))
    (gss_cons (gs_for (passes_of rfl) rfl (gi_enumB (by rfl) B.enumerate (gs_cons (toD (g_slP 0 (go_some (g_name 1)) (go_some g_int))) gs_nil)) (gg_tup rfl (ggs_cons (gg_name 3 sc_law_cells.nd) (ggs_cons (gg_name 4 sc_law_cells.nd) ggs_nil))) (gss_cons (gs_set 5 sc_law_cells.nd (g_bin op_modD (toD (g_callTy call_intD (by rfl) B.int PyProof.Rows.Boot.int (gs_cons (g_name 3) gs_nil))) (g_name 1)))
    (gss_one (gs_setIx 2 (toD (g_bin op_addD (g_peek 2 (g_name 5)) (toD (g_bin op_mulD (g_name 4) (toD (g_bin op_addD (g_name 3) g_int)))))) (g_name 5)))))
    (gss_one (gs_ret (g_move 2)))))
theorem cal_law_cells (T : Txt K mg) : Cal P w K mg base 5 "_law_cells" 2 den_law_cells := calOf T.d_law_cells (ok_law_cells T)
theorem ok_of (T : Txt K mg) (f : Addr) (fd : FuncData) (Fn : Fun K "_law_of" "_law_of" s_of f fd) : FnOk P w K mg base (L2.CX P w) 6 f fd ["tin", "goods_so"] (spD K mg 2 den_of) := ok_def (k := 5) Fn sc_of fun cdv A outer s H E hr => have B := T.bt; (gss_one (gs_ret (toE (g_peek 1 (toD (g_call (cal_take T) hr (by decide) (by rfl) (passes_call (takes_of rfl rfl rfl rfl) (fun _ _ _ _ h => h)) (ga_lend 0 (ga_cons (toE (g_lenP 1 (by rfl) B.len)) ga_nil)) (arl_lend (arl_cons arl_nil))))))))
theorem cal_of (T : Txt K mg) : Cal P w K mg base 6 "_law_of" 2 den_of := calOf T.d_of (ok_of T)
theorem ok_pick (T : Txt K mg) (f : Addr) (fd : FuncData) (Fn : Fun K "_law_pick" "_law_pick" s_pick f fd) : FnOk P w K mg base (L2.CX P w) 6 f fd ["tin", "goods_so", "count_so"] (spD K mg 3 den_pick) := ok_def (k := 5) Fn sc_pick fun cdv A outer s H E hr => have B := T.bt; (gss_cons (gs_parA 4 5 rfl sc_pick.nd rfl rfl (by decide) (by kernel_rfl) (by kernel_rfl) (ga_cons (g_callTy call_listDD (by rfl) B.list PyProof.Rows.Boot.list (gs_cons (g_name 1) gs_nil)) (ga_cons (g_lst gs_nil) ga_nil)) (by kernel_rfl))
    (gss_cons (gs_for (passes_of rfl) rfl (gi_range1 (by rfl) B.range (gs_cons (toD (g_callB (call_minD rfl) (by rfl) B.min PyProof.Rows.Boot.min (gs_cons (toD (g_callTy call_intD (by rfl) B.int PyProof.Rows.Boot.int (gs_cons (g_name 2) gs_nil))) (gs_cons (g_lenP 4 (by rfl) B.len) gs_nil)))) gs_nil)) (gg_name 3 sc_pick.nd) (gss_one (ps_wk (ps_expr (pe_bm PySem.F.plainAttrs_list PySem.F.slot_list_append PySem.F.type_list_append mt_append (pv 5) (pa_cons (pe_wk (pe_bm PySem.F.plainAttrs_list PySem.F.slot_list_pop PySem.F.type_list_pop mt_popAt (pv 4) (pa_cons (toD (g_call (cal_take T) hr (by decide) (by rfl) (passes_call (takes_of rfl rfl rfl rfl) (fun _ _ _ _ h => h)) (ga_lend 0 (ga_cons (toE (g_lenP 4 (by rfl) B.len)) ga_nil)) (arl_lend (arl_cons arl_nil)))) pa_nil)) popAt_wk) pa_nil))) app_wk)))
    (gss_one (gs_ret (g_move 5)))))
theorem cal_pick (T : Txt K mg) : Cal P w K mg base 6 "_law_pick" 3 den_pick := calOf T.d_pick (ok_pick T)
theorem cal_lists (T : Txt K mg) : ∀ n : Nat, Cal P w K mg base (5 + n) "_law_lists" 1 (den_lists n)
  | 0 => calOf T.d_lists fun f fd Fn => ok_none
  | n + 1 => calOf T.d_lists fun f fd Fn => ok_def (k := 5 + n) Fn sc_lists fun cdv A outer s H E hr => have cs := cal_lists T n; have B := T.bt; (gss_one (gs_ret (toE (g_if (g_tru (g_isi2 .lst .tup (by rfl) B.isinstance (by rfl) B.list PyProof.Rows.Boot.list (by rfl) B.tuple PyProof.Rows.Boot.tuple (g_name 0))) (toD (g_comp rfl sc_lists.nd (gi_seq (g_name 0)) (own := [("bit", 1)]) (blkOk_by (by kernel_rfl)) (by decide) (fun s H C cl fp => (gg_name 1 sc_lists.nd)) (fun s H C cl fp => gt_yes) (fun s H C cl fp => (toD (g_call cs hr (by omega) (by rfl) passL (ga_cons (toE (g_name 1)) ga_nil) (arl_cons arl_nil)))))) (g_name 0)))))
theorem cal_same (T : Txt K mg) : ∀ n : Nat, Cal P w K mg base (5 + n) "_law_same" 2 (den_same n)
  | 0 => calOf T.d_same fun f fd Fn => ok_none
  | n + 1 => calOf T.d_same fun f fd Fn => ok_def (k := 5 + n) Fn sc_same fun cdv A outer s H E hr => have cs := cal_same T n; have B := T.bt; (gss_cons (gs_if (g_tru (g_isi2 .lst .tup (by rfl) B.isinstance (by rfl) B.list PyProof.Rows.Boot.list (by rfl) B.tuple PyProof.Rows.Boot.tuple (g_name 1))) (gss_cons (gs_if (g_wT (g_orT (g_cmpT (op_neDD (room_u hr)) (g_isi .lst (by rfl) B.isinstance (by rfl) B.list PyProof.Rows.Boot.list (g_name 0)) (g_isi .lst (by rfl) B.isinstance (by rfl) B.list PyProof.Rows.Boot.list (g_name 1)) (nomark _)) (g_or1 (g_cmpT (op_neDD (room_u hr)) (g_isi .tup (by rfl) B.isinstance (by rfl) B.tuple PyProof.Rows.Boot.tuple (g_name 0)) (g_isi .tup (by rfl) B.isinstance (by rfl) B.tuple PyProof.Rows.Boot.tuple (g_name 1)) (nomark _))))) (gss_one (gs_ret (toE g_bl))) gss_nil)
    (gss_one (gs_ret (toE (g_and (toD (g_cmp (op_eqDD (room_u hr)) (g_lenP 0 (by rfl) B.len) (g_lenP 1 (by rfl) B.len) (nomark _))) (g_one (toD (g_callB (call_allD rfl) (by rfl) B.all PyProof.Rows.Boot.all (gs_cons (toD (g_comp rfl sc_same.nd (gi_zip (by rfl) B.zip (gs_cons (g_name 0) (gs_cons (g_name 1) gs_nil))) (own := [("mine", 2), ("its", 3)]) (blkOk_by (by kernel_rfl)) (by decide) (fun s H C cl fp => (gg_tup rfl (ggs_cons (gg_name 2 sc_same.nd) (ggs_cons (gg_name 3 sc_same.nd) ggs_nil)))) (fun s H C cl fp => gt_yes) (fun s H C cl fp => (toD (g_call cs hr (by omega) (by rfl) passL (ga_cons (toE (g_name 2)) (ga_cons (toE (g_name 3)) ga_nil)) (arl_cons (arl_cons arl_nil))))))) gs_nil))))))))) gss_nil)
    (gss_cons (gs_if (g_wT (g_orT (g_cmpT op_isND (g_name 1) g_non (nomark _)) (g_or1 (g_tru (g_isi2 .bl .str (by rfl) B.isinstance (by rfl) B.bool PyProof.Rows.Boot.bool (by rfl) B.str PyProof.Rows.Boot.str (g_name 1)))))) (gss_one (gs_ret (toE (g_and (toD (g_cmp (op_eqDD (room_u hr)) (g_name 0) (g_name 1) (nomark _))) (g_and (toD (g_cmp (op_eqDD (room_u hr)) (g_isi .bl (by rfl) B.isinstance (by rfl) B.bool PyProof.Rows.Boot.bool (g_name 0)) (g_isi .bl (by rfl) B.isinstance (by rfl) B.bool PyProof.Rows.Boot.bool (g_name 1)) (nomark _))) (g_one (toD (g_cmp (op_eqDD (room_u hr)) (toD (g_cmp op_isND (g_name 0) g_non (nomark _))) (toD (g_cmp op_isND (g_name 1) g_non (nomark _))) (nomark _))))))))) gss_nil)
    (gss_one (gs_ret (toE (g_and (g_isi .int (by rfl) B.isinstance (by rfl) B.int PyProof.Rows.Boot.int (g_name 0)) (g_and (g_not (g_isi .bl (by rfl) B.isinstance (by rfl) B.bool PyProof.Rows.Boot.bool (g_name 0))) (g_one (toD (g_cmp (op_eqDD (room_u hr)) (g_name 0) (g_name 1) (nomark _)))))))))))
theorem ok_law_power (T : Txt K mg) (f : Addr) (fd : FuncData) (Fn : Fun K "_law_power" "_law_power" s_law_power f fd) : FnOk P w K mg base (L2.CX P w) 5 f fd ["foot_so", "count_so"] (spD K mg 2 den_law_power) := ok_def (k := 4) Fn sc_law_power fun cdv A outer s H E hr => have B := T.bt; (gss_cons (gs_set 2 sc_law_power.nd (toE g_int))
    (gss_cons (gs_for (passes_of rfl) rfl (gi_range1 (by rfl) B.range (gs_cons (g_name 1) gs_nil)) (gg_name 3 sc_law_power.nd) (gss_one (gs_set 2 sc_law_power.nd (g_bin op_mulD (g_name 2) (g_name 0)))))
    (gss_one (gs_ret (g_move 2)))))
theorem cal_law_power (T : Txt K mg) : Cal P w K mg base 5 "_law_power" 2 den_law_power := calOf T.d_law_power (ok_law_power T)
theorem ok_total (T : Txt K mg) (f : Addr) (fd : FuncData) (Fn : Fun K "_law_total" "_law_total" s_total f fd) : FnOk P w K mg base (L2.CX P w) 6 f fd ["grove_so", "page_so", "from_so", "to_so"] (spD K mg 4 den_total) := ok_def (k := 5) Fn sc_total fun cdv A outer s H E hr => have B := T.bt; (gss_cons (gs_setComp (i := 4) rfl sc_total.nd rfl rfl rfl (gi_seq (g_name 1)) (own := [("own", 7)]) (blkOk_by (by kernel_rfl)) (by decide) (fun s H C cl fp => (gg_name 7 sc_total.nd)) (fun s H C cl fp => (gt_one (g_chainT op_leD op_ltD ci_bool (g_name 2) (g_peek 7 g_int) (g_name 3)))) (fun s H C cl fp => (g_name 7)))
    (gss_cons (gs_set 5 sc_total.nd (toE g_int))
    (gss_cons (gs_for (passes_of rfl) rfl (gi_enumB (by rfl) B.enumerate (gs_cons (g_name 4) gs_nil)) (gg_tup rfl (ggs_cons (gg_name 6 sc_total.nd) (ggs_cons (gg_name 7 sc_total.nd) ggs_nil))) (gss_one (gs_set 5 sc_total.nd (g_bin op_addD (g_name 5) (toD (g_bin op_mulD (toD (g_bin op_addD (toD (g_bin op_mulD (g_peek 7 g_int) g_int)) (g_peek 7 g_int))) (toD (g_call (cal_law_power T) hr (by decide) (by rfl) (passes_call (takes_of rfl rfl rfl rfl) (fun _ _ _ _ h => h)) (ga_cons (toE (g_peek 0 g_int)) (ga_cons (toE (toD (g_bin op_subD (toD (g_bin op_subD (g_lenP 4 (by rfl) B.len) g_int)) (g_name 6)))) ga_nil)) (arl_cons (arl_cons arl_nil))))))))))
    (gss_one (gs_ret (toE (g_tup (gs_cons (g_lenP 4 (by rfl) B.len) (gs_cons (toD (g_bin op_modD (toD (g_callTy call_intD (by rfl) B.int PyProof.Rows.Boot.int (gs_cons (g_name 5) gs_nil))) (g_peek 0 g_int))) gs_nil)))))))))
theorem cal_total (T : Txt K mg) : Cal P w K mg base 6 "_law_total" 4 den_total := calOf T.d_total (ok_total T)
theorem ok_width (T : Txt K mg) (f : Addr) (fd : FuncData) (Fn : Fun K "_law_width" "_law_width" s_width f fd) : FnOk P w K mg base (L2.CX P w) 6 f fd ["grove_so"] (spD K mg 1 den_width) := ok_def (k := 5) Fn sc_width fun cdv A outer s H E hr => have B := T.bt; (gss_one (gs_ret (g_call (cal_law_power T) hr (by decide) (by rfl) (passes_call (takes_of rfl rfl rfl rfl) (fun _ _ _ _ h => h)) (ga_cons (toE (g_peek 0 g_int)) (ga_cons (toE (g_peek 0 g_int)) ga_nil)) (arl_cons (arl_cons arl_nil)))))
theorem cal_width (T : Txt K mg) : Cal P w K mg base 6 "_law_width" 1 den_width := calOf T.d_width (ok_width T)
theorem ok_grove (T : Txt K mg) (f : Addr) (fd : FuncData) (Fn : Fun K "_law_grove" "_law_grove" s_grove f fd) : FnOk P w K mg base (L2.CX P w) 7 f fd ["tin"] (spD K mg 1 den_grove) := ok_def (k := 6) Fn sc_grove fun cdv A outer s H E hr => have B := T.bt; (gss_cons (gs_asg (toD (g_call (cal_of T) hr (by decide) (by rfl) (passes_call (takes_of rfl rfl rfl rfl) (fun _ _ _ _ h => h)) (ga_lend 0 (ga_cons (toE (toD (g_lst (gs_cons (g_tup (gs_cons g_int (gs_cons g_int gs_nil))) (gs_cons (g_tup (gs_cons g_int (gs_cons g_int gs_nil))) (gs_cons (g_tup (gs_cons g_int (gs_cons g_int gs_nil))) (gs_cons (g_tup (gs_cons g_int (gs_cons g_int gs_nil))) (gs_cons (g_tup (gs_cons g_int (gs_cons g_int gs_nil))) (gs_cons (g_tup (gs_cons g_int (gs_cons g_int gs_nil))) (gs_cons (g_tup (gs_cons g_int (gs_cons g_int gs_nil))) (gs_cons (g_tup (gs_cons g_int (gs_cons g_int gs_nil))) (gs_cons (g_tup (gs_cons g_int (gs_cons g_int gs_nil))) (gs_cons (g_tup (gs_cons g_int (gs_cons g_int gs_nil))) (gs_cons (g_tup (gs_cons g_int (gs_cons g_int gs_nil))) (gs_cons (g_tup (gs_cons g_int (gs_cons g_int gs_nil))) (gs_cons (g_tup (gs_cons g_int (gs_cons g_int gs_nil))) (gs_cons (g_tup (gs_cons g_int (gs_cons g_int gs_nil))) (gs_cons (g_tup (gs_cons g_int (gs_cons g_int gs_nil))) gs_nil)))))))))))))))))) ga_nil)) (arl_lend (arl_cons arl_nil)))) (gg_tup rfl (ggs_cons (gg_name 2 sc_grove.nd) (ggs_cons (gg_name 3 sc_grove.nd) ggs_nil))))
    (gss_cons (gs_set 1 sc_grove.nd (g_call (cal_of T) hr (by decide) (by rfl) (passes_call (takes_of rfl rfl rfl rfl) (fun _ _ _ _ h => h)) (ga_lend 0 (ga_cons (toE (toD (g_lst (gs_cons g_int (gs_cons g_int (gs_cons g_int (gs_cons g_int (gs_cons g_int (gs_cons g_int (gs_cons g_int (gs_cons (toD (g_bin op_powD g_int g_int)) gs_nil))))))))))) ga_nil)) (arl_lend (arl_cons arl_nil))))
    (gss_one (gs_ret (toE (g_tup (gs_cons (g_name 2) (gs_cons (g_name 3) (gs_cons (g_name 1) (gs_cons (toD (g_bin op_addD g_int (toD (g_call (cal_take T) hr (by decide) (by rfl) (passes_call (takes_of rfl rfl rfl rfl) (fun _ _ _ _ h => h)) (ga_lend 0 (ga_cons (toE (toD (g_callB (call_minD rfl) (by rfl) B.min PyProof.Rows.Boot.min (gs_cons (toD (g_bin op_subD (g_name 1) g_int)) (gs_cons g_int gs_nil))))) ga_nil)) (arl_lend (arl_cons arl_nil)))))) gs_nil))))))))))
theorem cal_grove (T : Txt K mg) : Cal P w K mg base 7 "_law_grove" 1 den_grove := calOf T.d_grove (ok_grove T)
theorem ok_leaves (T : Txt K mg) (f : Addr) (fd : FuncData) (Fn : Fun K "_law_leaves" "_law_leaves" s_leaves f fd) : FnOk P w K mg base (L2.CX P w) 7 f fd ["tin", "grove_so"] (spD K mg 2 den_leaves) := ok_def (k := 6) Fn sc_leaves fun cdv A outer s H E hr => have B := T.bt; (gss_cons (gs_set 2 sc_leaves.nd (g_call (cal_width T) hr (by decide) (by rfl) (passes_call (takes_of rfl rfl rfl rfl) (fun _ _ _ _ h => h)) (ga_cons (toE (g_name 1)) ga_nil) (arl_cons arl_nil)))
    (gss_cons (gs_set 3 sc_leaves.nd (g_callB (call_sort2D (room_u1 hr)) (by rfl) B.sorted PyProof.Rows.Boot.sorted (gs_cons (toD (g_call (cal_pick T) hr (by decide) (by rfl) (passes_call (takes_of rfl rfl rfl rfl) (fun _ _ _ _ h => h)) (ga_lend 0 (ga_cons (toE (toD (g_lstRg1 rfl (by rfl) B.list (by rfl) B.range (g_name 2)))) (ga_cons (toE (toD (g_call (cal_take T) hr (by decide) (by rfl) (passes_call (takes_of rfl rfl rfl rfl) (fun _ _ _ _ h => h)) (ga_lend 0 (ga_cons (toE (toD (g_bin op_addD (toD (g_callB (call_minD rfl) (by rfl) B.min PyProof.Rows.Boot.min (gs_cons (g_name 2) (gs_cons g_int gs_nil)))) g_int))) ga_nil)) (arl_lend (arl_cons arl_nil))))) ga_nil))) (arl_lend (arl_cons (arl_cons arl_nil))))) gs_nil)))
    (gss_one (gs_ret (g_callTy call_tupleD (by rfl) B.tuple PyProof.Rows.Boot.tuple (gs_cons (toD (g_comp rfl sc_leaves.nd (gi_seq (g_name 3)) (own := [("spot_so", 4)]) (blkOk_by (by kernel_rfl)) (by decide) (fun s H C cl fp => (gg_name 4 sc_leaves.nd)) (fun s H C cl fp => gt_yes) (fun s H C cl fp => (g_tup (gs_cons (g_name 4) (gs_cons (toD (g_bin op_addD g_int (toD (g_call (cal_take T) hr (by decide) (by rfl) passL (ga_lend 0 (ga_cons (toE (toD (g_call (cal_of T) hr (by decide) (by rfl) passL (ga_lend 0 (ga_cons (toE (toD (g_lst (gs_cons g_int (gs_cons g_int (gs_cons g_int gs_nil)))))) ga_nil)) (arl_lend (arl_cons arl_nil))))) ga_nil)) (arl_lend (arl_cons arl_nil)))))) gs_nil)))))) gs_nil))))))
theorem cal_leaves (T : Txt K mg) : Cal P w K mg base 7 "_law_leaves" 2 den_leaves := calOf T.d_leaves (ok_leaves T)
theorem ok_turned (T : Txt K mg) (f : Addr) (fd : FuncData) (Fn : Fun K "_law_turned" "_law_turned" s_turned f fd) : FnOk P w K mg base (L2.CX P w) 8 f fd ["tin", "grove_so", "page_so"] (spD K mg 3 den_turned) := ok_def (k := 7) Fn sc_turned fun cdv A outer s H E hr => have B := T.bt; (gss_cons (gs_set 3 sc_turned.nd g_newD)
    (gss_cons (gs_for (passes_of rfl) rfl (gi_seq (g_name 2)) (gg_tup rfl (ggs_cons (gg_name 4 sc_turned.nd) (ggs_cons (gg_name 5 sc_turned.nd) ggs_nil))) (gss_cons (gs_set 6 sc_turned.nd (g_call (cal_take T) hr (by decide) (by rfl) (passes_call (takes_of rfl rfl rfl rfl) (fun _ _ _ _ h => h)) (ga_lend 0 (ga_cons (toE g_int) ga_nil)) (arl_lend (arl_cons arl_nil))))
    (gss_one (gs_if (g_cmpT op_gtD (g_name 6) g_int (nomark _)) (gss_one (gs_putD 3 (room_u1 hr) (toD (g_bin op_addD (g_name 5) (toD (g_bin op_mulD (toD (g_callTy call_intD (by rfl) B.int PyProof.Rows.Boot.int (gs_cons (toD (g_cmp op_ltD (g_name 6) g_int (nomark _))) gs_nil))) (toD (g_bin op_addD g_int (toD (g_call (cal_take T) hr (by decide) (by rfl) (passes_call (takes_of rfl rfl rfl rfl) (fun _ _ _ _ h => h)) (ga_lend 0 (ga_cons (toE g_int) ga_nil)) (arl_lend (arl_cons arl_nil)))))))))) (g_name 4))) gss_nil))))
    (gss_cons (gs_for (passes_of rfl) rfl (gi_seq (toD (g_slice (toD (g_call (cal_leaves T) hr (by decide) (by rfl) (passes_call (takes_of rfl rfl rfl rfl) (fun _ _ _ _ h => h)) (ga_lend 0 (ga_cons (toE (g_name 1)) ga_nil)) (arl_lend (arl_cons arl_nil)))) go_none (go_some g_int)))) (gg_tup rfl (ggs_cons (gg_name 4 sc_turned.nd) (ggs_cons (gg_name 5 sc_turned.nd) ggs_nil))) (gss_one (gs_if (g_cmpT (op_eqDD (room_u hr)) (toD (g_call (cal_take T) hr (by decide) (by rfl) (passes_call (takes_of rfl rfl rfl rfl) (fun _ _ _ _ h => h)) (ga_lend 0 (ga_cons (toE g_int) ga_nil)) (arl_lend (arl_cons arl_nil)))) g_int (nomark _)) (gss_one (gs_putD 3 (room_u1 hr) (g_name 5) (g_name 4))) gss_nil)))
    (gss_one (gs_ret (g_callTy call_tupleD (by rfl) B.tuple PyProof.Rows.Boot.tuple (gs_cons (toD (g_comp rfl sc_turned.nd (gi_seq (toD (g_callB (call_sort2D (room_u1 hr)) (by rfl) B.sorted PyProof.Rows.Boot.sorted (gs_cons (toD (g_callTy (call_listDX rfl) (by rfl) B.list PyProof.Rows.Boot.list (gs_cons (g_name 3) gs_nil))) gs_nil)))) (own := [("spot_so", 4)]) (blkOk_by (by kernel_rfl)) (by decide) (fun s H C cl fp => (gg_name 4 sc_turned.nd)) (fun s H C cl fp => gt_yes) (fun s H C cl fp => (g_tup (gs_cons (g_name 4) (gs_cons (g_dk 3 (room_u1 hr) (g_name 4)) gs_nil)))))) gs_nil)))))))
theorem cal_turned (T : Txt K mg) : Cal P w K mg base 8 "_law_turned" 3 den_turned := calOf T.d_turned (ok_turned T)
theorem ok_table (T : Txt K mg) (f : Addr) (fd : FuncData) (Fn : Fun K "_law_table" "_law_table" s_table f fd) : FnOk P w K mg base (L2.CX P w) 7 f fd ["grove_so", "own_so", "far_so"] (spD K mg 3 den_table) := ok_def (k := 6) Fn sc_table fun cdv A outer s H E hr => have B := T.bt; (gss_cons (gs_parA 4 5 rfl sc_table.nd rfl rfl (by decide) (by kernel_rfl) (by kernel_rfl) (ga_cons (g_lst gs_nil) (ga_cons (g_call (cal_width T) hr (by decide) (by rfl) (passes_call (takes_of rfl rfl rfl rfl) (fun _ _ _ _ h => h)) (ga_cons (toE (g_name 0)) ga_nil) (arl_cons arl_nil)) ga_nil)) (by kernel_rfl))
    (gss_cons (gs_for (passes_of rfl) rfl (gi_range1 (by rfl) B.range (gs_cons (toD (g_bin op_addD (g_peek 0 g_int) g_int)) gs_nil)) (gg_name 3 sc_table.nd) (gss_cons (gs_parA 8 9 rfl sc_table.nd rfl rfl (by decide) (by kernel_rfl) (by kernel_rfl) (ga_cons (g_call (cal_law_power T) hr (by decide) (by rfl) (passes_call (takes_of rfl rfl rfl rfl) (fun _ _ _ _ h => h)) (ga_cons (toE (g_peek 0 g_int)) (ga_cons (toE (g_name 3)) ga_nil)) (arl_cons (arl_cons arl_nil))) (ga_cons (g_lst gs_nil) ga_nil)) (by kernel_rfl))
    (gss_cons (gs_set 6 sc_table.nd (g_bin op_fdivD (g_name 5) (g_name 8)))
    (gss_cons (gs_for (passes_of rfl) rfl (gi_range1 (by rfl) B.range (gs_cons (g_name 8) gs_nil)) (gg_name 7 sc_table.nd) (gss_cons (gs_asg (g_tup (gs_cons (toD (g_bin op_mulD (g_name 7) (g_name 6))) (gs_cons (toD (g_bin op_addD (toD (g_bin op_mulD (g_name 7) (g_name 6))) (g_name 6))) gs_nil))) (gg_tup rfl (ggs_cons (gg_name 13 sc_table.nd) (ggs_cons (gg_name 14 sc_table.nd) ggs_nil))))
    (gss_cons (gs_setComp (i := 10) rfl sc_table.nd rfl rfl rfl (gi_seq (g_name 1)) (own := [("its", 15)]) (blkOk_by (by kernel_rfl)) (by decide) (fun s H C cl fp => (gg_name 15 sc_table.nd)) (fun s H C cl fp => (gt_one (g_chainT op_leD op_ltD ci_bool (g_name 13) (g_peek 15 g_int) (g_name 14)))) (fun s H C cl fp => (g_name 15)))
    (gss_cons (gs_setComp (i := 11) rfl sc_table.nd rfl rfl rfl (gi_seq (g_name 2)) (own := [("its", 15)]) (blkOk_by (by kernel_rfl)) (by decide) (fun s H C cl fp => (gg_name 15 sc_table.nd)) (fun s H C cl fp => (gt_one (g_chainT op_leD op_ltD ci_bool (g_name 13) (g_peek 15 g_int) (g_name 14)))) (fun s H C cl fp => (g_name 15)))
    (gss_cons (gs_set 12 sc_table.nd (g_cmp (op_neDD (room_u hr)) (toD (g_call (cal_total T) hr (by decide) (by rfl) (passes_call (takes_of rfl rfl rfl rfl) (fun _ _ _ _ h => h)) (ga_cons (toE (g_name 0)) (ga_cons (toE (g_name 1)) (ga_cons (toE (g_name 13)) (ga_cons (toE (g_name 14)) ga_nil)))) (arl_cons (arl_cons (arl_cons (arl_cons arl_nil)))))) (toD (g_call (cal_total T) hr (by decide) (by rfl) (passes_call (takes_of rfl rfl rfl rfl) (fun _ _ _ _ h => h)) (ga_cons (toE (g_name 0)) (ga_cons (toE (g_name 2)) (ga_cons (toE (g_name 13)) (ga_cons (toE (g_name 14)) ga_nil)))) (arl_cons (arl_cons (arl_cons (arl_cons arl_nil)))))) (nomark _)))
    (gss_one (ps_wk (ps_expr (pe_bm PySem.F.plainAttrs_list PySem.F.slot_list_append PySem.F.type_list_append mt_append (pv 9) (pa_cons (g_tup (gs_cons (g_name 12) (gs_cons (toD (g_cmp (op_neDD (room_u hr)) (g_name 10) (g_name 11) (nomark _))) gs_nil))) pa_nil))) app_wk)))))))
    (gss_one (ps_wk (ps_expr (pe_bm PySem.F.plainAttrs_list PySem.F.slot_list_append PySem.F.type_list_append mt_append (pv 4) (pa_cons (g_name 9) pa_nil))) app_wk))))))
    (gss_one (gs_ret (g_move 4)))))
theorem cal_table (T : Txt K mg) : Cal P w K mg base 7 "_law_table" 3 den_table := calOf T.d_table (ok_table T)
theorem ok_around (T : Txt K mg) (f : Addr) (fd : FuncData) (Fn : Fun K "_law_around" "_law_around" s_around f fd) : FnOk P w K mg base (L2.CX P w) 6 f fd ["grove_so", "k", "j", "goods_so"] (spD K mg 4 den_around) := ok_def (k := 5) Fn sc_around fun cdv A outer s H E hr => have B := T.bt; (gss_one (gs_ret (g_comp rfl sc_around.nd (gi_range1 (by rfl) B.range (gs_cons (g_name 1) gs_nil)) (own := [("n", 4)]) (blkOk_by (by kernel_rfl)) (by decide) (fun s H C cl fp => (gg_name 4 sc_around.nd)) (fun s H C cl fp => gt_yes) (fun s H C cl fp => (toD (g_ix ix_D (g_peek 3 (g_name 4)) (toD (g_bin op_fdivD (g_name 2) (toD (g_call (cal_law_power T) hr (by decide) (by rfl) passL (ga_cons (toE (g_peek 0 g_int)) (ga_cons (toE (toD (g_bin op_subD (g_name 1) (g_name 4)))) ga_nil)) (arl_cons (arl_cons arl_nil))))))))))))
theorem cal_around (T : Txt K mg) : Cal P w K mg base 6 "_law_around" 4 den_around := calOf T.d_around (ok_around T)
theorem ok_due (T : Txt K mg) (f : Addr) (fd : FuncData) (Fn : Fun K "_law_due" "_law_due" s_due f fd) : FnOk P w K mg base (L2.CX P w) 7 f fd ["grove_so", "goods_so"] (spD K mg 2 den_due) := ok_def (k := 6) Fn sc_due fun cdv A outer s H E hr => have B := T.bt; (gss_cons (gs_parX4 2 3 4 5 rfl sc_due.nd rfl rfl rfl rfl (by first | exact Or.inl rfl | exact Or.inr rfl) (by first | exact Or.inl rfl | exact Or.inr rfl) (by first | exact Or.inl rfl | exact Or.inr rfl) (by first | exact Or.inl rfl | exact Or.inr rfl) (by first | exact Or.inl rfl | exact Or.inr rfl) (by first | exact Or.inl rfl | exact Or.inr rfl) (by first | exact Or.inl rfl | exact Or.inr rfl) (by first | exact Or.inl rfl | exact Or.inr rfl) (ga_cons (g_lst gs_nil) (ga_cons (toE g_int) (ga_cons (toE g_int) (ga_cons (toE g_bl) ga_nil)))))
    (gss_cons (gs_for (passes_of rfl) rfl (gi_enumB (by rfl) B.enumerate (gs_cons (g_name 1) gs_nil)) (gg_tup rfl (ggs_cons (gg_name 6 sc_due.nd) (ggs_cons (gg_name 7 sc_due.nd) ggs_nil))) (gss_one (gs_for (passes_of rfl) rfl (gi_enumB (by rfl) B.enumerate (gs_cons (g_name 7) gs_nil)) (gg_tup rfl (ggs_cons (gg_name 8 sc_due.nd) (ggs_cons (gg_name 9 sc_due.nd) ggs_nil))) (gss_cons (gs_set 10 sc_due.nd (g_call (cal_around T) hr (by decide) (by rfl) (passes_call (takes_of rfl rfl rfl rfl) (fun _ _ _ _ h => h)) (ga_cons (toE (g_name 0)) (ga_cons (toE (g_name 6)) (ga_cons (toE (g_name 8)) (ga_cons (toE (g_name 1)) ga_nil)))) (arl_cons (arl_cons (arl_cons (arl_cons arl_nil))))))
    (gss_cons (gs_if (g_tru (toD (g_callB (call_allD rfl) (by rfl) B.all PyProof.Rows.Boot.all (gs_cons (toD (g_comp rfl sc_due.nd (gi_seq (g_name 10)) (own := [("its", 11)]) (blkOk_by (by kernel_rfl)) (by decide) (fun s H C cl fp => (gg_name 11 sc_due.nd)) (fun s H C cl fp => gt_yes) (fun s H C cl fp => (g_peek 11 g_int)))) gs_nil)))) (gss_cons (gs_set 3 sc_due.nd (g_bin op_addD (g_name 3) g_int))
    (gss_cons (gs_set 5 sc_due.nd (g_or (g_move 5) (g_oneE (toE (g_and (g_peek 9 g_int) (g_one (g_not (g_peek 9 g_int))))))))
    (gss_one (gs_if (g_wT (g_andT (g_cmpT (op_eqDD (room_u hr)) (g_name 6) (g_peek 0 g_int) (nomark _)) (g_and1 (g_tru (g_peek 9 g_int))))) (gss_one (ps_wk (ps_expr (pe_bm PySem.F.plainAttrs_list PySem.F.slot_list_append PySem.F.type_list_append mt_append (pv 2) (pa_cons (g_name 8) pa_nil))) app_wk)) gss_nil)))) gss_nil)
    (gss_one (gs_if (g_wT (g_orT (g_wT (g_andT (g_cmpT (op_eqDD (room_u hr)) (g_name 6) (g_peek 0 g_int) (nomark _)) (g_and1 (g_tru (g_peek 9 g_int))))) (g_or1 (g_wT (g_andT (g_notT (g_tru (g_peek 9 g_int))) (g_and1 (g_wT (g_orT (g_cmpT (op_eqDD (room_u hr)) (g_name 10) (toD (g_lst gs_nil)) (nomark _)) (g_or1 (g_tru (toD (g_ix ix_D (g_peek 10 (g_un un_negD g_int)) g_int)))))))))))) (gss_one (gs_set 4 sc_due.nd (g_bin op_addD (g_name 4) g_int))) gss_nil)))))))
    (gss_one (gs_ret (toE (g_tup (gs_cons (g_name 2) (gs_cons (g_name 3) (gs_cons (g_name 4) (gs_cons (g_name 5) gs_nil))))))))))
theorem cal_due (T : Txt K mg) : Cal P w K mg base 7 "_law_due" 2 den_due := calOf T.d_due (ok_due T)
theorem ok_law_mended (T : Txt K mg) (f : Addr) (fd : FuncData) (Fn : Fun K "_law_mended" "_law_mended" s_law_mended f fd) : FnOk P w K mg base (L2.CX P w) 5 f fd ["own_so", "far_so", "spots_so"] (spD K mg 3 den_law_mended) := ok_def (k := 4) Fn sc_law_mended fun cdv A outer s H E hr => have B := T.bt; (gss_cons (gs_parA 4 5 rfl sc_law_mended.nd rfl rfl (by decide) (by kernel_rfl) (by kernel_rfl) (ga_cons (g_callTy (call_dictD2 rfl) (by rfl) B.dict PyProof.Rows.Boot.dict (gs_cons (toD (g_callTy call_listDD (by rfl) B.list PyProof.Rows.Boot.list (gs_cons (g_name 0) gs_nil))) gs_nil)) (ga_cons (g_callTy (call_dictD2 rfl) (by rfl) B.dict PyProof.Rows.Boot.dict (gs_cons (toD (g_callTy call_listDD (by rfl) B.list PyProof.Rows.Boot.list (gs_cons (g_name 1) gs_nil))) gs_nil)) ga_nil)) (by kernel_rfl))
    (gss_cons (gs_for (passes_of rfl) rfl (gi_seq (g_name 2)) (gg_name 3 sc_law_mended.nd) (gss_cons (gs_set 6 sc_law_mended.nd (g_callB (call_max2D rfl) (by rfl) B.max PyProof.Rows.Boot.max (gs_cons (g_get2 4 (room_u1 hr) (g_name 3) g_int ⟨by rfl, by rfl, by rfl, by rfl⟩) (gs_cons (g_get2 5 (room_u1 hr) (g_name 3) g_int ⟨by rfl, by rfl, by rfl, by rfl⟩) gs_nil))))
    (gss_one (gs_twoP 4 5 rfl (room_u1 hr) (g_tup (gs_cons (g_name 6) (gs_cons (g_name 6) gs_nil))) (g_name 3) (g_name 3)))))
    (gss_one (gs_ret (toE (g_tup (gs_cons (toD (g_callTy call_tupleD (by rfl) B.tuple PyProof.Rows.Boot.tuple (gs_cons (toD (g_callB (call_sortX (room_u1 hr)) (by rfl) B.sorted PyProof.Rows.Boot.sorted (gs_cons (toD (g_itemsL 4 rfl (by rfl) B.list PyProof.Rows.Boot.list)) gs_nil))) gs_nil))) (gs_cons (toD (g_callTy call_tupleD (by rfl) B.tuple PyProof.Rows.Boot.tuple (gs_cons (toD (g_callB (call_sortX (room_u1 hr)) (by rfl) B.sorted PyProof.Rows.Boot.sorted (gs_cons (toD (g_itemsL 5 rfl (by rfl) B.list PyProof.Rows.Boot.list)) gs_nil))) gs_nil))) gs_nil))))))))
theorem cal_law_mended (T : Txt K mg) : Cal P w K mg base 5 "_law_mended" 3 den_law_mended := calOf T.d_law_mended (ok_law_mended T)
theorem ok_case_right (T : Txt K mg) (f : Addr) (fd : FuncData) (Fn : Fun K "_law_case_right" "_law_case_right" s_case_right f fd) : FnOk P w K mg base (L2.CX P w) 16 f fd ["grove_so", "own_so", "far_so"] (spD K mg 3 den_case_right) := ok_def (k := 15) Fn sc_case_right fun cdv A outer s H E hr => have B := T.bt; (gss_cons (gs_set 3 sc_case_right.nd (g_call (cal_table T) hr (by decide) (by rfl) (passes_call (takes_of rfl rfl rfl rfl) (fun _ _ _ _ h => h)) (ga_cons (toE (g_name 0)) (ga_cons (toE (g_name 1)) (ga_cons (toE (g_name 2)) ga_nil))) (arl_cons (arl_cons (arl_cons arl_nil)))))
    (gss_cons (gs_asg (toD (g_call (cal_due T) hr (by decide) (by rfl) (passes_call (takes_of rfl rfl rfl rfl) (fun _ _ _ _ h => h)) (ga_cons (toE (g_name 0)) (ga_cons (toE (g_name 3)) ga_nil)) (arl_cons (arl_cons arl_nil)))) (gg_tup rfl (ggs_cons (gg_name 7 sc_case_right.nd) (ggs_cons (gg_name 8 sc_case_right.nd) (ggs_cons (gg_name 9 sc_case_right.nd) (ggs_cons (gg_name 10 sc_case_right.nd) ggs_nil))))))
    (gss_cons (gs_set 4 sc_case_right.nd (toE (g_tup (gs_cons (toD (g_callTy call_tupleD (by rfl) B.tuple PyProof.Rows.Boot.tuple (gs_cons (g_name 7) gs_nil))) (gs_cons (g_name 8) gs_nil)))))
    (gss_cons (gs_set 5 sc_case_right.nd (g_lst (gs_cons (toD (g_call (cal_compare T) hr (by decide) (by rfl) (passes_call (takes_of rfl rfl rfl rfl) (fun _ _ _ _ h => h)) (ga_cons (toE (g_name 0)) (ga_cons (toE (g_name 1)) (ga_cons (toE (g_name 2)) ga_nil))) (arl_cons (arl_cons (arl_cons arl_nil))))) gs_nil)))
    (gss_cons (ps_wk (ps_expr (pe_bm PySem.F.plainAttrs_list PySem.F.slot_list_append PySem.F.type_list_append mt_append (pv 5) (pa_cons (toD (g_callKW (ks := ["right", "left", "tree"]) [2, 1, 0] T.d_compare (ok_compare T) hr (by decide) (by rfl) (passes_call (takes_of rfl rfl rfl rfl) (fun _ _ _ _ h => h)) (fun _ _ _ _ _ _ _ ws hl => match ws, hl with | [_, _, _], _ => .of_eq rfl) (gk_cons (toD (g_call (cal_lists T 8) hr (by decide) (by rfl) (passes_call (takes_of rfl rfl rfl rfl) (fun _ _ _ _ h => h)) (ga_cons (toE (g_name 1)) ga_nil) (arl_cons arl_nil))) (gk_cons (toD (g_call (cal_lists T 8) hr (by decide) (by rfl) (passes_call (takes_of rfl rfl rfl rfl) (fun _ _ _ _ h => h)) (ga_cons (toE (g_name 2)) ga_nil) (arl_cons arl_nil))) (gk_cons (toD (g_callTy call_listDD (by rfl) B.list PyProof.Rows.Boot.list (gs_cons (g_name 0) gs_nil))) gk_nil))) (dsl_cons (dsl_cons (dsl_cons dsl_nil))) rfl (by decide))) pa_nil))) app_wk)
    (gss_cons (ps_wk (ps_expr (pe_bm PySem.F.plainAttrs_list PySem.F.slot_list_append PySem.F.type_list_append mt_append (pv 5) (pa_cons (toD (g_call (cal_least_proof T) hr (by decide) (by rfl) (passes_call (takes_of rfl rfl rfl rfl) (fun _ _ _ _ h => h)) (ga_cons (toE (g_name 0)) (ga_cons (toE (g_name 1)) (ga_cons (toE (g_name 2)) ga_nil))) (arl_cons (arl_cons (arl_cons arl_nil))))) pa_nil))) app_wk)
    (gss_cons (ps_wk (ps_expr (pe_bm PySem.F.plainAttrs_list PySem.F.slot_list_append PySem.F.type_list_append mt_append (pv 5) (pa_cons (toD (g_callKW (ks := ["left", "right", "tree"]) [2, 0, 1] T.d_least_proof (ok_least_proof T) hr (by decide) (by rfl) (passes_call (takes_of rfl rfl rfl rfl) (fun _ _ _ _ h => h)) (fun _ _ _ _ _ _ _ ws hl => match ws, hl with | [_, _, _], _ => .of_eq rfl) (gk_cons (g_name 2) (gk_cons (toD (g_call (cal_lists T 8) hr (by decide) (by rfl) (passes_call (takes_of rfl rfl rfl rfl) (fun _ _ _ _ h => h)) (ga_cons (toE (g_name 1)) ga_nil) (arl_cons arl_nil))) (gk_cons (g_name 0) gk_nil))) (dsl_cons (dsl_cons (dsl_cons dsl_nil))) rfl (by decide))) pa_nil))) app_wk)
    (gss_cons (gs_if (g_notT (g_tru (toD (g_call (cal_same T 10) hr (by decide) (by rfl) (passes_call (takes_of rfl rfl rfl rfl) (fun _ _ _ _ h => h)) (ga_cons (toE (g_name 5)) (ga_cons (toE (toD (g_lst (gs_cons (g_name 4) (gs_cons (g_name 4) (gs_cons (g_name 9) (gs_cons (g_name 9) gs_nil))))))) ga_nil)) (arl_cons (arl_cons arl_nil)))))) (gss_one (gs_ret (toE g_bl))) gss_nil)
    (gss_cons (gs_asg (toD (g_comp rfl sc_case_right.nd (gi_enumB (by rfl) B.enumerate (gs_cons (g_peek 3 (g_un un_negD g_int)) gs_nil)) (own := [("j", 13), ("own", 14)]) (blkOk_by (by kernel_rfl)) (by decide) (fun s H C cl fp => (gg_tup rfl (ggs_cons (gg_name 13 sc_case_right.nd) (ggs_cons (gg_name 14 sc_case_right.nd) ggs_nil)))) (fun s H C cl fp => (gt_one (g_tru (g_peek 14 g_int)))) (fun s H C cl fp => (g_name 13)))) (gg_name 6 sc_case_right.nd))
    (gss_cons (gs_if (g_cmpT (op_neDD (room_u hr)) (toD (g_comp rfl sc_case_right.nd (gi_seq (g_name 7)) (own := [("j", 13)]) (blkOk_by (by kernel_rfl)) (by decide) (fun s H C cl fp => (gg_name 13 sc_case_right.nd)) (fun s H C cl fp => (gt_one (g_cmpT (op_notInDD (room_u1 hr)) (g_name 13) (g_name 6) (by rfl)))) (fun s H C cl fp => (g_name 13)))) (toD (g_lst gs_nil)) (nomark _)) (gss_one (gs_ret (toE g_bl))) gss_nil)
    (gss_cons (gs_if (g_wT (g_andT (g_notT (g_tru (g_name 10))) (g_and1 (g_wT (g_orT (g_cmpT (op_neDD (room_u hr)) (g_name 7) (g_name 6) (nomark _)) (g_or1 (g_cmpT op_ltD (g_name 8) (g_name 9) (nomark _)))))))) (gss_one (gs_ret (toE g_bl))) gss_nil)
    (gss_cons (gs_asg (toD (g_call (cal_law_mended T) hr (by decide) (by rfl) (passes_call (takes_of rfl rfl rfl rfl) (fun _ _ _ _ h => h)) (ga_cons (toE (g_name 1)) (ga_cons (toE (g_name 2)) (ga_cons (toE (g_name 7)) ga_nil))) (arl_cons (arl_cons (arl_cons arl_nil))))) (gg_tup rfl (ggs_cons (gg_name 11 sc_case_right.nd) (ggs_cons (gg_name 12 sc_case_right.nd) ggs_nil))))
    (gss_cons (gs_if (g_tru (g_name 10)) (gss_one (gs_ret (g_cmp (op_eqDD (room_u hr)) (toD (g_comp rfl sc_case_right.nd (gi_seq (toD (g_ix ix_D (toD (g_call (cal_compare T) hr (by decide) (by rfl) (passes_call (takes_of rfl rfl rfl rfl) (fun _ _ _ _ h => h)) (ga_cons (toE (g_name 0)) (ga_cons (toE (g_name 11)) (ga_cons (toE (g_name 12)) ga_nil))) (arl_cons (arl_cons (arl_cons arl_nil))))) g_int))) (own := [("j", 13)]) (blkOk_by (by kernel_rfl)) (by decide) (fun s H C cl fp => (gg_name 13 sc_case_right.nd)) (fun s H C cl fp => (gt_one (g_cmpT (op_inDD (room_u1 hr)) (g_name 13) (g_name 7) (by rfl)))) (fun s H C cl fp => (g_name 13)))) (toD (g_lst gs_nil)) (nomark _)))) gss_nil)
    (gss_cons (gs_set 5 sc_case_right.nd (g_lst (gs_cons (toD (g_cmp (op_eqDD (room_u hr)) (g_name 11) (g_name 12) (nomark _))) (gs_cons (toD (g_call (cal_compare T) hr (by decide) (by rfl) (passes_call (takes_of rfl rfl rfl rfl) (fun _ _ _ _ h => h)) (ga_cons (toE (g_name 0)) (ga_cons (toE (g_name 11)) (ga_cons (toE (g_name 12)) ga_nil))) (arl_cons (arl_cons (arl_cons arl_nil))))) (gs_cons (toD (g_call (cal_least_proof T) hr (by decide) (by rfl) (passes_call (takes_of rfl rfl rfl rfl) (fun _ _ _ _ h => h)) (ga_cons (toE (g_name 0)) (ga_cons (toE (g_name 11)) (ga_cons (toE (g_name 12)) ga_nil))) (arl_cons (arl_cons (arl_cons arl_nil))))) gs_nil)))))
    (gss_one (gs_ret (g_call (cal_same T 10) hr (by decide) (by rfl) (passes_call (takes_of rfl rfl rfl rfl) (fun _ _ _ _ h => h)) (ga_cons (toE (g_name 5)) (ga_cons (toE (toD (g_lst (gs_cons g_bl (gs_cons (g_tup (gs_cons (g_tup gs_nil) (gs_cons g_int gs_nil))) (gs_cons g_int gs_nil)))))) ga_nil)) (arl_cons (arl_cons arl_nil)))))))))))))))))))
theorem cal_case_right (T : Txt K mg) : Cal P w K mg base 16 "_law_case_right" 3 den_case_right := calOf T.d_case_right (ok_case_right T)
theorem ok_by_hand_right (T : Txt K mg) (f : Addr) (fd : FuncData) (Fn : Fun K "_law_by_hand_right" "_law_by_hand_right" s_by_hand_right f fd) : FnOk P w K mg base (L2.CX P w) 16 f fd [] (spD K mg 0 den_by_hand_right) := ok_def (k := 15) Fn sc_by_hand_right fun cdv A outer s H E hr => have B := T.bt; by rw [eq_by_hand_right]; exact (gss_cons (gs_asg (g_tup (gs_cons (g_tup (gs_cons g_int (gs_cons g_int (gs_cons g_int (gs_cons g_int gs_nil))))) (gs_cons (g_tup (gs_cons (g_tup (gs_cons g_int (gs_cons g_int gs_nil))) (gs_cons (g_tup (gs_cons g_int (gs_cons g_int gs_nil))) (gs_cons (g_tup (gs_cons g_int (gs_cons g_int gs_nil))) gs_nil)))) (gs_cons (g_tup (gs_cons (g_tup (gs_cons g_int (gs_cons g_int gs_nil))) (gs_cons (g_tup (gs_cons g_int (gs_cons g_int gs_nil))) (gs_cons (g_tup (gs_cons g_int (gs_cons g_int gs_nil))) gs_nil)))) gs_nil)))) (gg_tup rfl (ggs_cons (gg_name 2 sc_by_hand_right.nd) (ggs_cons (gg_name 3 sc_by_hand_right.nd) (ggs_cons (gg_name 4 sc_by_hand_right.nd) ggs_nil)))))
    (gss_cons (gs_set 0 sc_by_hand_right.nd (g_lst (gs_cons (toD (g_call (cal_compare T) hr (by decide) (by rfl) (passes_call (takes_of rfl rfl rfl rfl) (fun _ _ _ _ h => h)) (ga_cons (toE (g_name 2)) (ga_cons (toE (g_name 3)) (ga_cons (toE (g_name 4)) ga_nil))) (arl_cons (arl_cons (arl_cons arl_nil))))) (gs_cons (toD (g_call (cal_compare T) hr (by decide) (by rfl) (passes_call (takes_of rfl rfl rfl rfl) (fun _ _ _ _ h => h)) (ga_cons (toE (g_name 2)) (ga_cons (toE (g_name 3)) (ga_cons (toE (g_name 3)) ga_nil))) (arl_cons (arl_cons (arl_cons arl_nil))))) gs_nil))))
    (gss_cons (ps_wk (ps_expr (pe_bm PySem.F.plainAttrs_list PySem.F.slot_list_append PySem.F.type_list_append mt_append (pv 0) (pa_cons (toD (g_call (cal_compare T) hr (by decide) (by rfl) (passes_call (takes_of rfl rfl rfl rfl) (fun _ _ _ _ h => h)) (ga_cons (toE (g_tup (gs_cons g_int (gs_cons g_int (gs_cons g_int (gs_cons g_int gs_nil)))))) (ga_cons (toE (g_tup (gs_cons (g_tup (gs_cons g_int (gs_cons g_int gs_nil))) gs_nil))) (ga_cons (toE (g_tup (gs_cons (g_tup (gs_cons g_int (gs_cons g_int gs_nil))) gs_nil))) ga_nil))) (arl_cons (arl_cons (arl_cons arl_nil))))) pa_nil))) app_wk)
    (gss_cons (gs_set 1 sc_by_hand_right.nd (g_lst (gs_cons (g_tup (gs_cons (g_tup (gs_cons g_int gs_nil)) (gs_cons g_int gs_nil))) (gs_cons (g_tup (gs_cons (g_tup gs_nil) (gs_cons g_int gs_nil))) (gs_cons (g_tup (gs_cons (g_tup gs_nil) (gs_cons g_int gs_nil))) gs_nil)))))
    (gss_cons (gs_set 0 sc_by_hand_right.nd (g_bin op_addD (g_name 0) (toD (g_lst (gs_cons (toD (g_call (cal_least_proof T) hr (by decide) (by rfl) (passes_call (takes_of rfl rfl rfl rfl) (fun _ _ _ _ h => h)) (ga_cons (toE (g_name 2)) (ga_cons (toE (g_name 3)) (ga_cons (toE (g_name 4)) ga_nil))) (arl_cons (arl_cons (arl_cons arl_nil))))) (gs_cons (toD (g_call (cal_least_proof T) hr (by decide) (by rfl) (passes_call (takes_of rfl rfl rfl rfl) (fun _ _ _ _ h => h)) (ga_cons (toE (g_name 2)) (ga_cons (toE (g_name 3)) (ga_cons (toE (g_name 3)) ga_nil))) (arl_cons (arl_cons (arl_cons arl_nil))))) gs_nil))))))
    (gss_cons (gs_set 0 sc_by_hand_right.nd (g_bin op_addD (g_name 0) (toD (g_lst (gs_cons (toD (g_call (cal_least_proof T) hr (by decide) (by rfl) (passes_call (takes_of rfl rfl rfl rfl) (fun _ _ _ _ h => h)) (ga_cons (toE (g_tup (gs_cons g_int (gs_cons g_int (gs_cons g_int (gs_cons g_int gs_nil)))))) (ga_cons (toE (g_tup (gs_cons (g_tup (gs_cons g_int (gs_cons g_int gs_nil))) gs_nil))) (ga_cons (toE (g_tup (gs_cons (g_tup (gs_cons g_int (gs_cons g_int gs_nil))) gs_nil))) ga_nil))) (arl_cons (arl_cons (arl_cons arl_nil))))) (gs_cons (toD (g_call (cal_compare T) hr (by decide) (by rfl) (passes_call (takes_of rfl rfl rfl rfl) (fun _ _ _ _ h => h)) (ga_cons (toE (g_tup (gs_cons g_int (gs_cons g_int (gs_cons g_int (gs_cons g_int gs_nil)))))) (ga_cons (toE (g_tup gs_nil)) (ga_cons (toE (g_tup (gs_cons (g_tup (gs_cons g_int (gs_cons g_int gs_nil))) gs_nil))) ga_nil))) (arl_cons (arl_cons (arl_cons arl_nil))))) gs_nil))))))
    (gss_cons (gs_set 1 sc_by_hand_right.nd (g_bin op_addD (g_name 1) (toD (g_lst (gs_cons g_int (gs_cons g_int (gs_cons g_int (gs_cons (g_tup (gs_cons (g_tup (gs_cons g_int gs_nil)) (gs_cons g_int gs_nil))) gs_nil))))))))
    (gss_cons (gs_asg (g_tup (gs_cons (g_tup (gs_cons g_int (gs_cons g_int (gs_cons g_int (gs_cons g_int gs_nil))))) (gs_cons (g_tup (gs_cons (g_tup (gs_cons g_int (gs_cons g_int gs_nil))) (gs_cons (g_tup (gs_cons g_int (gs_cons g_int gs_nil))) (gs_cons (g_tup (gs_cons g_int (gs_cons g_int gs_nil))) gs_nil)))) (gs_cons (g_tup (gs_cons (g_tup (gs_cons g_int (gs_cons g_int gs_nil))) (gs_cons (g_tup (gs_cons g_int (gs_cons g_int gs_nil))) (gs_cons (g_tup (gs_cons g_int (gs_cons g_int gs_nil))) (gs_cons (g_tup (gs_cons g_int (gs_cons g_int gs_nil))) gs_nil))))) gs_nil)))) (gg_tup rfl (ggs_cons (gg_name 5 sc_by_hand_right.nd) (ggs_cons (gg_name 6 sc_by_hand_right.nd) (ggs_cons (gg_name 7 sc_by_hand_right.nd) ggs_nil)))))
    (gss_cons (gs_set 0 sc_by_hand_right.nd (g_bin op_addD (g_name 0) (toD (g_lst (gs_cons (toD (g_call (cal_compare T) hr (by decide) (by rfl) (passes_call (takes_of rfl rfl rfl rfl) (fun _ _ _ _ h => h)) (ga_cons (toE (g_name 5)) (ga_cons (toE (g_name 6)) (ga_cons (toE (g_name 7)) ga_nil))) (arl_cons (arl_cons (arl_cons arl_nil))))) (gs_cons (toD (g_call (cal_least_proof T) hr (by decide) (by rfl) (passes_call (takes_of rfl rfl rfl rfl) (fun _ _ _ _ h => h)) (ga_cons (toE (g_name 5)) (ga_cons (toE (g_name 6)) (ga_cons (toE (g_name 7)) ga_nil))) (arl_cons (arl_cons (arl_cons arl_nil))))) gs_nil))))))
    (gss_cons (gs_set 1 sc_by_hand_right.nd (g_bin op_addD (g_name 1) (toD (g_lst (gs_cons (g_tup (gs_cons (g_tup (gs_cons g_int (gs_cons g_int gs_nil))) (gs_cons g_int gs_nil))) (gs_cons g_int gs_nil))))))
    (gss_cons (gs_set 0 sc_by_hand_right.nd (g_bin op_addD (g_name 0) (toD (g_lst (gs_cons (toD (g_call (cal_compare T) hr (by decide) (by rfl) (passes_call (takes_of rfl rfl rfl rfl) (fun _ _ _ _ h => h)) (ga_cons (toE (g_tup (gs_cons g_int (gs_cons g_int (gs_cons g_int (gs_cons g_int gs_nil)))))) (ga_cons (toE (g_tup (gs_cons (g_tup (gs_cons g_int (gs_cons g_int gs_nil))) gs_nil))) (ga_cons (toE (g_tup gs_nil)) ga_nil))) (arl_cons (arl_cons (arl_cons arl_nil))))) (gs_cons (toD (g_call (cal_compare T) hr (by decide) (by rfl) (passes_call (takes_of rfl rfl rfl rfl) (fun _ _ _ _ h => h)) (ga_cons (toE (g_tup (gs_cons g_int (gs_cons g_int (gs_cons g_int (gs_cons g_int gs_nil)))))) (ga_cons (toE (g_tup gs_nil)) (ga_cons (toE (g_tup gs_nil)) ga_nil))) (arl_cons (arl_cons (arl_cons arl_nil))))) gs_nil))))))
    (gss_cons (ps_wk (ps_expr (pe_bm PySem.F.plainAttrs_list PySem.F.slot_list_append PySem.F.type_list_append mt_append (pv 0) (pa_cons (toD (g_call (cal_least_proof T) hr (by decide) (by rfl) (passes_call (takes_of rfl rfl rfl rfl) (fun _ _ _ _ h => h)) (ga_cons (toE (g_tup (gs_cons g_int (gs_cons g_int (gs_cons g_int (gs_cons g_int gs_nil)))))) (ga_cons (toE (g_tup gs_nil)) (ga_cons (toE (g_tup (gs_cons (g_tup (gs_cons g_int (gs_cons g_int gs_nil))) gs_nil))) ga_nil))) (arl_cons (arl_cons (arl_cons arl_nil))))) pa_nil))) app_wk)
    (gss_cons (gs_set 1 sc_by_hand_right.nd (g_bin op_addD (g_name 1) (toD (g_lst (gs_cons (g_tup (gs_cons (g_tup (gs_cons g_int gs_nil)) (gs_cons g_int gs_nil))) (gs_cons (g_tup (gs_cons (g_tup gs_nil) (gs_cons g_int gs_nil))) (gs_cons g_int gs_nil)))))))
    (gss_cons (ps_wk (ps_expr (pe_bm PySem.F.plainAttrs_list PySem.F.slot_list_append PySem.F.type_list_append mt_append (pv 0) (pa_cons (toD (g_call (cal_compare T) hr (by decide) (by rfl) (passes_call (takes_of rfl rfl rfl rfl) (fun _ _ _ _ h => h)) (ga_cons (toE (g_tup (gs_cons g_int (gs_cons g_int (gs_cons g_int (gs_cons g_int gs_nil)))))) (ga_cons (toE (g_tup (gs_cons (g_tup (gs_cons g_int (gs_cons g_int gs_nil))) (gs_cons (g_tup (gs_cons g_int (gs_cons g_int gs_nil))) gs_nil)))) (ga_cons (toE (g_tup (gs_cons (g_tup (gs_cons g_int (gs_cons g_int gs_nil))) (gs_cons (g_tup (gs_cons g_int (gs_cons g_int gs_nil))) gs_nil)))) ga_nil))) (arl_cons (arl_cons (arl_cons arl_nil))))) pa_nil))) app_wk)
    (gss_one (gs_ret (g_call (cal_same T 10) hr (by decide) (by rfl) (passes_call (takes_of rfl rfl rfl rfl) (fun _ _ _ _ h => h)) (ga_cons (toE (g_name 0)) (ga_cons (toE (toD (g_bin op_addD (g_name 1) (toD (g_lst (gs_cons (g_tup (gs_cons (g_tup (gs_cons g_int gs_nil)) (gs_cons g_int gs_nil))) gs_nil)))))) ga_nil)) (arl_cons (arl_cons arl_nil)))))))))))))))))))
theorem cal_by_hand_right (T : Txt K mg) : Cal P w K mg base 16 "_law_by_hand_right" 0 den_by_hand_right := calOf T.d_by_hand_right (ok_by_hand_right T)
theorem ok_right (T : Txt K mg) (f : Addr) (fd : FuncData) (Fn : Fun K "_law_right" "_law_right" s_right f fd) : FnOk P w K mg base (L2.CX P w) 17 f fd ["tin"] (spD K mg 1 den_right) := ok_def (k := 16) Fn sc_right fun cdv A outer s H E hr => have B := T.bt; (gss_cons (gs_set 1 sc_right.nd (g_call (cal_grove T) hr (by decide) (by rfl) (passes_call (takes_of rfl rfl rfl rfl) (fun _ _ _ _ h => h)) (ga_lend 0 ga_nil) (arl_lend arl_nil)))
    (gss_cons (gs_set 2 sc_right.nd (g_call (cal_leaves T) hr (by decide) (by rfl) (passes_call (takes_of rfl rfl rfl rfl) (fun _ _ _ _ h => h)) (ga_lend 0 (ga_cons (toE (g_name 1)) ga_nil)) (arl_lend (arl_cons arl_nil))))
    (gss_one (gs_ret (g_call (cal_case_right T) hr (by decide) (by rfl) (passes_call (takes_of rfl rfl rfl rfl) (fun _ _ _ _ h => h)) (ga_cons (toE (g_name 1)) (ga_cons (toE (g_name 2)) (ga_cons (toE (toD (g_call (cal_turned T) hr (by decide) (by rfl) (passes_call (takes_of rfl rfl rfl rfl) (fun _ _ _ _ h => h)) (ga_lend 0 (ga_cons (toE (g_name 1)) (ga_cons (toE (g_name 2)) ga_nil))) (arl_lend (arl_cons (arl_cons arl_nil)))))) ga_nil))) (arl_cons (arl_cons (arl_cons arl_nil))))))))
theorem cal_right (T : Txt K mg) : Cal P w K mg base 17 "_law_right" 1 den_right := calOf T.d_right (ok_right T)
theorem ok_law (T : Txt K mg) (f : Addr) (fd : FuncData) (Fn : Fun K "law" "law" s_law f fd) : FnOk P w K mg base (L2.CX P w) 18 f fd ["script"] (spD K mg 1 den_law) := ok_def (k := 17) Fn sc_law fun cdv A outer s H E hr => have B := T.bt; (gss_cons (gs_if (g_notT (g_tru (toD (g_call0 (cal_by_hand_right T) hr (by decide) (by rfl) (passes_call (takes_of rfl rfl rfl rfl) (fun _ _ _ _ h => h)))))) (gss_one (gs_ret (toE g_bl))) gss_nil)
    (gss_cons (gs_set 1 sc_law.nd (g_call (cal_law_cells T) hr (by decide) (by rfl) (passes_call (takes_of rfl rfl rfl rfl) (fun _ _ _ _ h => h)) (ga_lend 0 (ga_cons (toE g_int) ga_nil)) (arl_lend (arl_cons arl_nil))))
    (gss_one (gs_ret (g_callB (call_allD rfl) (by rfl) B.all PyProof.Rows.Boot.all (gs_cons (toD (g_comp rfl sc_law.nd (gi_range1 (by rfl) B.range (gs_cons (g_lenP 1 (by rfl) B.len) gs_nil)) (own := [("k", 2)]) (blkOk_by (by kernel_rfl)) (by decide) (fun s H C cl fp => (gg_name 2 sc_law.nd)) (fun s H C cl fp => gt_yes) (fun s H C cl fp => (toD (g_call (cal_right T) hr (by decide) (by rfl) passL (ga_cons (g_call (cal_box T) hr (by decide) (by rfl) passL (ga_cons (toE (g_name 1)) (ga_cons (toE (g_name 2)) ga_nil)) (arl_cons (arl_cons arl_nil))) ga_nil) (arl_cons arl_nil)))))) gs_nil))))))
end
end K80

/-! E1: what denotations come to, step by step. -/
namespace Gx
open PySem PySem.Spec L2
open PyProof.Rows hiding St

section
variable {ρ ρ1 ρ2 ρ3 : Ev}
theorem ev_bnd {α β : Type} {f : Dn α} {g : α → Dn β} {a : α} {r : Rs (β × Ev)} (h1 : f ρ = .ok (a, ρ1)) (h2 : g a ρ1 = r) : bnd f g ρ = r := by
  unfold bnd
  rw [h1]
  exact h2
theorem ev_lft {α : Type} {o : Option α} {a : α} (h : o = some a) : lft o ρ = .ok (a, ρ) := by rw [h]; rfl
theorem ev_seq {f g : Dn Fl} {r : Rs (Fl × Ev)} (h1 : f ρ = .ok (.nx, ρ1)) (h2 : g ρ1 = r) : sSeq f g ρ = r := ev_bnd h1 h2
theorem ev_seqR {f g : Dn Fl} {v : Rv} (h1 : f ρ = .ok (.rt v, ρ1)) : sSeq f g ρ = .ok (.rt v, ρ1) := ev_bnd h1 rfl
theorem ev_put {i : Nat} {r : Rv} (h : isBl ρ[i]? = false) : put i r ρ = .ok (.nx, ρ.set i r.en) := by
  unfold put
  rw [h]
  rfl
theorem ev_set {i : Nat} {f : Dn Rv} {r : Rv} (h1 : f ρ = .ok (r, ρ1)) (h2 : isBl ρ1[i]? = false) : sSet i f ρ = .ok (.nx, ρ1.set i r.en) := ev_bnd h1 (ev_put h2)
theorem ev_ret {f : Dn Rv} {r : Rv} (h1 : f ρ = .ok (r, ρ1)) : sRet f ρ = .ok (.rt r, ρ1) := ev_bnd h1 rfl
theorem ev_if {c : Dn Bool} {f g : Dn Fl} {b : Bool} {r : Rs (Fl × Ev)} (h1 : c ρ = .ok (b, ρ1)) (h2 : (if b then f else g) ρ1 = r) : sIf c f g ρ = r := ev_bnd h1 h2
theorem ev_nil : dNil ρ = .ok ([], ρ) := rfl
theorem ev_cons {f : Dn PyData} {g : Dn (List PyData)} {d : PyData} {ds : List PyData} (h1 : f ρ = .ok (d, ρ1)) (h2 : g ρ1 = .ok (ds, ρ2)) : dCons f g ρ = .ok (d :: ds, ρ2) := ev_bnd h1 (ev_bnd h2 rfl)
theorem ev_lst {f : Dn (List PyData)} {ds : List PyData} (h1 : f ρ = .ok (ds, ρ1)) (h2 : okLen ds.length = true) : dLst f ρ = .ok (.ol ds, ρ1) := ev_bnd h1 (by show (if okLen ds.length then ret (Rv.ol ds) else lft none : Dn Rv) ρ1 = _; rw [if_pos h2]; rfl)
theorem ev_frz {f : Dn Rv} {r : Rv} (h1 : f ρ = .ok (r, ρ1)) : frz f ρ = .ok (r.d, ρ1) := ev_bnd h1 rfl
theorem ev_ofD {f : Dn PyData} {d : PyData} (h1 : f ρ = .ok (d, ρ1)) : ofD f ρ = .ok (.fz d, ρ1) := ev_bnd h1 rfl
theorem ev_bin {g : PyData → PyData → Option Rv} {fa fb : Dn PyData} {x y : PyData} {r : Rv} (h1 : fa ρ = .ok (x, ρ1)) (h2 : fb ρ1 = .ok (y, ρ2)) (h3 : g x y = some r) : dBin g fa fb ρ = .ok (r, ρ2) := ev_bnd h1 (ev_bnd h2 (ev_lft h3))
theorem ev_call {g : List PyData → Option Rv} {f : Dn (List PyData)} {xs : List PyData} {r : Rv} (h1 : f ρ = .ok (xs, ρ1)) (h2 : g xs = some r) : dCall g f ρ = .ok (r, ρ1) := ev_bnd h1 (ev_lft h2)
theorem ev_cmpT {g : PyData → PyData → Option Rv} {fa fb : Dn PyData} {x y : PyData} {b : Bool} (h1 : fa ρ = .ok (x, ρ1)) (h2 : fb ρ1 = .ok (y, ρ2)) (h3 : g x y = fB b) : dCmpT g fa fb ρ = .ok (b, ρ2) := ev_bnd (ev_bin h1 h2 h3) rfl
theorem ev_app {den : Den} {as : List Ar} {es es2 : List En} {r : Rv} (h1 : lent as = some none) (h2 : as.map (Ar.en ρ) = es) (h3 : den es = .ok (r, es2)) : apply den as ρ = .ok (r, ρ) := by
  unfold apply
  rw [h1]
  simp only [h2, h3]
  rfl
theorem ev_fn {den : Den} {f : Dn (List Ar)} {as : List Ar} {es es2 : List En} {r : Rv} (h0 : f ρ = .ok (as, ρ1)) (h1 : lent as = some none) (h2 : as.map (Ar.en ρ1) = es) (h3 : den es = .ok (r, es2)) : dFn den f ρ = .ok (r, ρ1) := ev_bnd h0 (ev_app h1 h2 h3)
theorem ev_run {n N : Nat} {f : Dn Fl} {as : List En} {r : Rv} (h : f (as ++ List.replicate (N - n) .no) = .ok (.rt r, ρ1)) : runF n N f as = .ok (r, back as ρ1) := by
  unfold runF
  rw [h]
theorem ev_peek {i : Nat} {f : Dn PyData} {k d : PyData} (h0 : (seqE ρ[i]?).isSome = true) (h1 : f ρ = .ok (k, ρ1)) (h2 : itemE ρ1[i]? k = some d) : dPeek i f ρ = .ok (d, ρ1) := by
  unfold dPeek
  rw [h0, if_pos rfl]
  refine ev_bnd h1 ?_
  simp only [h2]
theorem ev_setIx {i : Nat} {fk f : Dn PyData} {d k : PyData} {ys : List PyData} (h1 : f ρ = .ok (d, ρ1)) (h0 : (ownOf ρ1[i]?).isSome = true) (h2 : fk ρ1 = .ok (k, ρ2)) (h3 : (ownOf ρ2[i]?).bind (setIxD d k) = some ys) : sSetIx i fk f ρ = .ok (.nx, ρ2.set i (reKind ρ2[i]? ys)) := by
  refine ev_bnd h1 ?_
  show (if (ownOf ρ1[i]?).isSome then bnd fk (fun k => sUpd i (setIxD d k)) ρ1 else .st) = _
  rw [h0, if_pos rfl]
  refine ev_bnd h2 ?_
  unfold sUpd
  rw [h3]
end
theorem modD_ev {i j : Int} (h : 0 < j) : modD (.int i) (.int j) = some (.fz (.int (i % j))) := if_pos h
theorem fdivD_ev {i j : Int} (h : 0 < j) (h2 : j < 1073741824) : fdivD (.int i) (.int j) = some (.fz (.int (i / j))) := if_pos ⟨h, h2⟩
theorem w64_of {i : Int} (h1 : -1000000000000000000 < i) (h2 : i < 1000000000000000000) : w64 i = true := by
  unfold w64
  rw [Bool.and_eq_true]
  exact ⟨decide_eq_true (by omega), decide_eq_true (by omega)⟩
theorem mulD_l {i j : Int} (h : w64 i = true) : mulD (.int i) (.int j) = some (.fz (.int (i * j))) := by
  show (if w64 i || w64 j then _ else _) = _
  rw [h]
  rfl
theorem mulD_r {i j : Int} (h : w64 j = true) : mulD (.int i) (.int j) = some (.fz (.int (i * j))) := by
  show (if w64 i || w64 j then _ else _) = _
  rw [h, Bool.or_true]
  rfl
section
variable {ρ ρ1 ρ2 ρ3 : Ev}
theorem ev_fnL {den : Den} {f : Dn (List Ar)} {as : List Ar} {es es2 : List En} {r : Rv} {k i : Nat} (h0 : f ρ = .ok (as, ρ1)) (h1 : lent as = some (some (k, i))) (h2 : as.map (Ar.en ρ1) = es) (h3 : den es = .ok (r, es2)) : dFn den f ρ = .ok (r, putAt ρ1 i es2[k]?) := by
  refine ev_bnd h0 ?_
  unfold apply
  rw [h1]
  simp only [h2, h3]
  rfl
theorem ev_lendB {i : Nat} {g : Dn (List Ar)} {as : List Ar} {xs : List PyData} (h : ρ[i]? = some (.bl xs)) (h1 : g ρ = .ok (as, ρ1)) : aLend i g ρ = .ok (.sl i :: as, ρ1) := by
  unfold aLend
  rw [h]
  exact ev_bnd h1 rfl
theorem ev_aconsF {f : Dn Rv} {g : Dn (List Ar)} {d : PyData} {as : List Ar} (h1 : f ρ = .ok (.fz d, ρ1)) (h2 : g ρ1 = .ok (as, ρ2)) : aCons f g ρ = .ok (.fz d :: as, ρ2) := ev_bnd h1 (ev_bnd h2 rfl)
theorem ev_aconsO {f : Dn Rv} {g : Dn (List Ar)} {xs : List PyData} {as : List Ar} (h1 : f ρ = .ok (.ol xs, ρ1)) (h2 : g ρ1 = .ok (as, ρ2)) : aCons f g ρ = .ok (.tp xs :: as, ρ2) := ev_bnd h1 (ev_bnd h2 rfl)
theorem ev_lendS {i : Nat} {g : Dn (List Ar)} {as : List Ar} {ns : Sc} (h : ρ[i]? = some (.sc ns)) (h1 : g ρ = .ok (as, ρ1)) : aLend i g ρ = .ok (.sc ns :: as, ρ1) := by
  unfold aLend
  rw [h]
  exact ev_bnd h1 rfl
theorem ev_ccons {h : PyData → Ev → Option Ev} {ft : Dn Bool} {fe : Dn PyData} {vs : List Nat} {acc ds : List PyData} {d y : PyData} {r : Rs (List PyData × Ev)} (h1 : h d ρ = some ρ1) (h2 : ft ρ1 = .ok (true, ρ2)) (h3 : fe ρ2 = .ok (y, ρ3)) (h4 : okLen (acc.length + 1) = true) (h5 : compL h ft fe vs ds (acc ++ [y]) (wipeE ρ3 vs) = r) : compL h ft fe vs (d :: ds) acc ρ = r := by
  unfold compL
  simp only [h1, h2, h3, h4, if_true]
  exact h5
theorem ev_comp {fi : Dn (List PyData)} {h : PyData → Ev → Option Ev} {ft : Dn Bool} {fe : Dn PyData} {vs : List Nat} {ds ys : List PyData} (h1 : fi ρ = .ok (ds, ρ1)) (h2 : (vs.all fun v => !isBl ρ1[v]?) = true) (h3 : compL h ft fe vs ds [] (wipeE ρ1 vs) = .ok (ys, ρ2)) : dComp fi h ft fe vs ρ = .ok (.ol ys, restE ρ1 ρ2 vs) := by
  refine ev_bnd h1 ?_
  rw [if_pos h2, h3]
end
end Gx

/-! M10: families as lists of masks below 32; what a set of places has a whole lot of. -/
namespace M10
def sub (m n : Nat) : Bool := m &&& n == m
def up (ms : List Nat) (s : Nat) : Bool := ms.any fun m => sub m s
def tl : List Nat := [0, 1, 3, 7, 15, 31, 23, 11, 27, 19, 5, 13, 29, 21, 9, 25, 17, 2, 6, 14, 30, 22, 10, 26, 18, 4, 12, 28, 20, 8, 24, 16]
def mn (U : Nat → Bool) (m : Nat) : Bool := U m && (List.range 32).all fun n => !(sub n m && n != m && U n)
def FU (U : Nat → Bool) : List Nat := tl.filter (mn U)
def mo (ms : List Nat) (m : Nat) : Bool := ms.contains m && !(ms.any fun n => n != m && sub n m)
def Lt (ms : List Nat) : Prop := ∀ m ∈ ms, m < 32
theorem sub_self (m : Nat) : sub m m = true := by unfold sub; simp
theorem sub_iff {m n : Nat} : sub m n = true ↔ m &&& n = m := by unfold sub; simp
theorem sub_tr {a b c : Nat} (h1 : sub a b = true) (h2 : sub b c = true) : sub a c = true := by
  rw [sub_iff] at *
  rw [← h1, Nat.and_assoc, h2]
theorem sub_anti {a b : Nat} (h1 : sub a b = true) (h2 : sub b a = true) : a = b := by
  rw [sub_iff] at *
  rw [← h1, Nat.and_comm, h2]
theorem up_iff {ms : List Nat} {s : Nat} : up ms s = true ↔ ∃ m ∈ ms, sub m s = true := by unfold up; simp
theorem mn_iff {U : Nat → Bool} {m : Nat} : mn U m = true ↔ U m = true ∧ ∀ n < 32, sub n m = true → n ≠ m → U n = false := by
  unfold mn
  simp only [Bool.and_eq_true, List.all_eq_true, List.mem_range]
  constructor
  · rintro ⟨h1, h2⟩
    refine ⟨h1, fun n hn q1 q2 => ?_⟩
    have h := h2 n hn
    cases e : U n
    · rfl
    · simp [q1, q2, e] at h
  · rintro ⟨h1, h2⟩
    refine ⟨h1, fun n hn => ?_⟩
    cases e : sub n m
    · simp
    · by_cases q : n = m
      · simp [q]
      · simp [h2 n hn e q]
theorem mo_iff {ms : List Nat} {m : Nat} : mo ms m = true ↔ m ∈ ms ∧ ∀ n ∈ ms, sub n m = true → n = m := by
  unfold mo
  simp only [Bool.and_eq_true, List.contains_iff_mem, Bool.not_eq_true', List.any_eq_false]
  constructor
  · rintro ⟨h1, h2⟩
    refine ⟨h1, fun n hn q => ?_⟩
    have h := h2 n hn
    simpa [q] using h
  · rintro ⟨h1, h2⟩
    refine ⟨h1, fun n hn => ?_⟩
    intro h
    simp only [Bool.and_eq_true, bne_iff_ne, ne_eq] at h
    exact h.1 (h2 n hn h.2)
theorem mo_up {ms : List Nat} (hb : Lt ms) (m : Nat) : mo ms m = mn (up ms) m := by
  rw [Bool.eq_iff_iff, mo_iff, mn_iff]
  constructor
  · rintro ⟨h1, h2⟩
    refine ⟨up_iff.mpr ⟨m, h1, sub_self m⟩, fun n hn q1 q2 => ?_⟩
    cases e : up ms n
    · rfl
    · obtain ⟨k, k1, k2⟩ := up_iff.mp e
      have e2 := h2 k k1 (sub_tr k2 q1)
      subst e2
      exact absurd (sub_anti q1 k2) q2
  · rintro ⟨h1, h2⟩
    obtain ⟨k, k1, k2⟩ := up_iff.mp h1
    have e : k = m := by
      by_cases e : k = m
      · exact e
      · have q := h2 k (hb k k1) k2 e
        have q2 : up ms k = true := up_iff.mpr ⟨k, k1, sub_self k⟩
        rw [q] at q2
        cases q2
    subst e
    refine ⟨k1, fun n hn q => ?_⟩
    by_cases e : n = k
    · exact e
    · have q1 := h2 n (hb n hn) q e
      have q2 : up ms n = true := up_iff.mpr ⟨n, hn, sub_self n⟩
      rw [q1] at q2
      cases q2
theorem least_FU {ms : List Nat} (hb : Lt ms) : tl.filter (mo ms) = FU (up ms) := by
  unfold FU
  congr 1
  exact funext (mo_up hb)
theorem tl_lt : ∀ m ∈ tl, m < 32 := by decide
theorem tl_all : ∀ m < 32, m ∈ tl := by decide
theorem FU_lt (U : Nat → Bool) : Lt (FU U) := fun m h => tl_lt m ((List.mem_filter.mp h).1)
def Can (ks : List Nat) : Prop := ks = FU (up ks)
theorem can_lt {ks : List Nat} (h : Can ks) : Lt ks := by rw [h]; exact FU_lt _
/-! either, both -/
def ors (ks fs : List Nat) : List Nat := ks.flatMap fun a => fs.map fun b => a ||| b
/-! blockers -/
def bits (l : Nat) : List Nat := (List.range 5).filter fun p => l >>> p &&& 1 == 1
def hit1 (l m : Nat) : List Nat := if m &&& l == 0 then (bits l).map fun p => m ||| 1 <<< p else [m]
def hits (l : Nat) (ms : List Nat) : List Nat := ms.flatMap (hit1 l)
def lst (ms : List Nat) : List Nat := (List.range 32).filter (mo ms)
def blk : List Nat → List Nat → List Nat
  | [], found => found
  | l :: ls, found => blk ls (lst (hits l found))
def chk1 : Bool := (List.range 32).all fun l => (List.range 32).all fun m => (hit1 l m).all (fun z => z < 32) && (List.range 32).all fun s => up (hit1 l m) s == (sub m s && s &&& l != 0)
def co (s : Nat) : Nat := s ^^^ 31
def chk2 : Bool := (List.range 32).all fun l => (List.range 32).all fun s => (s &&& l != 0) == !(sub l (co s))
def bl (ks : List Nat) : List Nat := FU (up (blk ks [0]))
def ei (ks fs : List Nat) : List Nat := FU (up (ks ++ fs))
def bo (ks fs : List Nat) : List Nat := FU (up (ors ks fs))
/-! at most ten least ones -/
def chain (m : Nat) : Nat := [0, 0, 1, 0, 2, 1, 4, 0, 3, 2, 5, 1, 6, 3, 4, 0, 7, 3, 8, 2, 9, 7, 5, 1, 9, 7, 8, 4, 6, 3, 5, 0].getD m 0
end M10

/-! E20: what comprehensions and loops over data come to. -/
namespace Gx
open PySem PySem.Spec L2
open PyProof.Rows hiding St
def Gv (den : Den) (as : List En) (r : Rv) : Prop := ∃ es, den as = .ok (r, es)
theorem gv_run {n N : Nat} {f : Dn Fl} {as : List En} {r : Rv} (h : ∃ ρ1, f (as ++ List.replicate (N - n) .no) = .ok (.rt r, ρ1)) : Gv (runF n N f) as r := by
  obtain ⟨ρ1, h⟩ := h
  exact ⟨_, ev_run h⟩
section
variable {ρ ρ1 ρ2 : Ev}
theorem gv_fn {den : Den} {f : Dn (List Ar)} {as : List Ar} {es : List En} {r : Rv} (h0 : f ρ = .ok (as, ρ1)) (h1 : lent as = some none) (h2 : as.map (Ar.en ρ1) = es) (h3 : Gv den es r) : dFn den f ρ = .ok (r, ρ1) := by
  obtain ⟨es2, h3⟩ := h3
  exact ev_fn h0 h1 h2 h3
theorem set_twice {α : Type} {l : List α} {i : Nat} {a b : α} : (l.set i a).set i b = l.set i b := by simp
theorem wipe1 {i : Nat} {e : En} : wipeE (ρ.set i e) [i] = ρ.set i .no := by
  show ((ρ.set i e)).set i .no = _
  rw [set_twice]
theorem compL1 {ι : Type} {u : ι → PyData} {i : Nat} {ft : Dn Bool} {fe : Dn PyData} {p : ι → Bool} {g : ι → PyData} : ∀ (ds : List ι) (acc : List PyData), isBl ρ[i]? = false → (∀ d ∈ ds, ft (ρ.set i (.fz (u d))) = .ok (p d, ρ.set i (.fz (u d)))) → (∀ d ∈ ds, p d = true → fe (ρ.set i (.fz (u d))) = .ok (g d, ρ.set i (.fz (u d)))) → acc.length + ds.length ≤ 16777216 →
    compL (hName i) ft fe [i] (ds.map u) acc (ρ.set i .no) = .ok (acc ++ (ds.filter p).map g, ρ.set i .no)
  | [], acc, _, _, _, _ => by simp [compL]
  | d :: ds, acc, hb, ht, he, hl => by
    have hlt : i < ρ.length := (isBl_f hb).2
    have h1 : hName i (u d) (ρ.set i .no) = some (ρ.set i (.fz (u d))) := by
      unfold hName
      rw [List.getElem?_set_self hlt]
      show some ((ρ.set i .no).set i (.fz (u d))) = _
      rw [set_twice]
    have t := ht d (by simp)
    simp only [List.length_cons] at hl
    rw [List.map_cons]
    unfold compL
    simp only [h1, t]
    cases hp : p d with
    | true =>
      have e := he d (by simp) hp
      have ok : okLen (acc.length + 1) = true := decide_eq_true (by omega)
      simp only [e, ok, if_true, wipe1]
      rw [compL1 ds (acc ++ [g d]) hb (fun x hx => ht x (by simp [hx])) (fun x hx => he x (by simp [hx])) (by simp; omega)]
      simp [hp]
    | false =>
      simp only [wipe1]
      rw [compL1 ds acc hb (fun x hx => ht x (by simp [hx])) (fun x hx => he x (by simp [hx])) (by omega)]
      simp [hp]
theorem rest1 {i : Nat} (h : i < ρ.length) : restE ρ (ρ.set i .no) [i] = ρ := by
  apply List.ext_getElem?
  intro j
  rw [restE_get (by simp)]
  by_cases e : j = i
  · subst e; simp
  · simp [e]
    rw [List.getElem?_set_ne (Ne.symm e)]
theorem ev_comp1 {ι : Type} {u : ι → PyData} {i : Nat} {fi : Dn (List PyData)} {ft : Dn Bool} {fe : Dn PyData} {ds : List ι} (p : ι → Bool) (g : ι → PyData) (h0 : fi ρ = .ok (ds.map u, ρ1)) (hb : isBl ρ1[i]? = false) (ht : ∀ d ∈ ds, ft (ρ1.set i (.fz (u d))) = .ok (p d, ρ1.set i (.fz (u d))))
    (he : ∀ d ∈ ds, p d = true → fe (ρ1.set i (.fz (u d))) = .ok (g d, ρ1.set i (.fz (u d)))) (hl : ds.length ≤ 16777216) : dComp fi (hName i) ft fe [i] ρ = .ok (.ol ((ds.filter p).map g), ρ1) := by
  refine ev_bnd h0 ?_
  have hv : ([i].all fun v => !isBl ρ1[v]?) = true := by simp [hb]
  have hw : wipeE ρ1 [i] = ρ1.set i .no := rfl
  rw [if_pos hv, hw, compL1 ds [] hb ht he (by simpa using hl)]
  simp [rest1 (isBl_f hb).2]
theorem ev_comp0 {ι : Type} {u : ι → PyData} {i : Nat} {fi : Dn (List PyData)} {fe : Dn PyData} {ds : List ι} (g : ι → PyData) (h0 : fi ρ = .ok (ds.map u, ρ1)) (hb : isBl ρ1[i]? = false) (he : ∀ d ∈ ds, fe (ρ1.set i (.fz (u d))) = .ok (g d, ρ1.set i (.fz (u d)))) (hl : ds.length ≤ 16777216) :
    dComp fi (hName i) yesT fe [i] ρ = .ok (.ol (ds.map g), ρ1) := by
  have h := ev_comp1 (ft := yesT) (fe := fe) (fun _ => true) g h0 hb (fun _ _ => rfl) (fun d hd _ => he d hd) hl
  rw [List.filter_eq_self.mpr (by simp)] at h
  exact h
theorem rest2 {i j : Nat} (hij : i ≠ j) (hi : i < ρ.length) (hj : j < ρ.length) : restE ρ ((ρ.set j .no).set i .no) [i, j] = ρ := by
  apply List.ext_getElem?
  intro k
  rw [restE_get (by simp)]
  by_cases e : k = i
  · subst e; simp
  · by_cases e2 : k = j
    · subst e2; simp
    · simp [e, e2]
      rw [List.getElem?_set_ne (Ne.symm e), List.getElem?_set_ne (Ne.symm e2)]
def okEn (e : En) : Prop := e = .no ∨ ∃ d, e = .fz d
end
end Gx

/-! E33: loops by what holds behind the ones gone through; comprehensions over any target. -/
namespace Gx
open PySem PySem.Spec L2
open PyProof.Rows hiding St
section
variable {ρ ρ1 ρw : Ev}
theorem compG {ι : Type} {u : ι → PyData} {h : PyData → Ev → Option Ev} {ft : Dn Bool} {fe : Dn PyData} {vs : List Nat} {p : ι → Bool} {g : ι → PyData} {E1 : ι → Ev} (hh : ∀ d, h (u d) ρw = some (E1 d)) (hw2 : ∀ d, wipeE (E1 d) vs = ρw) : ∀ (ds : List ι) (acc : List PyData), (∀ d ∈ ds, ft (E1 d) = .ok (p d, E1 d)) → (∀ d ∈ ds, p d = true → fe (E1 d) = .ok (g d, E1 d)) → acc.length + ds.length ≤ 16777216 →
    compL h ft fe vs (ds.map u) acc ρw = .ok (acc ++ (ds.filter p).map g, ρw)
  | [], acc, _, _, _ => by simp [compL]
  | d :: ds, acc, ht, he, hl => by
    have t := ht d (by simp)
    simp only [List.length_cons] at hl
    rw [List.map_cons]
    unfold compL
    simp only [hh d, t]
    cases hp : p d with
    | true =>
      have e := he d (by simp) hp
      have ok : okLen (acc.length + 1) = true := decide_eq_true (by omega)
      simp only [e, ok, if_true, hw2 d]
      rw [compG hh hw2 ds (acc ++ [g d]) (fun x hx => ht x (by simp [hx])) (fun x hx => he x (by simp [hx])) (by simp; omega)]
      simp [hp]
    | false =>
      simp only [hw2 d]
      rw [compG hh hw2 ds acc (fun x hx => ht x (by simp [hx])) (fun x hx => he x (by simp [hx])) (by omega)]
      simp [hp]
theorem ev_compG {ι : Type} {u : ι → PyData} {h : PyData → Ev → Option Ev} {ft : Dn Bool} {fe : Dn PyData} {fi : Dn (List PyData)} {vs : List Nat} {ds : List ι} (p : ι → Bool) (g : ι → PyData) (E1 : ι → Ev) (h0 : fi ρ = .ok (ds.map u, ρ1)) (hv : (vs.all fun v => !isBl ρ1[v]?) = true) (hw : wipeE ρ1 vs = ρw)
    (hh : ∀ d, h (u d) ρw = some (E1 d)) (hw2 : ∀ d, wipeE (E1 d) vs = ρw) (hr : restE ρ1 ρw vs = ρ1) (ht : ∀ d ∈ ds, ft (E1 d) = .ok (p d, E1 d)) (he : ∀ d ∈ ds, p d = true → fe (E1 d) = .ok (g d, E1 d)) (hl : ds.length ≤ 16777216) : dComp fi h ft fe vs ρ = .ok (.ol ((ds.filter p).map g), ρ1) := by
  refine ev_bnd h0 ?_
  rw [if_pos hv, hw, compG hh hw2 ds [] ht he (by simpa using hl)]
  simp [hr]
theorem enum_rng {α : Type} (f : α → PyData) (z : α) : ∀ (xs : List α) (n : Nat), enumD n (xs.map f) = (List.range xs.length).map fun k => .tuple [.int ((n + k : Nat) : Int), f (xs.getD k z)]
  | [], n => rfl
  | x :: xs, n => by
    rw [List.map_cons, List.length_cons, List.range_succ_eq_map, List.map_cons, List.map_map]
    show PyData.tuple [.int (n : Nat), f x] :: enumD (n + 1) (xs.map f) = _
    rw [enum_rng f z xs (n + 1)]
    congr 1
    refine List.map_congr_left fun k _ => ?_
    show _ = PyData.tuple [.int ((n + (k + 1) : Nat) : Int), f ((x :: xs).getD (k + 1) z)]
    rw [show n + 1 + k = n + (k + 1) by omega]
    rfl
end
end Gx

/-! E34: a law whose script gives up to two boxes, each judged by itself. -/
namespace Gx
open PySem PySem.Spec L2
open PyProof.Rows hiding St
abbrev lawB2 (dh dc dr db : Den) : Dn Fl := sSeq (sIf (dNotT (dTru (frz (dFn0 dh)))) (sRet (ofD (dC (.bool false)))) sNx)
  (sSeq (sSet 1 (dFn dc (aLend 0 (aCons (ofD (dC (.int 2))) aNil))))
  (sRet (dCall allD (dCons (frz (dComp (iRg1 (dCons (dLenP 1) dNil)) (hName 2) yesT (frz (dFn dr (aCons (dFn db (aCons (ofD (dName 1)) (aCons (ofD (dName 2)) aNil))) aNil))) [2])) dNil))))
theorem fn0_ev {dh : Den} {r : Rv} {ρ : Ev} (h : Gv dh [] r) : dFn0 dh ρ = .ok (r, ρ) := by
  obtain ⟨es, h⟩ := h
  exact ev_fn (as := []) rfl rfl rfl h
theorem law2_ev {dh dc dr db : Den} {T : List PyData → Prop} (h1 : Gv dh [] (.fz (.bool true)))
    (h2 : ∀ ns : List Int, ns.length ≤ 63 → ∃ cs : List Int, (cs.length = 1 ∨ cs.length = 2) ∧ dc [.sc (.l ns), .fz (.int 2)] = .ok (.ol (cs.map .int), [.sc (.l ns), .fz (.int 2)]))
    (h3 : ∀ (cs : List Int) (k : Nat) (z : Int), cs[k]? = some z → k < 2 → cs.length ≤ 2 → ∃ t, T t ∧ Gv db [.fz (.list (cs.map .int)), .fz (.int k)] (.ol t))
    (h4 : ∀ t, T t → Gv dr [.bl t] (.fz (.bool true))) (ns : List Int) (hl : ns.length ≤ 63) : runF 1 3 (lawB2 dh dc dr db) [.sc (.l ns)] = .ok (.fz (.bool true), [.sc (.l ns)]) := by
  obtain ⟨cs, hc, hcells⟩ := h2 ns hl
  have s1 : (sIf (dNotT (dTru (frz (dFn0 dh)))) (sRet (ofD (dC (.bool false)))) sNx) [.sc (.l ns), .no, .no] = .ok (.nx, [.sc (.l ns), .no, .no]) :=
    ev_if (b := false) (ev_bnd (a := true) (ev_bnd (ev_frz (fn0_ev h1)) rfl) rfl) rfl
  have s2 : (sSet 1 (dFn dc (aLend 0 (aCons (ofD (dC (.int 2))) aNil)))) [.sc (.l ns), .no, .no] = .ok (.nx, [.sc (.l ns), .ol (cs.map .int), .no]) :=
    ev_set (ρ1 := [.sc (.l ns), .no, .no]) (r := .ol (cs.map .int)) (ev_fn (ev_lendS rfl (ev_aconsF (d := .int 2) rfl rfl)) rfl rfl hcells) rfl
  -- one turn
  have turn : ∀ (k : Nat) (e1 : En), k < cs.length → (e1 = .ol (cs.map .int) ∨ e1 = .fz (.list (cs.map .int))) →
      (frz (dFn dr (aCons (dFn db (aCons (ofD (dName 1)) (aCons (ofD (dName 2)) aNil))) aNil))) [.sc (.l ns), e1, .fz (.int k)] = .ok (.bool true, [.sc (.l ns), .fz (.list (cs.map .int)), .fz (.int k)]) := fun k e1 hk he => by
    have hz : cs[k]? = some cs[k] := List.getElem?_eq_getElem hk
    obtain ⟨t, ht, hb⟩ := h3 cs k cs[k] hz (by omega) (by omega)
    have n1 : (dName 1) [.sc (.l ns), e1, .fz (.int k)] = .ok (.list (cs.map .int), [.sc (.l ns), .fz (.list (cs.map .int)), .fz (.int k)]) := by
      rcases he with rfl | rfl <;> rfl
    have b1 : (dFn db (aCons (ofD (dName 1)) (aCons (ofD (dName 2)) aNil))) [.sc (.l ns), e1, .fz (.int k)] = .ok (.ol t, [.sc (.l ns), .fz (.list (cs.map .int)), .fz (.int k)]) :=
      gv_fn (as := [.fz (.list (cs.map .int)), .fz (.int k)]) (ev_aconsF (ev_ofD n1) (ev_aconsF (ev_ofD rfl) rfl)) rfl rfl hb
    exact ev_frz (r := .fz (.bool true)) (gv_fn (as := [.tp t]) (ev_aconsO b1 rfl) rfl rfl (h4 t ht))
  have fin : (frz (dComp (iRg1 (dCons (dLenP 1) dNil)) (hName 2) yesT (frz (dFn dr (aCons (dFn db (aCons (ofD (dName 1)) (aCons (ofD (dName 2)) aNil))) aNil))) [2])) [.sc (.l ns), .ol (cs.map .int), .no] = .ok (.list (List.replicate cs.length (.bool true)), [.sc (.l ns), .fz (.list (cs.map .int)), .no]) := by
    match cs, hc with
    | [a], _ =>
      have it : (iRg1 (dCons (dLenP 1) dNil)) [.sc (.l ns), .ol [.int a], .no] = .ok ([.int 0], [.sc (.l ns), .ol [.int a], .no]) := by kernel_rfl
      have t0 := turn 0 (.ol [.int a]) (by show 0 < 1; decide) (.inl rfl)
      refine ev_frz (r := .ol [.bool true]) (Eq.trans (ev_comp (ys := [.bool true]) (ρ2 := [.sc (.l ns), .fz (.list [.int a]), .no]) it rfl ?_) rfl)
      exact ev_ccons (ρ1 := [.sc (.l ns), .ol [.int a], .fz (.int 0)]) (ρ2 := [.sc (.l ns), .ol [.int a], .fz (.int 0)]) (ρ3 := [.sc (.l ns), .fz (.list [.int a]), .fz (.int 0)]) rfl rfl t0 (by decide) rfl
    | [a, b], _ =>
      have it : (iRg1 (dCons (dLenP 1) dNil)) [.sc (.l ns), .ol [.int a, .int b], .no] = .ok ([.int 0, .int 1], [.sc (.l ns), .ol [.int a, .int b], .no]) := by kernel_rfl
      have t0 := turn 0 (.ol [.int a, .int b]) (by show 0 < 2; decide) (.inl rfl)
      have t1 := turn 1 (.fz (.list [.int a, .int b])) (by show 1 < 2; decide) (.inr rfl)
      refine ev_frz (r := .ol [.bool true, .bool true]) (Eq.trans (ev_comp (ys := [.bool true, .bool true]) (ρ2 := [.sc (.l ns), .fz (.list [.int a, .int b]), .no]) it rfl ?_) rfl)
      refine ev_ccons (ρ1 := [.sc (.l ns), .ol [.int a, .int b], .fz (.int 0)]) (ρ2 := [.sc (.l ns), .ol [.int a, .int b], .fz (.int 0)]) (ρ3 := [.sc (.l ns), .fz (.list [.int a, .int b]), .fz (.int 0)]) rfl rfl t0 (by decide) ?_
      exact ev_ccons (ρ1 := [.sc (.l ns), .fz (.list [.int a, .int b]), .fz (.int 1)]) (ρ2 := [.sc (.l ns), .fz (.list [.int a, .int b]), .fz (.int 1)]) (ρ3 := [.sc (.l ns), .fz (.list [.int a, .int b]), .fz (.int 1)]) rfl rfl t1 (by decide) rfl
  have al : (dCall allD (dCons (frz (dComp (iRg1 (dCons (dLenP 1) dNil)) (hName 2) yesT (frz (dFn dr (aCons (dFn db (aCons (ofD (dName 1)) (aCons (ofD (dName 2)) aNil))) aNil))) [2])) dNil)) [.sc (.l ns), .ol (cs.map .int), .no] = .ok (.fz (.bool true), [.sc (.l ns), .fz (.list (cs.map .int)), .no]) := by
    refine ev_call (ev_cons fin ev_nil) ?_
    rcases hc with e | e <;> rw [e] <;> rfl
  exact Eq.trans (ev_run (n := 1) (N := 3) (as := [.sc (.l ns)]) (ev_seq s1 (ev_seq s2 (ev_ret al)))) rfl
end Gx

set_option maxHeartbeats 1000000
/-! G27: zip of three tuples. -/
namespace Gx
open PySem
abbrev Tri (h : Heap) (T : Addr) (a b c : Value) : Prop := h.get? T = some { cls := .type "tuple", data := .seq #[a, b, c] }
structure Ap3 (z TI TO i j k l m n : Addr) : Prop where
  a1 : TI ≠ z
  a2 : TO ≠ z
  a3 : i ≠ z ∧ j ≠ z ∧ k ≠ z
  a4 : TI ≠ TO
  a5 : TI ≠ i ∧ TI ≠ j ∧ TI ≠ k
  a6 : TO ≠ i ∧ TO ≠ j ∧ TO ≠ k
  a7 : i ≠ j ∧ i ≠ k ∧ j ≠ k
  a8 : l ≠ z ∧ m ≠ z ∧ n ≠ z
  a9 : l ≠ TO ∧ m ≠ TO ∧ n ≠ TO
  b1 : l ≠ i ∧ l ≠ j ∧ l ≠ k
  b2 : m ≠ i ∧ m ≠ j ∧ m ≠ k
  b3 : n ≠ i ∧ n ≠ j ∧ n ≠ k
section
variable {prog : Program} {w : World} {A : Around} {E : Value → Shared → Prop} {s : Shared}
variable {z TI TO i j k l m n : Addr} {p q r : Nat} {xs ys zs : Array Value} {x y v a b c : Value}
def Kept (h h' : Heap) (z TO i j k : Addr) : Prop := ∀ e o, e ≠ z → e ≠ TO → e ≠ i → e ≠ j → e ≠ k → h.get? e = some o → h'.get? e = some o
/-! ### the zip itself -/
abbrev tit (l : Addr) : Obj := { cls := .type "tuple_iterator", data := .fields #[.ref l, .int 0 0] }
abbrev y1 (h : Heap) (l : Addr) : Heap := h.push (tit l)
abbrev y2 (h : Heap) (l m : Addr) : Heap := (y1 h l).push (tit m)
abbrev y3 (h : Heap) (l m n : Addr) : Heap := (y2 h l m).push (tit n)
abbrev y4 (h : Heap) (l m n : Addr) : Heap := (y3 h l m n).push { cls := .type "tuple", data := .seq #[.ref h.objs.size, .ref (y1 h l).objs.size, .ref (y2 h l m).objs.size] }
abbrev y5 (h : Heap) (l m n : Addr) : Heap := (y4 h l m n).push { cls := .type "tuple", data := .seq #[.none, .none, .none] }
abbrev y6 (h : Heap) (l m n : Addr) : Heap := (y5 h l m n).push { cls := .type "zip", data := .fields #[.none, .bool false, .bool false, .ref (y3 h l m n).objs.size, .ref (y4 h l m n).objs.size] }
end
end Gx

set_option maxHeartbeats 1000000
/-! G28: zip of three tuples, as a way over data. -/
namespace Gx
open PySem
section
variable {prog : Program} {w : World} {A : Around} {E : Value → Shared → Prop} {s : Shared}
end
end Gx

set_option maxHeartbeats 1000000
/-! G29: zip of three tuples in a loop or a comprehension. -/
namespace Gx
open PySem PySem.Spec PyProof.Rows L2
def It3 (K : PySem.W.Frag) (l m n : Addr) : It where
  go i H := ∃ (xs ys zs : List V) (x y v : V), (SqT K H l xs ∧ SqT K H m ys ∧ SqT K H n zs) ∧ xs[i]? = some x ∧ ys[i]? = some y ∧ zs[i]? = some v
  yld i H u H' := ∃ T x y v, u = .ref T ∧ H T = none ∧ H' = upd H T (.tup [x, y, v]) ∧ (∀ xs, SqT K H l xs → xs[i]? = some x) ∧ (∀ ys, SqT K H m ys → ys[i]? = some y) ∧ ∀ zs, SqT K H n zs → zs[i]? = some v
  stop i H := ∃ xs ys zs : List V, (SqT K H l xs ∧ SqT K H m ys ∧ SqT K H n zs) ∧ (xs.length ≤ i ∨ ys.length ≤ i ∨ zs.length ≤ i)
def iZip3 (K : PySem.W.Frag) (ta : L2.TA) : L2.TI := fun σ H R => ta σ H fun vs H1 => ∃ l m n xs ys zs, vs = [.ref l, .ref m, .ref n] ∧ (SqT K H1 l xs ∧ SqT K H1 m ys ∧ SqT K H1 n zs) ∧ R (It3 K l m n) H1
end Gx

/-! G30: zip of three tuples, over data. -/
namespace Gx
open PySem PySem.Spec L2
open PyProof.Rows hiding St
def zip3D : List PyData → List PyData → List PyData → List PyData
  | x :: xs, y :: ys, v :: zs => .tuple [x, y, v] :: zip3D xs ys zs
  | _, _, _ => []
def zip3Of : List PyData → Option (List PyData)
  | [.tuple xs, .tuple ys, .tuple zs] => some (zip3D xs ys zs)
  | _ => none
def iZ3 (f : Dn (List PyData)) : Dn (List PyData) := bnd f fun ds => lft (zip3Of ds)
section
variable {X : Cx} {E : XK} {pos : Pos}
end
end Gx

/-! S1: denotations walked by rewriting. -/
namespace Gx
open PySem PySem.Spec L2
open PyProof.Rows hiding St
def bndR {α β : Type} (m : Rs (α × Ev)) (g : α → Dn β) : Rs (β × Ev) := match m with
  | .st => .st
  | .ex e => .ex e
  | .ok (a, ρ) => g a ρ
def seqR (m : Rs (Fl × Ev)) (g : Dn Fl) : Rs (Fl × Ev) := match m with
  | .st => .st
  | .ex e => .ex e
  | .ok (.nx, ρ) => g ρ
  | .ok (fl, ρ) => .ok (fl, ρ)
def callR (m : Rs (List PyData × Ev)) (g : List PyData → Option Rv) : Rs (Rv × Ev) := match m with
  | .st => .st
  | .ex e => .ex e
  | .ok (a, ρ) => lft (g a) ρ
def binR (m : Rs (PyData × Ev)) (g : PyData → PyData → Option Rv) (f : Dn PyData) : Rs (Rv × Ev) := match m with
  | .st => .st
  | .ex e => .ex e
  | .ok (a, ρ) => bndR (f ρ) fun b => lft (g a b)
def boolR (m : Rs (Rv × Ev)) : Rs (Bool × Ev) := match m with
  | .st => .st
  | .ex e => .ex e
  | .ok (.fz (.bool b), ρ) => .ok (b, ρ)
  | .ok (_, _) => .st
def truR (m : Rs (PyData × Ev)) : Rs (Bool × Ev) := match m with
  | .st => .st
  | .ex e => .ex e
  | .ok (a, ρ) => lft (truth a) ρ
def iteR {α : Type} (m : Rs (Bool × Ev)) (f g : Dn α) : Rs (α × Ev) := match m with
  | .st => .st
  | .ex e => .ex e
  | .ok (b, ρ) => bif b then f ρ else g ρ
def retR (ρ : Ev) (o : Option (Nat × Nat)) (ex : Bool) (m : Rs (Rv × List En)) : Rs (Rv × Ev) := match m with
  | .st => .st
  | .ex e => if ex then .st else .ex e
  | .ok (r, es) => .ok (r, putBack ρ es o)
def frzR (m : Rs (Rv × Ev)) : Rs (PyData × Ev) := match m with
  | .st => .st
  | .ex e => .ex e
  | .ok (r, ρ) => .ok (r.d, ρ)
def ofR (m : Rs (PyData × Ev)) : Rs (Rv × Ev) := match m with
  | .st => .st
  | .ex e => .ex e
  | .ok (r, ρ) => .ok (.fz r, ρ)
def rtR (m : Rs (Rv × Ev)) : Rs (Fl × Ev) := match m with
  | .st => .st
  | .ex e => .ex e
  | .ok (r, ρ) => .ok (.rt r, ρ)
def peekR (m : Rs (PyData × Ev)) (i : Nat) : Rs (PyData × Ev) := match m with
  | .st => .st
  | .ex e => .ex e
  | .ok (k, ρ) => match itemE ρ[i]? k with
    | some d => .ok (d, ρ)
    | none => .st
def consK (d : PyData) (m : Rs (List PyData × Ev)) : Rs (List PyData × Ev) := match m with
  | .st => .st
  | .ex e => .ex e
  | .ok (ds, ρ2) => .ok (d :: ds, ρ2)
def consR (m : Rs (PyData × Ev)) (g : Dn (List PyData)) : Rs (List PyData × Ev) := match m with
  | .st => .st
  | .ex e => .ex e
  | .ok (d, ρ) => consK d (g ρ)
def arOf : Rv → Ar
  | .fz d => .fz d
  | .oo xs => .tq xs
def aconsK (a : Ar) (m : Rs (List Ar × Ev)) : Rs (List Ar × Ev) := match m with
  | .st => .st
  | .ex e => .ex e
  | .ok (as, ρ2) => .ok (a :: as, ρ2)
def aconsR (m : Rs (Rv × Ev)) (g : Dn (List Ar)) : Rs (List Ar × Ev) := match m with
  | .st => .st
  | .ex e => .ex e
  | .ok (r, ρ) => aconsK (arOf r) (g ρ)
section
variable {α β : Type} {ρ : Ev} {e : Ex}
theorem dn_bnd (f : Dn α) (g : α → Dn β) : bnd f g ρ = bndR (f ρ) g := by unfold bnd bndR; cases f ρ with | ok p => rfl | _ => rfl
theorem bndR_ok (a : α) (g : α → Dn β) : bndR (.ok (a, ρ)) g = g a ρ := (rfl)
theorem bndR_ex (g : α → Dn β) : bndR (.ex e) g = .ex e := (rfl)
theorem dn_lft (a : α) : lft (some a) ρ = .ok (a, ρ) := (rfl)
theorem dn_ret (a : α) : ret a ρ = .ok (a, ρ) := (rfl)
theorem dn_dC (d : PyData) : dC d ρ = .ok (d, ρ) := (rfl)
theorem dn_seq (f g : Dn Fl) : sSeq f g ρ = seqR (f ρ) g := by
  show bnd f _ ρ = _
  unfold bnd seqR
  cases f ρ with
  | ok p => obtain ⟨fl, r⟩ := p; cases fl <;> rfl
  | _ => rfl
theorem seqR_nx (g : Dn Fl) : seqR (.ok (.nx, ρ)) g = g ρ := (rfl)
theorem seqR_rt (g : Dn Fl) (v : Rv) : seqR (.ok (.rt v, ρ)) g = .ok (.rt v, ρ) := (rfl)
theorem seqR_bk (g : Dn Fl) : seqR (.ok (.bk, ρ)) g = .ok (.bk, ρ) := (rfl)
theorem seqR_ct (g : Dn Fl) : seqR (.ok (.ct, ρ)) g = .ok (.ct, ρ) := (rfl)
theorem seqR_ex (g : Dn Fl) : seqR (.ex e) g = .ex e := (rfl)
theorem dn_nx : sNx ρ = .ok (.nx, ρ) := (rfl)
theorem dn_call (g : List PyData → Option Rv) (f : Dn (List PyData)) : dCall g f ρ = callR (f ρ) g := by show bnd f _ ρ = _; unfold bnd callR; cases f ρ with | ok p => rfl | _ => rfl
theorem callR_ok (g : List PyData → Option Rv) (xs : List PyData) : callR (.ok (xs, ρ)) g = lft (g xs) ρ := (rfl)
theorem dn_bin (g : PyData → PyData → Option Rv) (fa fb : Dn PyData) : dBin g fa fb ρ = binR (fa ρ) g fb := by
  show bnd fa _ ρ = _
  unfold bnd binR
  cases fa ρ with
  | ok p => exact dn_bnd _ _
  | _ => rfl
theorem binR_ok (g : PyData → PyData → Option Rv) (f : Dn PyData) (a : PyData) : binR (.ok (a, ρ)) g f = bndR (f ρ) fun b => lft (g a b) := (rfl)
theorem dn_cmpT (g : PyData → PyData → Option Rv) (fa fb : Dn PyData) : dCmpT g fa fb ρ = boolR (dBin g fa fb ρ) := by
  show bnd _ _ ρ = _
  unfold bnd boolR
  cases dBin g fa fb ρ with
  | ok p =>
    obtain ⟨r, ρ'⟩ := p
    cases r with
    | fz d => cases d <;> rfl
    | oo xs => cases xs <;> rfl
  | _ => rfl
theorem boolR_ok (b : Bool) : boolR (.ok (.fz (.bool b), ρ)) = .ok (b, ρ) := (rfl)
theorem dn_tru (f : Dn PyData) : dTru f ρ = truR (f ρ) := by show bnd f _ ρ = _; unfold bnd truR; cases f ρ with | ok p => rfl | _ => rfl
theorem truR_b (b : Bool) : truR (.ok (.bool b, ρ)) = .ok (b, ρ) := (rfl)
theorem truR_i (n : Int) : truR (.ok (.int n, ρ)) = .ok (n != 0, ρ) := (rfl)
theorem truR_n : truR (.ok (.none, ρ)) = .ok (false, ρ) := (rfl)
theorem truR_l (xs : List PyData) : truR (.ok (.list xs, ρ)) = .ok (!xs.isEmpty, ρ) := (rfl)
theorem truR_t (xs : List PyData) : truR (.ok (.tuple xs, ρ)) = .ok (!xs.isEmpty, ρ) := (rfl)
theorem dn_notT (f : Dn Bool) : dNotT f ρ = bndR (f ρ) fun b => ret (!b) := dn_bnd _ _
theorem dn_not (f : Dn PyData) : dNot f ρ = bndR (truR (f ρ)) fun b => ret (.bool (!b)) := by
  show bnd f _ ρ = _
  unfold bnd truR
  cases f ρ with
  | ok p => exact dn_bnd _ _
  | _ => rfl
theorem dn_andT (f g : Dn Bool) : dAndT f g ρ = iteR (f ρ) g (ret false) := by
  show bnd f _ ρ = _
  unfold bnd iteR
  cases f ρ with
  | ok p => obtain ⟨b, r⟩ := p; cases b <;> rfl
  | _ => rfl
theorem dn_orT (f g : Dn Bool) : dOrT f g ρ = iteR (f ρ) (ret true) g := by
  show bnd f _ ρ = _
  unfold bnd iteR
  cases f ρ with
  | ok p => obtain ⟨b, r⟩ := p; cases b <;> rfl
  | _ => rfl
theorem iteR_t (f g : Dn α) : iteR (.ok (true, ρ)) f g = f ρ := (rfl)
theorem iteR_f (f g : Dn α) : iteR (.ok (false, ρ)) f g = g ρ := (rfl)
theorem dn_sIf (c : Dn Bool) (f g : Dn Fl) : sIf c f g ρ = iteR (c ρ) f g := by
  show bnd c _ ρ = _
  unfold bnd iteR
  cases c ρ with
  | ok p => obtain ⟨b, r⟩ := p; cases b <;> rfl
  | _ => rfl
theorem dn_dIf (c : Dn Bool) (f g : Dn α) : dIf c f g ρ = iteR (c ρ) f g := by
  show bnd c _ ρ = _
  unfold bnd iteR
  cases c ρ with
  | ok p => obtain ⟨b, r⟩ := p; cases b <;> rfl
  | _ => rfl
def andR (m : Rs (PyData × Ev)) (g : Dn PyData) : Rs (PyData × Ev) := bndR m fun x => bnd (lft (truth x)) fun b => if b then g else ret x
def orR (m : Rs (PyData × Ev)) (g : Dn PyData) : Rs (PyData × Ev) := bndR m fun x => bnd (lft (truth x)) fun b => if b then ret x else g
theorem dn_and (f g : Dn PyData) : dAnd f g ρ = andR (f ρ) g := dn_bnd _ _
theorem dn_orD (f g : Dn PyData) : dOrD f g ρ = orR (f ρ) g := dn_bnd _ _
theorem andR_b (b : Bool) (g : Dn PyData) : andR (.ok (.bool b, ρ)) g = bif b then g ρ else .ok (.bool false, ρ) := by cases b <;> rfl
theorem orR_b (b : Bool) (g : Dn PyData) : orR (.ok (.bool b, ρ)) g = bif b then .ok (.bool true, ρ) else g ρ := by cases b <;> rfl
theorem dn_sRet (f : Dn Rv) : sRet f ρ = rtR (f ρ) := by show bnd f _ ρ = _; unfold bnd rtR; cases f ρ with | ok p => rfl | _ => rfl
theorem rtR_ok (r : Rv) : rtR (.ok (r, ρ)) = .ok (.rt r, ρ) := (rfl)
theorem dn_sDrop (f : Dn PyData) : sDrop f ρ = bndR (f ρ) fun _ => ret .nx := dn_bnd _ _
theorem dn_frz (f : Dn Rv) : frz f ρ = frzR (f ρ) := by show bnd f _ ρ = _; unfold bnd frzR; cases f ρ with | ok p => rfl | _ => rfl
theorem frzR_fz (d : PyData) : frzR (.ok (.fz d, ρ)) = .ok (d, ρ) := (rfl)
theorem frzR_ol (xs : List PyData) : frzR (.ok (.ol xs, ρ)) = .ok (.list xs, ρ) := (rfl)
theorem dn_ofD (f : Dn PyData) : ofD f ρ = ofR (f ρ) := by show bnd f _ ρ = _; unfold bnd ofR; cases f ρ with | ok p => rfl | _ => rfl
theorem ofR_ok (d : PyData) : ofR (.ok (d, ρ)) = .ok (.fz d, ρ) := (rfl)
theorem ofR_ex : ofR (.ex e) = .ex e := (rfl)
theorem frzR_ex : frzR (.ex e) = .ex e := (rfl)
theorem rtR_ex : rtR (.ex e) = .ex e := (rfl)
theorem dn_sSet (i : Nat) (f : Dn Rv) : sSet i f ρ = bndR (f ρ) (put i) := dn_bnd _ _
def ifB {α : Type} (b : Bool) (x y : α) : α := bif b then x else y
theorem ifB_t (x y : α) : ifB true x y = x := (rfl)
theorem ifB_f (x y : α) : ifB false x y = y := (rfl)
theorem dn_put (i : Nat) (r : Rv) : put i r ρ = ifB (isBl ρ[i]?) .st (.ok (.nx, ρ.set i r.en)) := by
  unfold put ifB
  cases isBl ρ[i]? <;> rfl
theorem rven_fz (d : PyData) : (Rv.fz d).en = .fz d := (rfl)
theorem rven_ol (xs : List PyData) : (Rv.ol xs).en = .ol xs := (rfl)
theorem isBl_no : isBl (some .no) = false := (rfl)
theorem isBl_fz (d : PyData) : isBl (some (.fz d)) = false := (rfl)
theorem isBl_ol (xs : List PyData) : isBl (some (.ol xs)) = false := (rfl)
def ow : Option Rv → En
  | none => .no
  | some r => r.en
theorem isBl_ow (o : Option Rv) : isBl (some (ow o)) = false := by cases o with | none => rfl | some r => cases r <;> rfl
def nameR (o : Option En) (i : Nat) (ρ : Ev) : Rs (PyData × Ev) := match o with
  | some (.fz d) => .ok (d, ρ)
  | some (.oo (.l xs)) => .ok (.list xs, ρ.set i (.fz (.list xs)))
  | some (.oo (.d ps)) => .ok (dicD ps, ρ.set i (.fz (dicD ps)))
  | some (.oo (.k ps)) => .ok (dikD ps, ρ.set i (.fz (dikD ps)))
  | _ => .st
theorem dn_name (i : Nat) : dName i ρ = nameR ρ[i]? i ρ := (rfl)
theorem nameR_fz (i : Nat) (d : PyData) : nameR (some (.fz d)) i ρ = .ok (d, ρ) := (rfl)
theorem nameR_ol (i : Nat) (xs : List PyData) : nameR (some (.ol xs)) i ρ = .ok (.list xs, ρ.set i (.fz (.list xs))) := (rfl)
def moveR (o : Option En) (i : Nat) (ρ : Ev) : Rs (Rv × Ev) := match o with
  | some (.fz d) => .ok (.fz d, ρ)
  | some (.oo xs) => .ok (.oo xs, ρ.set i .no)
  | _ => .st
theorem dn_move (i : Nat) : dMove i ρ = moveR ρ[i]? i ρ := (rfl)
theorem moveR_fz (i : Nat) (d : PyData) : moveR (some (.fz d)) i ρ = .ok (.fz d, ρ) := (rfl)
theorem moveR_ol (i : Nat) (xs : List PyData) : moveR (some (.ol xs)) i ρ = .ok (.ol xs, ρ.set i .no) := (rfl)
def lenR (o : Option (List PyData)) (ρ : Ev) : Rs (PyData × Ev) := match o with
  | some xs => .ok (.int xs.length, ρ)
  | none => .st
theorem dn_lenP (i : Nat) : dLenP i ρ = lenR (seqE ρ[i]?) ρ := (rfl)
theorem lenR_some (xs : List PyData) : lenR (some xs) ρ = .ok (.int xs.length, ρ) := (rfl)
theorem dn_peek (i : Nat) (f : Dn PyData) : dPeek i f ρ = ifB (seqE ρ[i]?).isSome (peekR (f ρ) i) .st := by
  unfold dPeek ifB
  cases (seqE ρ[i]?).isSome with
  | false => rfl
  | true =>
    show bnd f _ ρ = peekR (f ρ) i
    unfold bnd peekR
    cases f ρ with | ok p => rfl | _ => rfl
def itemR (o : Option PyData) (ρ : Ev) : Rs (PyData × Ev) := match o with
  | some d => .ok (d, ρ)
  | none => .st
theorem peekR_ok (k : PyData) (i : Nat) : peekR (.ok (k, ρ)) i = itemR (itemE ρ[i]? k) ρ := by unfold peekR itemR; rfl
theorem itemR_some (d : PyData) : itemR (some d) ρ = .ok (d, ρ) := (rfl)
theorem seqE_ol (xs : List PyData) : seqE (some (.ol xs)) = some xs := (rfl)
theorem seqE_bl (xs : List PyData) : seqE (some (.bl xs)) = some xs := (rfl)
theorem seqE_t (xs : List PyData) : seqE (some (.fz (.tuple xs))) = some xs := (rfl)
theorem seqE_l (xs : List PyData) : seqE (some (.fz (.list xs))) = some xs := (rfl)
theorem seqE_sl (ns : List Int) : seqE (some (.sc (.l ns))) = some (ns.map .int) := (rfl)
theorem seqE_st (ns : List Int) : seqE (some (.sc (.t ns))) = some (ns.map .int) := (rfl)
def itmR (o : Option (List PyData)) (k : PyData) : Option PyData := match o, k with
  | some xs, .int n => atI xs n
  | _, _ => none
theorem dn_item (o : Option En) (k : PyData) : itemE o k = itmR (seqE o) k := (rfl)
theorem itmR_at (xs : List PyData) (n : Int) : itmR (some xs) (.int n) = atI xs n := (rfl)
theorem dn_nil : dNil ρ = .ok ([], ρ) := (rfl)
theorem dn_cons (f : Dn PyData) (g : Dn (List PyData)) : dCons f g ρ = consR (f ρ) g := by
  show bnd f _ ρ = _
  unfold bnd consR
  cases f ρ with
  | ok p =>
    show bnd g _ p.2 = consK p.1 (g p.2)
    unfold bnd consK
    cases g p.2 with | ok q => rfl | _ => rfl
  | _ => rfl
theorem consR_ok (d : PyData) (g : Dn (List PyData)) : consR (.ok (d, ρ)) g = consK d (g ρ) := (rfl)
theorem consK_ok (d : PyData) (ds : List PyData) : consK d (.ok (ds, ρ)) = .ok (d :: ds, ρ) := (rfl)
theorem dn_tup (f : Dn (List PyData)) : dTup f ρ = bndR (f ρ) fun ds => if okLen ds.length then ret (.tuple ds) else lft none := dn_bnd _ _
theorem dn_lst (f : Dn (List PyData)) : dLst f ρ = bndR (f ρ) fun ds => if okLen ds.length then ret (.ol ds) else lft none := dn_bnd _ _
theorem okLen_dn {n : Nat} (h : n ≤ 16777216) : okLen n = true := decide_eq_true h
theorem dn_un (g : PyData → Option PyData) (f : Dn PyData) : dUn g f ρ = bndR (f ρ) fun x => lft (g x) := dn_bnd _ _
theorem dn_anil : aNil ρ = .ok ([], ρ) := (rfl)
theorem dn_acons (f : Dn Rv) (g : Dn (List Ar)) : aCons f g ρ = aconsR (f ρ) g := by
  show bnd f _ ρ = _
  unfold bnd aconsR
  cases f ρ with
  | ok p =>
    show bnd g _ p.2 = aconsK (arOf p.1) (g p.2)
    unfold bnd aconsK
    cases g p.2 with
    | ok q => obtain ⟨r, _⟩ := p; cases r <;> rfl
    | _ => rfl
  | _ => rfl
theorem aconsR_fz (d : PyData) (g : Dn (List Ar)) : aconsR (.ok (.fz d, ρ)) g = aconsK (.fz d) (g ρ) := (rfl)
theorem aconsR_ol (xs : List PyData) (g : Dn (List Ar)) : aconsR (.ok (.ol xs, ρ)) g = aconsK (.tp xs) (g ρ) := (rfl)
theorem aconsK_ok (a : Ar) (as : List Ar) : aconsK a (.ok (as, ρ)) = .ok (a :: as, ρ) := (rfl)
def lendR (o : Option En) (i : Nat) (g : Dn (List Ar)) (ρ : Ev) : Rs (List Ar × Ev) := match o with
  | some (.oo _) => aconsK (.sl i) (g ρ)
  | some (.bo _) => aconsK (.sl i) (g ρ)
  | some (.sc ns) => aconsK (.sc ns) (g ρ)
  | _ => .st
theorem bnd_acons (a : Ar) (g : Dn (List Ar)) : bnd g (fun as => ret (a :: as)) ρ = aconsK a (g ρ) := by
  unfold bnd aconsK
  cases g ρ with | ok p => rfl | _ => rfl
theorem dn_alend (i : Nat) (g : Dn (List Ar)) : aLend i g ρ = lendR ρ[i]? i g ρ := by
  unfold aLend lendR
  cases ρ[i]? with
  | none => rfl
  | some e => cases e with | oo xs => exact bnd_acons _ _ | bo xs => exact bnd_acons _ _ | sc ns => exact bnd_acons _ _ | _ => rfl
theorem lendR_ol (xs : List PyData) (i : Nat) (g : Dn (List Ar)) : lendR (some (.ol xs)) i g ρ = aconsK (.sl i) (g ρ) := (rfl)
theorem lendR_bl (xs : List PyData) (i : Nat) (g : Dn (List Ar)) : lendR (some (.bl xs)) i g ρ = aconsK (.sl i) (g ρ) := (rfl)
theorem lendR_sc (ns : Sc) (i : Nat) (g : Dn (List Ar)) : lendR (some (.sc ns)) i g ρ = aconsK (.sc ns) (g ρ) := (rfl)
def lentB : Option (Option (Nat × Nat)) → Option (Option (Nat × Nat))
  | some none => some none
  | some (some (k, i)) => some (some (k + 1, i))
  | none => none
theorem lent_nil : lent [] = some none := (rfl)
theorem lent_fz (d : PyData) (as : List Ar) : lent (.fz d :: as) = lentB (lent as) := by
  show (match lent as with | some none => some none | some (some (k, i)) => some (some (k + 1, i)) | none => none) = _
  unfold lentB
  cases lent as with | none => rfl | some o => cases o <;> rfl
theorem lent_tp (d : List PyData) (as : List Ar) : lent (.tp d :: as) = lentB (lent as) := by
  show (match lent as with | some none => some none | some (some (k, i)) => some (some (k + 1, i)) | none => none) = _
  unfold lentB
  cases lent as with | none => rfl | some o => cases o <;> rfl
theorem lent_sc (d : Sc) (as : List Ar) : lent (.sc d :: as) = lentB (lent as) := by
  show (match lent as with | some none => some none | some (some (k, i)) => some (some (k + 1, i)) | none => none) = _
  unfold lentB
  cases lent as with | none => rfl | some o => cases o <;> rfl
def lentS (i : Nat) : Option (Option (Nat × Nat)) → Option (Option (Nat × Nat))
  | some none => some (some (0, i))
  | _ => none
theorem lent_sl (i : Nat) (as : List Ar) : lent (.sl i :: as) = lentS i (lent as) := by
  show (match lent as with | some none => some (some (0, i)) | _ => none) = _
  unfold lentS
  cases lent as with | none => rfl | some o => cases o <;> rfl
theorem lentS_n (i : Nat) : lentS i (some none) = some (some (0, i)) := (rfl)
theorem lentB_n : lentB (some none) = some none := (rfl)
theorem lentB_s (k i : Nat) : lentB (some (some (k, i))) = some (some (k + 1, i)) := (rfl)
theorem dn_fn (den : Den) (f : Dn (List Ar)) : dFn den f ρ = bndR (f ρ) (apply den) := dn_bnd _ _
def applyR (o : Option (Option (Nat × Nat))) (den : Den) (as : List Ar) (ρ : Ev) : Rs (Rv × Ev) := match o with
  | none => .st
  | some o => match den (as.map (Ar.en ρ)) with
    | .st => .st
    | .ex e => if as.any Ar.isTp then .st else .ex e
    | .ok (r, es) => .ok (r, putBack ρ es o)
theorem dn_apply (den : Den) (as : List Ar) : apply den as ρ = applyR (lent as) den as ρ := (rfl)
theorem applyR_some (den : Den) (as : List Ar) (o : Option (Nat × Nat)) : applyR (some o) den as ρ = retR ρ o (as.any Ar.isTp) (den (as.map (Ar.en ρ))) := by
  cases e : den (as.map (Ar.en ρ)) <;> simp [applyR, retR, e]
theorem ar_fz (d : PyData) : Ar.en ρ (.fz d) = .fz d := (rfl)
theorem ar_tp (d : List PyData) : Ar.en ρ (.tp d) = .bl d := (rfl)
theorem ar_sc (d : Sc) : Ar.en ρ (.sc d) = .sc d := (rfl)
theorem ar_sl (i : Nat) : Ar.en ρ (.sl i) = enSl ρ[i]? := (rfl)
theorem dn_enSl_ol (xs : List PyData) : enSl (some (.ol xs)) = .bl xs := (rfl)
theorem dn_enSl_bl (xs : List PyData) : enSl (some (.bl xs)) = .bl xs := (rfl)
theorem retR_ok (r : Rv) (es : List En) (ex : Bool) : retR ρ none ex (.ok (r, es)) = .ok (r, ρ) := (rfl)
theorem retR_gv {den : Den} {as : List En} {r : Rv} (h : Gv den as r) (ex : Bool) : retR ρ none ex (den as) = .ok (r, ρ) := by obtain ⟨es, h⟩ := h; rw [h]; rfl
def putR (ρ : Ev) (i : Nat) (o q : Option En) : Ev := match o, q with
  | some (.bo ys), q => ρ.set i (reKindC q ys)
  | _, _ => ρ
theorem retR_sl (r : Rv) (k i : Nat) (es : List En) (ex : Bool) : retR ρ (some (k, i)) ex (.ok (r, es)) = .ok (r, putR ρ i es[k]? ρ[i]?) := by
  show Rs.ok (r, putAt ρ i es[k]?) = _
  unfold putAt putR
  cases es[k]? with | none => rfl | some e => cases e <;> rfl
theorem putR_ol (i : Nat) (xs ys : List PyData) : putR ρ i (some (.bl ys)) (some (.ol xs)) = ρ.set i (.ol ys) := (rfl)
theorem putR_bl (i : Nat) (xs ys : List PyData) : putR ρ i (some (.bl ys)) (some (.bl xs)) = ρ.set i (.bl ys) := (rfl)
def compR (ds : List PyData) (F : PyData → Option (Option PyData)) : Option (List PyData) := match ds with
  | [] => some []
  | d :: ds => match F d with
    | none => none
    | some none => compR ds F
    | some (some y) => (compR ds F).map fun ys => y :: ys
def sFor' (ds : List PyData) (h : PyData → Ev → Option Ev) (fb : Dn Fl) : Dn Fl := loopF h fb ds
theorem dn_sFor (fi : Dn (List PyData)) (h : PyData → Ev → Option Ev) (fb : Dn Fl) : sFor fi h fb ρ = bndR (fi ρ) fun ds => loopF h fb ds := dn_bnd _ _
theorem dn_iSeq (f : Dn PyData) : iSeq f ρ = bndR (f ρ) fun d => lft (seqOf d) := dn_bnd _ _
theorem seqOf_l (xs : List PyData) : seqOf (.list xs) = some xs := (rfl)
theorem seqOf_t (xs : List PyData) : seqOf (.tuple xs) = some xs := (rfl)
theorem dn_iRg1 (f : Dn (List PyData)) : iRg1 f ρ = bndR (f ρ) fun d => lft (rg1 d) := dn_bnd _ _
theorem dn_iRg2 (f : Dn (List PyData)) : iRg2 f ρ = bndR (f ρ) fun d => lft (rg2 d) := dn_bnd _ _
theorem dn_iZp (f : Dn (List PyData)) : iZp f ρ = bndR (f ρ) fun d => lft (zipOf d) := dn_bnd _ _
theorem dn_iZ3 (f : Dn (List PyData)) : iZ3 f ρ = bndR (f ρ) fun d => lft (zip3Of d) := dn_bnd _ _
theorem dn_iEnB (f : Dn (List PyData)) : iEnB f ρ = bndR (f ρ) fun d => lft (enumOfB d) := dn_bnd _ _
def appR (m : Rs (PyData × Ev)) (i : Nat) : Rs (Fl × Ev) := match m with
  | .st => .st
  | .ex e => .ex e
  | .ok (d, ρ) => sUpd i (appD d) ρ
theorem dn_sApp (i : Nat) (f : Dn PyData) : sApp i f ρ = ifB (ownOf ρ[i]?).isSome (appR (f ρ) i) .st := by
  unfold sApp ifB
  cases (ownOf ρ[i]?).isSome with
  | false => rfl
  | true =>
    show bnd f _ ρ = appR (f ρ) i
    unfold bnd appR
    cases f ρ with | ok p => rfl | _ => rfl
theorem ownOf_ol (xs : List PyData) : ownOf (some (.ol xs)) = some xs := (rfl)
theorem ownOf_bl (xs : List PyData) : ownOf (some (.bl xs)) = some xs := (rfl)
def updR (o : Option En) (i : Nat) (g : List PyData → Option (List PyData)) (ρ : Ev) : Rs (Fl × Ev) := match (ownOf o).bind g with
  | some ys => .ok (.nx, ρ.set i (reKind o ys))
  | none => .st
theorem dn_sUpd (i : Nat) (g : List PyData → Option (List PyData)) : sUpd i g ρ = updR ρ[i]? i g ρ := (rfl)
def updK (o : Option (List PyData)) (i : Nat) (k : Bool) (ρ : Ev) : Rs (Fl × Ev) := match o with
  | some ys => .ok (.nx, ρ.set i (if k then .bl ys else .ol ys))
  | none => .st
theorem updR_ol (xs : List PyData) (i : Nat) (g : List PyData → Option (List PyData)) : updR (some (.ol xs)) i g ρ = updK (g xs) i false ρ := by cases e : g xs <;> simp [updR, updK, ownOf, reKind, reKindC, e]
theorem updR_bl (xs : List PyData) (i : Nat) (g : List PyData → Option (List PyData)) : updR (some (.bl xs)) i g ρ = updK (g xs) i true ρ := by cases e : g xs <;> simp [updR, updK, ownOf, reKind, reKindC, e]
theorem updK_ol (ys : List PyData) (i : Nat) : updK (some ys) i false ρ = .ok (.nx, ρ.set i (.ol ys)) := (rfl)
theorem updK_bl (ys : List PyData) (i : Nat) : updK (some ys) i true ρ = .ok (.nx, ρ.set i (.bl ys)) := (rfl)
theorem appR_ok (d : PyData) (i : Nat) : appR (.ok (d, ρ)) i = updR ρ[i]? i (appD d) ρ := dn_sUpd _ _
theorem appD_ok (d : PyData) (xs : List PyData) (h : xs.length + 1 ≤ 16777216) : appD d xs = some (xs ++ [d]) := if_pos (okLen_dn h)
def setxR (i : Nat) (fk : Dn PyData) (d : PyData) (ρ : Ev) : Rs (Fl × Ev) := if (ownOf ρ[i]?).isSome then bndR (fk ρ) (fun k => sUpd i (setIxD d k)) else .st
theorem dn_sSetIx (i : Nat) (fk f : Dn PyData) : sSetIx i fk f ρ = bndR (f ρ) (setxR i fk) := by
  show bnd f _ ρ = _
  rw [dn_bnd]
  unfold bndR
  cases f ρ with
  | ok p =>
    show (if (ownOf p.2[i]?).isSome then bnd fk (fun k => sUpd i (setIxD p.1 k)) p.2 else .st) = setxR i fk p.1 p.2
    unfold setxR
    rw [dn_bnd]
  | _ => rfl
theorem dn_setx (i : Nat) (fk : Dn PyData) (d : PyData) : setxR i fk d ρ = ifB (ownOf ρ[i]?).isSome (bndR (fk ρ) (fun k => sUpd i (setIxD d k))) .st := by
  unfold setxR ifB
  cases (ownOf ρ[i]?).isSome <;> rfl
theorem setIxD_eq (d : PyData) (n : Int) (xs : List PyData) : setIxD d (.int n) xs = (ixN xs.length n).map fun j => xs.set j d := (rfl)
def parR (i j : Nat) (a b : Option Rv) (ρ : Ev) : Rs (Fl × Ev) := match a, b with
  | some r, some t => if isBl ρ[i]? || isBl (ρ.set i r.en)[j]? then .st else .ok (.nx, (ρ.set i r.en).set j t.en)
  | _, _ => .st
theorem dn_sParA (i j : Nat) (f : Dn (List Ar)) : sParA i j f ρ = bndR (f ρ) (parA i j) := dn_bnd _ _
theorem dn_parA (i j : Nat) (a b : Ar) : parA i j [a, b] ρ = parR i j (rvA a) (rvA b) ρ := by
  show (match rvA a, rvA b with | some r, some t => _ | _, _ => _) = _
  unfold parR
  cases rvA a <;> cases rvA b <;> rfl
theorem parR_ok (i j : Nat) (r t : Rv) : parR i j (some r) (some t) ρ = ifB (isBl ρ[i]?) .st (ifB (isBl (ρ.set i r.en)[j]?) .st (.ok (.nx, (ρ.set i r.en).set j t.en))) := by
  show (if isBl ρ[i]? || isBl (ρ.set i r.en)[j]? then Rs.st else .ok (.nx, (ρ.set i r.en).set j t.en) : Rs (Fl × Ev)) = _
  unfold ifB
  cases isBl ρ[i]? <;> cases isBl (ρ.set i r.en)[j]? <;> rfl
theorem rvA_fz (d : PyData) : rvA (.fz d) = some (.fz d) := (rfl)
theorem rvA_tp (xs : List PyData) : rvA (.tp xs) = some (.ol xs) := (rfl)
def nmR (o : Option Ev) : Rs (Fl × Ev) := match o with
  | none => .st
  | some ρ' => .ok (.nx, ρ')
theorem nmR_some : nmR (some ρ) = .ok (.nx, ρ) := (rfl)
theorem dn_sPar (is : List Nat) (f : Dn (List PyData)) : sPar is f ρ = bndR (f ρ) fun ds ρ => nmR (nmAll is ds ρ) := by
  show bnd f _ ρ = _
  rw [dn_bnd]
  rfl
theorem dn_sAsg (f : Dn PyData) (h : PyData → Ev → Option Ev) : sAsg f h ρ = bndR (f ρ) fun d ρ => nmR (h d ρ) := by
  show bnd f _ ρ = _
  rw [dn_bnd]
  rfl
theorem dn_arP (is : List Nat) (f : Dn (List PyData)) : dArP is f ρ = bndR (f ρ) fun ds => ret ((prm is ds).map Ar.fz) := dn_bnd _ _
theorem dn_app (f g : Dn (List PyData)) : dApp f g ρ = bndR (f ρ) fun ds => bnd g fun es => ret (ds ++ es) := dn_bnd _ _
theorem dn_arD (mp : List (Bool × Nat)) (f g : Dn (List PyData)) : dArD mp f g ρ = bndR (dApp f g ρ) fun ds => ret (mp.map (arP ds)) := dn_bnd _ _
theorem nmAll_nil : nmAll [] [] ρ = some ρ := (rfl)
theorem nmAll_cons (i : Nat) (is : List Nat) (d : PyData) (ds : List PyData) : nmAll (i :: is) (d :: ds) ρ = ifB (isBl ρ[i]?) none (nmAll is ds (ρ.set i (.fz d))) := by
  show (hName i d ρ).bind _ = _
  unfold hName ifB
  cases isBl ρ[i]? <;> rfl
theorem dn_hName (i : Nat) (d : PyData) : hName i d ρ = ifB (isBl ρ[i]?) none (some (ρ.set i (.fz d))) := by
  unfold hName ifB
  cases isBl ρ[i]? <;> rfl
theorem dn_hTup (n : Nat) (g : List PyData → Ev → Option Ev) (ds : List PyData) : hTup n g (.tuple ds) ρ = ifB (Nat.beq ds.length n) (g ds ρ) none := by
  show (if ds.length = n then g ds ρ else none) = _
  unfold ifB
  by_cases h : ds.length = n
  · rw [if_pos h, h, Nat.beq_refl]; rfl
  · rw [if_neg h, show Nat.beq ds.length n = false from Bool.eq_false_iff.mpr fun e => h (Nat.eq_of_beq_eq_true e)]; rfl
theorem dn_hNil : hNil [] ρ = some ρ := (rfl)
theorem dn_hCons (h : PyData → Ev → Option Ev) (g : List PyData → Ev → Option Ev) (d : PyData) (ds : List PyData) : hCons h g (d :: ds) ρ = (h d ρ).bind (g ds) := (rfl)
def rtOf (m : Rs (Fl × Ev)) : Option Rv := match m with
  | .ok (.rt r, _) => some r
  | .ok (.nx, _) => some (.fz .none)
  | _ => none
theorem rtOf_rt (r : Rv) : rtOf (.ok (.rt r, ρ)) = some r := (rfl)
theorem rtOf_nx : rtOf (.ok (.nx, ρ)) = some (.fz .none) := (rfl)
theorem gv_rt {n N : Nat} {f : Dn Fl} {as : List En} {r : Rv} (h : rtOf (f (as ++ List.replicate (N - n) .no)) = some r) : Gv (runF n N f) as r := by
  unfold rtOf at h
  unfold Gv runF
  revert h
  cases f (as ++ List.replicate (N - n) .no) with
  | ok p =>
    obtain ⟨fl, ρ'⟩ := p
    cases fl with
    | rt r' => intro h; cases h; exact ⟨_, rfl⟩
    | nx => intro h; cases h; exact ⟨_, rfl⟩
    | _ => intro h; cases h
  | _ => intro h; cases h
end
end Gx

/-! S2: loops and comprehensions for the walk by rewriting; numbers. -/
namespace Gx
open PySem PySem.Spec L2
open PyProof.Rows hiding St
def Nb (o : Nat → En) : Prop := ∀ k, isBl (some (o k)) = false
def f0 : Nat → En := fun _ => .no
def f1 (a : En) : Nat → En := fun _ => a
def f2 (a b : En) : Nat → En
  | 0 => a
  | _ => b
def f3 (a b c : En) : Nat → En
  | 0 => a
  | 1 => b
  | _ => c
def f4 (a b c d : En) : Nat → En
  | 0 => a
  | 1 => b
  | 2 => c
  | _ => d
def f5 (a b c d e : En) : Nat → En
  | 0 => a
  | 1 => b
  | 2 => c
  | 3 => d
  | _ => e
def f6 (a b c d e f : En) : Nat → En
  | 0 => a
  | 1 => b
  | 2 => c
  | 3 => d
  | 4 => e
  | _ => f
theorem nb0 : Nb f0 := fun _ => rfl
theorem nb1 {a : En} (h : isBl (some a) = false) : Nb (f1 a) := fun _ => h
theorem nb2 {a b : En} (h : isBl (some a) = false) (h2 : isBl (some b) = false) : Nb (f2 a b) := fun k => match k with
  | 0 => h
  | _ + 1 => h2
theorem nb3 {a b c : En} (h : isBl (some a) = false) (h2 : isBl (some b) = false) (h3 : isBl (some c) = false) : Nb (f3 a b c) := fun k => match k with
  | 0 => h
  | 1 => h2
  | _ + 2 => h3
theorem nb5 {a b c d e : En} (h : isBl (some a) = false) (h2 : isBl (some b) = false) (h3 : isBl (some c) = false) (h4 : isBl (some d) = false) (h5 : isBl (some e) = false) : Nb (f5 a b c d e) := fun k => match k with
  | 0 => h
  | 1 => h2
  | 2 => h3
  | 3 => h4
  | _ + 4 => h5
theorem nb6 {a b c d e f : En} (h : isBl (some a) = false) (h2 : isBl (some b) = false) (h3 : isBl (some c) = false) (h4 : isBl (some d) = false) (h5 : isBl (some e) = false) (h6 : isBl (some f) = false) : Nb (f6 a b c d e f) := fun k => match k with
  | 0 => h
  | 1 => h2
  | 2 => h3
  | 3 => h4
  | 4 => h5
  | _ + 5 => h6
theorem loop_n {tg : PyData → Ev → Option Ev} {fb : Dn Fl} (xs : List PyData) (E : Nat → (Nat → En) → Ev)
    (step : ∀ n d o, xs[n]? = some d → Nb o → ∃ ρ1 o', Nb o' ∧ tg d (E n o) = some ρ1 ∧ (fb ρ1 = .ok (.nx, E (n + 1) o') ∨ fb ρ1 = .ok (.ct, E (n + 1) o'))) : ∀ o, Nb o → ∃ o', Nb o' ∧ loopF tg fb xs (E 0 o) = .ok (.nx, E xs.length o') := by
  suffices h : ∀ (ys pre : List PyData), xs = pre ++ ys → ∀ o, Nb o → ∃ o', Nb o' ∧ loopF tg fb ys (E pre.length o) = .ok (.nx, E xs.length o') from fun o no => h xs [] rfl o no
  intro ys
  induction ys with
  | nil => intro pre e o no; exact ⟨o, no, by rw [e]; simp [loopF]⟩
  | cons d ys ih =>
    intro pre e o no
    obtain ⟨ρ1, o', no', e1, e2⟩ := step pre.length d o (by rw [e]; simp) no
    obtain ⟨o2, no2, e3⟩ := ih (pre ++ [d]) (by rw [e]; simp) o' no'
    refine ⟨o2, no2, ?_⟩
    rw [show (pre ++ [d]).length = pre.length + 1 by simp] at e3
    rcases e2 with e2 | e2 <;>
    · unfold loopF
      simp only [e1, e2]
      exact e3
theorem loop_g {ι α : Type} {u : ι → PyData} {tg : PyData → Ev → Option Ev} {fb : Dn Fl} {E : α → (Nat → En) → Ev} (g : α → ι → α) (P : α → Prop) : ∀ (xs : List ι) (a : α) (o : Nat → En), P a → Nb o →
    (∀ a o x, P a → Nb o → x ∈ xs → ∃ ρ1 o', Nb o' ∧ tg (u x) (E a o) = some ρ1 ∧ fb ρ1 = .ok (.nx, E (g a x) o') ∧ P (g a x)) → ∃ o', Nb o' ∧ loopF tg fb (xs.map u) (E a o) = .ok (.nx, E (xs.foldl g a) o') ∧ P (xs.foldl g a)
  | [], a, o, hp, no, _ => ⟨o, no, rfl, hp⟩
  | x :: xs, a, o, hp, no, step => by
    obtain ⟨ρ1, o', no', e1, e2, p2⟩ := step a o x hp no (by simp)
    obtain ⟨o2, no2, e3, p3⟩ := loop_g g P xs (g a x) o' p2 no' (fun a o y hp no hy => step a o y hp no (by simp [hy]))
    refine ⟨o2, no2, ?_, p3⟩
    rw [List.map_cons]
    unfold loopF
    simp only [e1, e2]
    exact e3
def compRun (h : PyData → Ev → Option Ev) (ft : Dn Bool) (fe : Dn PyData) (vs : List Nat) (ds : List PyData) (ρ : Ev) : Rs (Rv × Ev) := if vs.all (fun v => !isBl ρ[v]?) then match compL h ft fe vs ds [] (wipeE ρ vs) with
  | .ok (ys, ρ2) => .ok (.ol ys, restE ρ ρ2 vs)
  | _ => .st
  else .st
section
variable {ρ : Ev}
theorem dn_comp (fi : Dn (List PyData)) (h : PyData → Ev → Option Ev) (ft : Dn Bool) (fe : Dn PyData) (vs : List Nat) : dComp fi h ft fe vs ρ = bndR (fi ρ) (compRun h ft fe vs) := dn_bnd _ _
theorem comp_p {ι : Type} {u : ι → PyData} {i : Nat} {ft : Dn Bool} {fe : Dn PyData} {xs : List ι} (p : ι → Bool) (g : ι → PyData) (hb : isBl ρ[i]? = false) (ht : ∀ x ∈ xs, ft (ρ.set i (.fz (u x))) = .ok (p x, ρ.set i (.fz (u x))))
    (he : ∀ x ∈ xs, p x = true → fe (ρ.set i (.fz (u x))) = .ok (g x, ρ.set i (.fz (u x)))) (hl : xs.length ≤ 16777216) : compRun (hName i) ft fe [i] (xs.map u) ρ = .ok (.ol ((xs.filter p).map g), ρ) := by
  have h := ev_comp1 (ρ := ρ) (ρ1 := ρ) (u := u) (i := i) (fi := fun ρ => .ok (xs.map u, ρ)) (ft := ft) (fe := fe) p g rfl hb ht he hl
  rw [dn_comp] at h
  exact h
theorem comp_m {ι : Type} {u : ι → PyData} {i : Nat} {fe : Dn PyData} {xs : List ι} (g : ι → PyData) (hb : isBl ρ[i]? = false)
    (he : ∀ x ∈ xs, fe (ρ.set i (.fz (u x))) = .ok (g x, ρ.set i (.fz (u x)))) (hl : xs.length ≤ 16777216) : compRun (hName i) yesT fe [i] (xs.map u) ρ = .ok (.ol (xs.map g), ρ) := by
  have h := comp_p (ρ := ρ) (u := u) (i := i) (ft := yesT) (fe := fe) (xs := xs) (fun _ => true) g hb (fun _ _ => rfl) (fun x hx _ => he x hx) hl
  rw [List.filter_eq_self.mpr (fun _ _ => rfl)] at h
  exact h
theorem comp_t {ι : Type} {u : ι → PyData} {tg : PyData → Ev → Option Ev} {ft : Dn Bool} {fe : Dn PyData} {vs : List Nat} {xs : List ι} (E1 : ι → Ev) (p : ι → Bool) (g : ι → PyData) (hv : (vs.all fun v => !isBl ρ[v]?) = true)
    (hh : ∀ x, tg (u x) (wipeE ρ vs) = some (E1 x)) (hw : ∀ x, wipeE (E1 x) vs = wipeE ρ vs) (hr : restE ρ (wipeE ρ vs) vs = ρ) (ht : ∀ x ∈ xs, ft (E1 x) = .ok (p x, E1 x)) (he : ∀ x ∈ xs, p x = true → fe (E1 x) = .ok (g x, E1 x)) (hl : xs.length ≤ 16777216) :
    compRun tg ft fe vs (xs.map u) ρ = .ok (.ol ((xs.filter p).map g), ρ) := by
  have h := ev_compG (ρ := ρ) (ρ1 := ρ) (u := u) (h := tg) (fi := fun ρ => .ok (xs.map u, ρ)) (ft := ft) (fe := fe) (vs := vs) p g E1 rfl hv rfl hh hw hr ht he hl
  rw [dn_comp] at h
  exact h
theorem comp_tm {ι : Type} {u : ι → PyData} {tg : PyData → Ev → Option Ev} {fe : Dn PyData} {vs : List Nat} {xs : List ι} (E1 : ι → Ev) (g : ι → PyData) (hv : (vs.all fun v => !isBl ρ[v]?) = true)
    (hh : ∀ x, tg (u x) (wipeE ρ vs) = some (E1 x)) (hw : ∀ x, wipeE (E1 x) vs = wipeE ρ vs) (hr : restE ρ (wipeE ρ vs) vs = ρ) (he : ∀ x ∈ xs, fe (E1 x) = .ok (g x, E1 x)) (hl : xs.length ≤ 16777216) :
    compRun tg yesT fe vs (xs.map u) ρ = .ok (.ol (xs.map g), ρ) := by
  have h := comp_t (ρ := ρ) (u := u) (tg := tg) (ft := yesT) (fe := fe) (vs := vs) (xs := xs) E1 (fun _ => true) g hv hh hw hr (fun _ _ => rfl) (fun x hx _ => he x hx) hl
  rw [List.filter_eq_self.mpr (fun _ _ => rfl)] at h
  exact h
end
theorem q_beq1 : Nat.beq 1 1 = true := (rfl)
theorem q_beq2 : Nat.beq 2 2 = true := (rfl)
theorem q_beq3 : Nat.beq 3 3 = true := (rfl)
theorem q_beq4 : Nat.beq 4 4 = true := (rfl)
theorem q_beq5 : Nat.beq 5 5 = true := (rfl)
theorem q_beq6 : Nat.beq 6 6 = true := (rfl)
theorem q_beq7 : Nat.beq 7 7 = true := (rfl)
theorem q_beq8 : Nat.beq 8 8 = true := (rfl)
/-! numbers -/
section
variable {i j : Int}
theorem n_addI : addD (.int i) (.int j) = some (.fz (.int (i + j))) := (rfl)
theorem n_subI : subD (.int i) (.int j) = some (.fz (.int (i - j))) := (rfl)
theorem n_ltI : ltD (.int i) (.int j) = some (.fz (.bool (decide (i < j)))) := (rfl)
theorem n_gtI : gtD (.int i) (.int j) = some (.fz (.bool (decide (j < i)))) := (rfl)
theorem n_leI : leD (.int i) (.int j) = some (.fz (.bool (decide (i ≤ j)))) := (rfl)
theorem n_geI : geD (.int i) (.int j) = some (.fz (.bool (decide (j ≤ i)))) := (rfl)
theorem n_negI : negD (.int i) = some (.int (-i)) := (rfl)
theorem okEq_ii : okEq (.int i) (.int j) = true := (rfl)
theorem eqv_ii : PyData.eqv (.int i) (.int j) = decide (i = j) := by
  unfold PyData.eqv
  by_cases h : i = j
  · subst h; simp
  · simp [h]
theorem n_eqI : eqD (.int i) (.int j) = some (.fz (.bool (decide (i = j)))) := by
  show (if okEq (.int i) (.int j) then fB (PyData.eqv (.int i) (.int j)) else none) = _
  rw [okEq_ii, if_pos rfl, eqv_ii]
  rfl
theorem n_neI : neD (.int i) (.int j) = some (.fz (.bool (!decide (i = j)))) := by
  show (if okEq (.int i) (.int j) then fB (!PyData.eqv (.int i) (.int j)) else none) = _
  rw [okEq_ii, if_pos rfl, eqv_ii]
  rfl
theorem n_lenL {xs : List PyData} : lenD [.list xs] = some (.fz (.int xs.length)) := (rfl)
theorem n_lenT {xs : List PyData} : lenD [.tuple xs] = some (.fz (.int xs.length)) := (rfl)
theorem n_tupL {xs : List PyData} : tupleD [.list xs] = some (.fz (.tuple xs)) := (rfl)
theorem n_tupT {xs : List PyData} : tupleD [.tuple xs] = some (.fz (.tuple xs)) := (rfl)
theorem n_lstL {xs : List PyData} : listD [.list xs] = some (.ol xs) := (rfl)
theorem n_lstT {xs : List PyData} : listD [.tuple xs] = some (.ol xs) := (rfl)
theorem n_isN_n : isND .none .none = some (.fz (.bool true)) := (rfl)
end
end Gx

/-! S3: slices, rows put together, items. -/
namespace Gx
open PySem PySem.Spec L2
open PyProof.Rows hiding St
section
variable {ρ : Ev}
theorem dn_sl (f : Dn PyData) (lo hi : Dn (Option Int)) : dSl f lo hi ρ = bndR (f ρ) fun x => bnd lo fun l => bnd hi fun h => lft (sliceD x l h) := dn_bnd _ _
theorem dn_on (f : Dn PyData) : dOn f ρ = bndR (f ρ) fun d => bnd (lft (intOf d)) fun i => ret (some i) := dn_bnd _ _
theorem dn_off : dOff ρ = .ok (none, ρ) := (rfl)
theorem intOf_i (n : Int) : intOf (.int n) = some n := (rfl)
theorem slice_l (xs : List PyData) (lo hi : Option Int) : sliceD (.list xs) lo hi = some (.ol (cutD xs lo hi)) := (rfl)
theorem slice_t (xs : List PyData) (lo hi : Option Int) : sliceD (.tuple xs) lo hi = some (.fz (.tuple (cutD xs lo hi))) := (rfl)
def orER (m : Rs (Rv × Ev)) (g : Dn Rv) : Rs (Rv × Ev) := bndR m fun x => bnd (lft (truth x.d)) fun b => if b then ret x else g
theorem dn_orE (f g : Dn Rv) : dOr f g ρ = orER (f ρ) g := dn_bnd _ _
theorem orER_b (b : Bool) (g : Dn Rv) : orER (.ok (.fz (.bool b), ρ)) g = bif b then .ok (.fz (.bool true), ρ) else g ρ := by cases b <;> rfl
theorem orER_l (xs : List PyData) (g : Dn Rv) : orER (.ok (.ol xs, ρ)) g = bif xs.isEmpty then g ρ else .ok (.ol xs, ρ) := by cases xs <;> rfl
theorem r_addL {xs ys : List PyData} (h : xs.length + ys.length ≤ 16777216) : addD (.list xs) (.list ys) = some (.ol (xs ++ ys)) := by
  show (if okLen (xs.length + ys.length) then some (Rv.ol (xs ++ ys)) else none) = _
  rw [okLen_dn h]
  rfl
theorem r_addT {xs ys : List PyData} (h : xs.length + ys.length ≤ 16777216) : addD (.tuple xs) (.tuple ys) = some (.fz (.tuple (xs ++ ys))) := by
  show (if okLen (xs.length + ys.length) then some (Rv.fz (.tuple (xs ++ ys))) else none) = _
  rw [okLen_dn h]
  rfl
theorem r_ixT (xs : List PyData) (n : Int) : ixD (.tuple xs) (.int n) = (atI xs n).map .fz := (rfl)
theorem r_ixL (xs : List PyData) (n : Int) : ixD (.list xs) (.int n) = (atI xs n).map .fz := (rfl)
theorem arP_t (ds : List PyData) (k : Nat) : arP ds (true, k) = .fz (ds.getD k .none) := (rfl)
theorem arP_f (ds : List PyData) (k : Nat) : arP ds (false, k) = .sc (.t []) := (rfl)
theorem opt_map {α β : Type} (f : α → β) (a : α) : (some a).map f = some (f a) := (rfl)
end
section
variable {α : Type} {xs : List α} {x : α}
theorem atI_n {k : Nat} (h : k < xs.length) : atI xs (k : Int) = xs[k]? := by
  unfold atI ixN
  rw [if_pos (by omega), if_pos (by omega)]
  rfl
theorem atI_lst : atI (xs ++ [x]) (-1) = some x := by
  unfold atI ixN
  rw [if_neg (by omega), if_pos (by rw [List.length_append, List.length_singleton]; omega)]
  show (xs ++ [x])[(-1 + ((xs ++ [x]).length : Int)).toNat]? = some x
  rw [show (-1 + ((xs ++ [x]).length : Int)).toNat = xs.length by rw [List.length_append, List.length_singleton]; omega]
  simp
theorem atI_0 {y : α} : atI (y :: xs) 0 = some y := by
  unfold atI ixN
  rw [if_pos (by omega), if_pos (by rw [List.length_cons]; omega)]
  rfl
theorem atI_s {y : α} {k : Nat} : atI (y :: xs) ((k + 1 : Nat) : Int) = atI xs (k : Int) := by
  by_cases h : k < xs.length
  · rw [atI_n (xs := y :: xs) (by simp; omega), atI_n h]; rfl
  · unfold atI ixN
    rw [if_pos (by omega), if_neg (by rw [List.length_cons]; omega), if_pos (by omega), if_neg (by omega)]
    rfl
theorem atI_1 {y : α} : atI (y :: xs) 1 = atI xs 0 := atI_s (k := 0)
theorem atI_2 {y : α} : atI (y :: xs) 2 = atI xs 1 := atI_s (k := 1)
theorem atI_3 {y : α} : atI (y :: xs) 3 = atI xs 2 := atI_s (k := 2)
theorem atI_4 {y : α} : atI (y :: xs) 4 = atI xs 3 := atI_s (k := 3)
theorem atI_5 {y : α} : atI (y :: xs) 5 = atI xs 4 := atI_s (k := 4)
end
section
variable {xs : List PyData} {x : PyData}
theorem cut_tk {n : Nat} : cutD xs none (some (n : Int)) = xs.take n := by
  unfold cutD
  rw [HT.sIx_none, HT.sIx_nat, List.drop_zero, Nat.sub_zero, ← List.take_take, List.take_length]
end
end Gx

/-! S4: more loops: by number, rows that grow. -/
namespace Gx
open PySem PySem.Spec L2
open PyProof.Rows hiding St
section
variable {ι β : Type} {u : ι → PyData} {tg : PyData → Ev → Option Ev} {fb : Dn Fl}
theorem loop_w (xs : List ι) (E : Nat → (Nat → En) → Ev)
    (step : ∀ n x o, xs[n]? = some x → Nb o → ∃ ρ1 o', Nb o' ∧ tg (u x) (E n o) = some ρ1 ∧ fb ρ1 = .ok (.nx, E (n + 1) o')) (o : Nat → En) (no : Nb o) : ∃ o', Nb o' ∧ loopF tg fb (xs.map u) (E 0 o) = .ok (.nx, E xs.length o') := by
  have h := loop_n (tg := tg) (fb := fb) (xs.map u) E (fun n d o hd no => by
    rw [List.getElem?_map] at hd
    obtain ⟨x, hx, rfl⟩ := Option.map_eq_some_iff.mp hd
    obtain ⟨ρ1, o', no', e1, e2⟩ := step n x o hx no
    exact ⟨ρ1, o', no', e1, .inl e2⟩) o no
  rw [List.length_map] at h
  exact h
theorem loop_i {β : Type} (I : Nat → β → Prop) (E : β → (Nat → En) → Ev) (xs : List ι)
    (step : ∀ n x b o, xs[n]? = some x → I n b → Nb o → ∃ ρ1 b' o', I (n + 1) b' ∧ Nb o' ∧ tg (u x) (E b o) = some ρ1 ∧ fb ρ1 = .ok (.nx, E b' o')) : ∀ b o, I 0 b → Nb o → ∃ b' o', I xs.length b' ∧ Nb o' ∧ loopF tg fb (xs.map u) (E b o) = .ok (.nx, E b' o') := by
  suffices h : ∀ (ys pre : List ι), xs = pre ++ ys → ∀ b o, I pre.length b → Nb o → ∃ b' o', I xs.length b' ∧ Nb o' ∧ loopF tg fb (ys.map u) (E b o) = .ok (.nx, E b' o') from fun b o hi no => h xs [] rfl b o hi no
  intro ys
  induction ys with
  | nil => intro pre e b o hi no; exact ⟨b, o, by rw [e]; simpa using hi, no, rfl⟩
  | cons d ys ih =>
    intro pre e b o hi no
    obtain ⟨ρ1, b', o', hi', no', e1, e2⟩ := step pre.length d b o (by rw [e]; simp) hi no
    obtain ⟨b2, o2, hi2, no2, e3⟩ := ih (pre ++ [d]) (by rw [e]; simp) b' o' (by simpa using hi') no'
    refine ⟨b2, o2, hi2, no2, ?_⟩
    rw [List.map_cons]
    unfold loopF
    simp only [e1, e2]
    exact e3
end
def chR (m : Rs (PyData × Ev)) (g g' : PyData → PyData → Option Rv) (fb fc : Dn PyData) : Rs (Rv × Ev) := bndR m fun x => bnd fb fun y => bnd (lft (g x y)) fun r => bnd (lft (boolOf r.d)) fun k => if k then bnd fc fun z => lft (g' y z) else ret (.fz (.bool false))
theorem dn_chain {ρ : Ev} (g g' : PyData → PyData → Option Rv) (fa fb fc : Dn PyData) : dChain g g' fa fb fc ρ = chR (fa ρ) g g' fb fc := dn_bnd _ _
theorem chR_ok {ρ : Ev} (x : PyData) (g g' : PyData → PyData → Option Rv) (fb fc : Dn PyData) : chR (.ok (x, ρ)) g g' fb fc = bndR (fb ρ) fun y => bnd (lft (g x y)) fun r => bnd (lft (boolOf r.d)) fun k => if k then bnd fc fun z => lft (g' y z) else ret (.fz (.bool false)) := dn_bnd _ _
theorem rvd_fz (d : PyData) : (Rv.fz d).d = d := (rfl)
theorem rvd_ol (d : List PyData) : (Rv.ol d).d = .list d := (rfl)
theorem boolOf_b (b : Bool) : boolOf (.bool b) = some b := (rfl)
theorem dn_R1 {ρ : Ev} (g : PyData → Option Rv) (f : Dn PyData) : dR1 g f ρ = bndR (f ρ) fun d => lft (g d) := dn_bnd _ _
def parXR (i j l : Nat) (a b c : Option Rv) (ρ : Ev) : Rs (Fl × Ev) := match a, b, c with
  | some r, some t, some u => if isBl ρ[i]? || (isBl (ρ.set i r.en)[j]? || isBl ((ρ.set i r.en).set j t.en)[l]?) then .st else .ok (.nx, ((ρ.set i r.en).set j t.en).set l u.en)
  | _, _, _ => .st
theorem dn_sParX {ρ : Ev} (i j l : Nat) (f : Dn (List Ar)) : sParX i j l f ρ = bndR (f ρ) (parX i j l) := dn_bnd _ _
theorem dn_parX {ρ : Ev} (i j l : Nat) (a b c : Ar) : parX i j l [a, b, c] ρ = parXR i j l (rvA a) (rvA b) (rvA c) ρ := by
  show (match rvA a, rvA b, rvA c with | some r, some t, some u => _ | _, _, _ => _) = _
  unfold parXR
  cases rvA a <;> cases rvA b <;> cases rvA c <;> rfl
theorem parXR_ok {ρ : Ev} (i j l : Nat) (r t u : Rv) : parXR i j l (some r) (some t) (some u) ρ = ifB (isBl ρ[i]?) .st (ifB (isBl (ρ.set i r.en)[j]?) .st (ifB (isBl ((ρ.set i r.en).set j t.en)[l]?) .st (.ok (.nx, ((ρ.set i r.en).set j t.en).set l u.en)))) := by
  show (if isBl ρ[i]? || (isBl (ρ.set i r.en)[j]? || isBl ((ρ.set i r.en).set j t.en)[l]?) then Rs.st else .ok (.nx, ((ρ.set i r.en).set j t.en).set l u.en) : Rs (Fl × Ev)) = _
  unfold ifB
  cases isBl ρ[i]? <;> cases isBl (ρ.set i r.en)[j]? <;> cases isBl ((ρ.set i r.en).set j t.en)[l]? <;> rfl
def popK (o : Option En) (k : PyData) (i : Nat) (ρ : Ev) : Rs (PyData × Ev) := match ownOf o, k with
  | some xs, .int n => if small62 n then match seqIndex? n xs.length with
    | some j => match xs[j]? with
      | some d => .ok (d, ρ.set i (reKind o (xs.eraseIdx j)))
      | none => .st
    | none => .st
    else .st
  | _, _ => .st
def popR (m : Rs (PyData × Ev)) (i : Nat) : Rs (PyData × Ev) := bndR m fun k ρ => popK ρ[i]? k i ρ
theorem dn_popAt {ρ : Ev} (i : Nat) (f : Dn PyData) : dPopAt i f ρ = ifB (ownOf ρ[i]?).isSome (popR (f ρ) i) .st := by
  unfold dPopAt ifB
  cases (ownOf ρ[i]?).isSome with
  | false => rfl
  | true =>
    show bnd f _ ρ = _
    rw [dn_bnd]
    rfl
theorem popR_ok {ρ : Ev} (k : PyData) (i : Nat) : popR (.ok (k, ρ)) i = popK ρ[i]? k i ρ := (rfl)
theorem popK_0 {ρ : Ev} (x : PyData) (xs : List PyData) (i : Nat) : popK (some (.ol (x :: xs))) (.int 0) i ρ = .ok (x, ρ.set i (.ol xs)) := by
  have e : seqIndex? 0 (x :: xs).length = some 0 := by unfold seqIndex?; simp
  show (if small62 0 then match seqIndex? 0 (x :: xs).length with
    | some j => match (x :: xs)[j]? with
      | some d => .ok (d, ρ.set i (reKind (some (En.ol (x :: xs))) ((x :: xs).eraseIdx j)))
      | none => .st
    | none => .st
    else .st : Rs (PyData × Ev)) = _
  rw [e]
  rfl
theorem comp_d {ι β : Type} {u : ι → PyData} {i : Nat} {fe : Dn PyData} {en : En} (I : Nat → β → List PyData → Prop) (E : β → Ev) (hE : ∀ b, (E b)[i]? = some en) (hen : isBl (some en) = false) (hL : ∀ b b', (E b).length = (E b').length) (xs : List ι)
    (step : ∀ n x b acc, xs[n]? = some x → acc.length = n → I n b acc → ∃ b' y, fe ((E b).set i (.fz (u x))) = .ok (y, (E b').set i (.fz (u x))) ∧ I (n + 1) b' (acc ++ [y])) (hl : xs.length ≤ 16777216) :
    ∀ b, I 0 b [] → ∃ b' ys, ys.length = xs.length ∧ I xs.length b' ys ∧ compRun (hName i) yesT fe [i] (xs.map u) (E b) = .ok (.ol ys, E b') := by
  have lt : ∀ b, i < (E b).length := fun b => (List.getElem?_eq_some_iff.mp (hE b)).1
  have go : ∀ (ys pre : List ι), xs = pre ++ ys → ∀ b acc, acc.length = pre.length → I pre.length b acc → ∃ b' zs, zs.length = xs.length ∧ I xs.length b' zs ∧ compL (hName i) yesT fe [i] (ys.map u) acc ((E b).set i .no) = .ok (zs, (E b').set i .no) := by
    intro ys
    induction ys with
    | nil =>
      intro pre e b acc ha hi
      have e2 : pre = xs := by simpa using e.symm
      subst e2
      exact ⟨b, acc, ha, hi, rfl⟩
    | cons x ys ih =>
      intro pre e b acc ha hi
      obtain ⟨b', y, e1, hi'⟩ := step pre.length x b acc (by rw [e]; simp) ha hi
      obtain ⟨b2, zs, hz, hi2, e2⟩ := ih (pre ++ [x]) (by rw [e]; simp) b' (acc ++ [y]) (by simp [ha]) (by simpa using hi')
      refine ⟨b2, zs, hz, hi2, ?_⟩
      have h1 : hName i (u x) ((E b).set i .no) = some ((E b).set i (.fz (u x))) := by
        unfold hName
        rw [List.getElem?_set_self (lt b)]
        show some (((E b).set i .no).set i (.fz (u x))) = _
        rw [set_twice]
      have hlen : acc.length + 1 ≤ 16777216 := by
        have := congrArg List.length e
        simp at this
        omega
      rw [List.map_cons]
      unfold compL
      simp only [h1, yesT, ret, e1, okLen_dn hlen, if_true, wipe1]
      exact e2
  intro b hi
  obtain ⟨b', zs, hz, hi2, e⟩ := go xs [] rfl b [] rfl hi
  refine ⟨b', zs, hz, hi2, ?_⟩
  unfold compRun
  have hv : ([i].all fun v => !isBl (E b)[v]?) = true := by simp [hE b, hen]
  have hw : wipeE (E b) [i] = (E b).set i .no := rfl
  rw [if_pos hv, hw, e]
  show Rs.ok (Rv.ol zs, restE (E b) ((E b').set i .no) [i]) = _
  congr 2
  apply List.ext_getElem?
  intro j
  rw [restE_get (by rw [List.length_set]; exact hL _ _)]
  by_cases h : j = i
  · subst h
    simp [hE]
  · simp [h]
    rw [List.getElem?_set_ne (Ne.symm h)]
def rbOf (m : Rs (Fl × Ev)) : Option (Rv × List PyData) := match m with
  | .ok (.rt r, .bl t :: _) => some (r, t)
  | _ => none
theorem rbOf_rt {ρ : Ev} (r : Rv) (t : List PyData) : rbOf (.ok (.rt r, .bl t :: ρ)) = some (r, t) := (rfl)
theorem gv_rb {n N : Nat} {f : Dn Fl} {t t' : List PyData} {as : List En} {r : Rv} (h : rbOf (f (.bl t :: as ++ List.replicate (N - n) .no)) = some (r, t')) : ∃ es, runF n N f (.bl t :: as) = .ok (r, .bl t' :: es) := by
  unfold rbOf at h
  unfold runF
  revert h
  cases f (.bl t :: as ++ List.replicate (N - n) .no) with
  | ok p =>
    obtain ⟨fl, ρ'⟩ := p
    cases fl with
    | rt r' =>
      cases ρ' with
      | nil => intro h; cases h
      | cons e ρ' =>
        cases e with
        | bo c =>
          cases c with
          | l u => intro h; cases h; exact ⟨_, rfl⟩
          | d u => intro h; cases h
          | k u => intro h; cases h
        | _ => intro h; cases h
    | _ => intro h; cases h
  | _ => intro h; cases h
theorem tg_name {ρ : Ev} {i : Nat} {d : PyData} (h : isBl ρ[i]? = false) : hName i d ρ = some (ρ.set i (.fz d)) := by
  unfold hName
  rw [h]
  rfl
end Gx

/-! E4: a thing is the same as itself, at every depth (the laws' own comparison). -/
namespace Gx
open PySem PySem.Spec L2
open PyProof.Rows hiding St

def bSame (self : Den) : Dn Fl := (sSeq (sIf (dTru (dUn (isi2D .lst .tup) (dName 1))) (sSeq (sIf (dOrT (dCmpT neD (dUn (isiD .lst) (dName 0)) (dUn (isiD .lst) (dName 1))) (dCmpT neD (dUn (isiD .tup) (dName 0)) (dUn (isiD .tup) (dName 1)))) (sRet (ofD (dC (.bool false)))) sNx)
  (sRet (ofD (dAnd (frz (dBin eqD (dLenP 0) (dLenP 1))) (frz (dCall allD (dCons (frz (dComp (iZp (dCons (dName 0) (dCons (dName 1) dNil))) (hTup 2 (hCons (hName 2) (hCons (hName 3) hNil))) yesT (frz (dFn self (aCons (ofD (dName 2)) (aCons (ofD (dName 3)) aNil)))) [2, 3])) dNil))))))) sNx)
  (sSeq (sIf (dOrT (dCmpT isND (dName 1) (dC .none)) (dTru (dUn (isi2D .bl .str) (dName 1)))) (sRet (ofD (dAnd (frz (dBin eqD (dName 0) (dName 1))) (dAnd (frz (dBin eqD (dUn (isiD .bl) (dName 0)) (dUn (isiD .bl) (dName 1)))) (frz (dBin eqD (frz (dBin isND (dName 0) (dC .none))) (frz (dBin isND (dName 1) (dC .none))))))))) sNx)
  (sRet (ofD (dAnd (dUn (isiD .int) (dName 0)) (dAnd (dNot (dUn (isiD .bl) (dName 0))) (frz (dBin eqD (dName 0) (dName 1)))))))))
def denSame : Nat → Den
  | 0 => fun _ => .st
  | n + 1 => runF 2 4 (bSame (denSame n))
def pln : Nat → PyData → Bool
  | _, .none => true
  | _, .bool _ => true
  | _, .int _ => true
  | k + 1, .list xs => okLen xs.length && xs.all (pln k)
  | k + 1, .tuple xs => okLen xs.length && xs.all (pln k)
  | _, _ => false
section
variable {ρ ρ1 ρ2 : Ev}
end
end Gx

/-! S5: plain data: equality, in, the law's own sameness. -/
namespace Gx
open PySem PySem.Spec L2
open PyProof.Rows hiding St
def Pd (k : Nat) (d : PyData) : Prop := cln d = true ∧ PyData.canLay0 d = true ∧ PyData.depth d ≤ k
theorem Pd.mono {k j : Nat} {d : PyData} (h : Pd k d) (l : k ≤ j) : Pd j d := ⟨h.1, h.2.1, Nat.le_trans h.2.2 l⟩
theorem pd_int {k : Nat} (i : Int) : Pd k (.int i) := ⟨rfl, by simp [PyData.canLay0], by simp [PyData.depth]⟩
theorem pd_bool {k : Nat} (b : Bool) : Pd k (.bool b) := ⟨rfl, by simp [PyData.canLay0], by simp [PyData.depth]⟩
theorem pd_none {k : Nat} : Pd k .none := ⟨rfl, by simp [PyData.canLay0], by simp [PyData.depth]⟩
theorem pd_str {k : Nat} {x : Str} (h : PyData.strOk x = true) : Pd k (.str x) := ⟨rfl, by simp [PyData.canLay0, h], by simp [PyData.depth]⟩
theorem pds_all {k : Nat} : ∀ {xs : List PyData}, (∀ x ∈ xs, Pd k x) → clns xs = true ∧ PyData.canLayAll0 xs = true ∧ PyData.depthAll xs ≤ k
  | [], _ => ⟨rfl, by simp [PyData.canLayAll0], by simp [PyData.depthAll]⟩
  | x :: xs, h => by
    obtain ⟨a1, a2, a3⟩ := h x (by simp)
    obtain ⟨b1, b2, b3⟩ := pds_all fun y hy => h y (List.mem_cons_of_mem x hy)
    exact ⟨by simp [clns, a1, b1], by simp [PyData.canLayAll0, a2, b2], by simp only [PyData.depthAll]; omega⟩
theorem pd_tup {k : Nat} {xs : List PyData} (h : ∀ x ∈ xs, Pd k x) : Pd (k + 1) (.tuple xs) := by
  obtain ⟨a, b, c⟩ := pds_all h
  exact ⟨by simp [cln, a], by simp [PyData.canLay0, b], by simp only [PyData.depth]; omega⟩
theorem pd_lst {k : Nat} {xs : List PyData} (h : ∀ x ∈ xs, Pd k x) : Pd (k + 1) (.list xs) := by
  obtain ⟨a, b, c⟩ := pds_all h
  exact ⟨by simp [cln, a], by simp [PyData.canLay0, b], by simp only [PyData.depth]; omega⟩
theorem pds_in {k : Nat} : ∀ {xs : List PyData}, clns xs = true → PyData.canLayAll0 xs = true → PyData.depthAll xs ≤ k → ∀ x ∈ xs, Pd k x
  | [], _, _, _, x, hx => by cases hx
  | y :: ys, a, b, c, x, hx => by
    simp only [clns, Bool.and_eq_true] at a
    simp only [PyData.canLayAll0, Bool.and_eq_true] at b
    simp only [PyData.depthAll] at c
    rcases List.mem_cons.mp hx with rfl | hx
    · exact ⟨a.1, b.1, by omega⟩
    · exact pds_in a.2 b.2 (by omega) x hx
theorem pd_tup_in {k : Nat} {xs : List PyData} (h : Pd (k + 1) (.tuple xs)) : ∀ x ∈ xs, Pd k x := by
  obtain ⟨a, b, c⟩ := h
  simp only [PyData.depth] at c
  exact pds_in (by simpa [cln] using a) (by simpa [PyData.canLay0] using b) (by omega)
theorem pd_lst_in {k : Nat} {xs : List PyData} (h : Pd (k + 1) (.list xs)) : ∀ x ∈ xs, Pd k x := by
  obtain ⟨a, b, c⟩ := h
  simp only [PyData.depth] at c
  exact pds_in (by simpa [cln] using a) (by simpa [PyData.canLay0] using b) (by omega)
theorem okEq_pd {d e : PyData} (h1 : Pd 60 d) (h2 : Pd 60 e) : okEq d e = true := by
  obtain ⟨a1, a2, a3⟩ := h1
  obtain ⟨b1, b2, b3⟩ := h2
  unfold okEq SeqAt.shaped
  rw [a1, b1, a2, b2, decide_eq_true (show d.depth ≤ 64 by omega), decide_eq_true (show e.depth ≤ 64 by omega)]
  rfl
theorem eq_pd {d e : PyData} (h1 : Pd 60 d) (h2 : Pd 60 e) : eqD d e = some (.fz (.bool (d.eqv e))) := by
  unfold eqD
  rw [okEq_pd h1 h2]
  rfl
theorem ne_pd {d e : PyData} (h1 : Pd 60 d) (h2 : Pd 60 e) : neD d e = some (.fz (.bool (!d.eqv e))) := by
  unfold neD
  rw [okEq_pd h1 h2]
  rfl
theorem inB_pd {d : PyData} {xs : List PyData} (h1 : Pd 60 d) (h2 : ∀ x ∈ xs, Pd 59 x) : inB d (.list xs) = some (xs.any fun z => z.eqv d) := by
  obtain ⟨a1, a2, a3⟩ := h1
  obtain ⟨b1, b2, b3⟩ := pds_all h2
  have c : ((cln d && clns xs) && (SeqAt.shaped d && SeqAt.shaped (.list xs))) = true := by
    unfold SeqAt.shaped
    rw [a1, b1, a2, show PyData.canLay0 (.list xs) = true by simp [PyData.canLay0, b2], decide_eq_true (show d.depth ≤ 64 by omega), decide_eq_true (show (PyData.list xs).depth ≤ 64 by simp only [PyData.depth]; omega)]
    rfl
  show (if ((cln d && clns xs) && (SeqAt.shaped d && SeqAt.shaped (.list xs))) = true then some (xs.any fun z => z.eqv d) else none) = _
  rw [if_pos c]
def PdL (k : Nat) (xs : List PyData) : Prop := ∀ x ∈ xs, Pd k x
theorem PdL.nil {k : Nat} : PdL k [] := fun x hx => by cases hx
theorem PdL.cons {k : Nat} {x : PyData} {xs : List PyData} (h : Pd k x) (t : PdL k xs) : PdL k (x :: xs) := fun y hy => by
  rcases List.mem_cons.mp hy with rfl | hy
  · exact h
  · exact t y hy
theorem PdL.map {ι : Type} {k : Nat} {u : ι → PyData} {xs : List ι} (h : ∀ x ∈ xs, Pd k (u x)) : PdL k (xs.map u) := fun y hy => by
  obtain ⟨x, hx, rfl⟩ := List.mem_map.mp hy
  exact h x hx
theorem PdL.sub {k : Nat} {xs ys : List PyData} (h : PdL k ys) (s : ∀ x ∈ xs, x ∈ ys) : PdL k xs := fun x hx => h x (s x hx)
theorem PdL.mono {k j : Nat} {xs : List PyData} (h : PdL k xs) (l : k ≤ j) : PdL j xs := fun x hx => (h x hx).mono l
/-! no truths inside: equal means the same -/
mutual
def nbl : PyData → Bool
  | .bool _ => false
  | .dict _ => false
  | .list xs => nbls xs
  | .tuple xs => nbls xs
  | _ => true
def nbls : List PyData → Bool
  | [] => true
  | x :: xs => nbl x && nbls xs
end
mutual
theorem eqv_nbl : ∀ d e : PyData, nbl d = true → nbl e = true → (PyData.eqv d e = true ↔ d = e)
  | .none, e, _, h => by cases e <;> simp_all [PyData.eqv, nbl]
  | .bool _, _, h, _ => by simp [nbl] at h
  | .dict _, _, h, _ => by simp [nbl] at h
  | .int i, e, _, h => by cases e <;> simp_all [PyData.eqv, nbl]
  | .str x, e, _, h => by cases e <;> simp_all [PyData.eqv, nbl]
  | .list xs, e, h1, h2 => by
    cases e with
    | list ys =>
      simp only [PyData.eqv, PyData.list.injEq]
      exact eqvs_nbl xs ys (by simpa [nbl] using h1) (by simpa [nbl] using h2)
    | _ => simp [PyData.eqv]
  | .tuple xs, e, h1, h2 => by
    cases e with
    | tuple ys =>
      simp only [PyData.eqv, PyData.tuple.injEq]
      exact eqvs_nbl xs ys (by simpa [nbl] using h1) (by simpa [nbl] using h2)
    | _ => simp [PyData.eqv]
theorem eqvs_nbl : ∀ xs ys : List PyData, nbls xs = true → nbls ys = true → (PyData.eqvAll xs ys = true ↔ xs = ys)
  | [], [], _, _ => by simp [PyData.eqvAll]
  | [], _ :: _, _, _ => by simp [PyData.eqvAll]
  | _ :: _, [], _, _ => by simp [PyData.eqvAll]
  | x :: xs, y :: ys, h1, h2 => by
    simp only [nbls, Bool.and_eq_true] at h1 h2
    simp only [PyData.eqvAll, Bool.and_eq_true, List.cons.injEq]
    rw [eqv_nbl x y h1.1 h2.1, eqvs_nbl xs ys h1.2 h2.2]
end
theorem nbls_of : ∀ {xs : List PyData}, (∀ x ∈ xs, nbl x = true) → nbls xs = true
  | [], _ => rfl
  | x :: xs, h => by simp only [nbls, Bool.and_eq_true]; exact ⟨h x (by simp), nbls_of fun y hy => h y (by simp [hy])⟩
theorem nbl_tup {xs : List PyData} (h : ∀ x ∈ xs, nbl x = true) : nbl (.tuple xs) = true := by simp only [nbl]; exact nbls_of h
theorem nbl_lst {xs : List PyData} (h : ∀ x ∈ xs, nbl x = true) : nbl (.list xs) = true := by simp only [nbl]; exact nbls_of h
noncomputable def eqB (d e : PyData) : Bool := @decide (d = e) (Classical.propDecidable _)
theorem eqB_iff {d e : PyData} : eqB d e = true ↔ d = e := by unfold eqB; exact @decide_eq_true_iff _ (Classical.propDecidable _)
theorem eqB_self (d : PyData) : eqB d d = true := eqB_iff.mpr rfl
theorem eqv_eqB {d e : PyData} (h1 : nbl d = true) (h2 : nbl e = true) : PyData.eqv d e = eqB d e := by
  rw [Bool.eq_iff_iff, eqv_nbl d e h1 h2, eqB_iff]
/-! the law's own sameness -/
def Du : Nat → PyData → Prop
  | 0, d => Pd 60 d ∧ (∀ xs, d ≠ .list xs) ∧ (∀ xs, d ≠ .tuple xs)
  | k + 1, .list xs => xs.length ≤ 16777216 ∧ ∀ x ∈ xs, Du k x
  | k + 1, .tuple xs => xs.length ≤ 16777216 ∧ ∀ x ∈ xs, Du k x
  | _ + 1, d => Pd 60 d
theorem isi_non (t : Ty) : isiD t .none = some (.bool (isa .non t)) := (rfl)
theorem isi2_non (t u : Ty) : isi2D t u .none = some (.bool (isa .non t || isa .non u)) := (rfl)
theorem isa_non_non : isa .non .non = true := (rfl)
theorem isa_non_bl : isa .non .bl = false := (rfl)
theorem isa_non_int : isa .non .int = false := (rfl)
theorem isa_non_str : isa .non .str = false := (rfl)
theorem isa_non_lst : isa .non .lst = false := (rfl)
theorem isa_non_tup : isa .non .tup = false := (rfl)
theorem isn_non : isND .none .none = some (.fz (.bool true)) := (rfl)
theorem isnn_non : isNotND .none .none = some (.fz (.bool false)) := (rfl)
theorem isi_bl (b : Bool) (t : Ty) : isiD t (.bool b) = some (.bool (isa .bl t)) := (rfl)
theorem isi2_bl (b : Bool) (t u : Ty) : isi2D t u (.bool b) = some (.bool (isa .bl t || isa .bl u)) := (rfl)
theorem isa_bl_non : isa .bl .non = false := (rfl)
theorem isa_bl_bl : isa .bl .bl = true := (rfl)
theorem isa_bl_int : isa .bl .int = true := (rfl)
theorem isa_bl_str : isa .bl .str = false := (rfl)
theorem isa_bl_lst : isa .bl .lst = false := (rfl)
theorem isa_bl_tup : isa .bl .tup = false := (rfl)
theorem isn_bl (b : Bool) : isND (.bool b) .none = some (.fz (.bool false)) := (rfl)
theorem isnn_bl (b : Bool) : isNotND (.bool b) .none = some (.fz (.bool true)) := (rfl)
theorem isi_int (i : Int) (t : Ty) : isiD t (.int i) = some (.bool (isa .int t)) := (rfl)
theorem isi2_int (i : Int) (t u : Ty) : isi2D t u (.int i) = some (.bool (isa .int t || isa .int u)) := (rfl)
theorem isa_int_non : isa .int .non = false := (rfl)
theorem isa_int_bl : isa .int .bl = false := (rfl)
theorem isa_int_int : isa .int .int = true := (rfl)
theorem isa_int_str : isa .int .str = false := (rfl)
theorem isa_int_lst : isa .int .lst = false := (rfl)
theorem isa_int_tup : isa .int .tup = false := (rfl)
theorem isn_int (i : Int) : isND (.int i) .none = some (.fz (.bool false)) := (rfl)
theorem isnn_int (i : Int) : isNotND (.int i) .none = some (.fz (.bool true)) := (rfl)
theorem isi_str (x : Str) (t : Ty) : isiD t (.str x) = some (.bool (isa .str t)) := (rfl)
theorem isi2_str (x : Str) (t u : Ty) : isi2D t u (.str x) = some (.bool (isa .str t || isa .str u)) := (rfl)
theorem isa_str_non : isa .str .non = false := (rfl)
theorem isa_str_bl : isa .str .bl = false := (rfl)
theorem isa_str_int : isa .str .int = false := (rfl)
theorem isa_str_str : isa .str .str = true := (rfl)
theorem isa_str_lst : isa .str .lst = false := (rfl)
theorem isa_str_tup : isa .str .tup = false := (rfl)
theorem isn_str (x : Str) : isND (.str x) .none = some (.fz (.bool false)) := (rfl)
theorem isnn_str (x : Str) : isNotND (.str x) .none = some (.fz (.bool true)) := (rfl)
theorem isi_lst (xs : List PyData) (t : Ty) : isiD t (.list xs) = some (.bool (isa .lst t)) := (rfl)
theorem isi2_lst (xs : List PyData) (t u : Ty) : isi2D t u (.list xs) = some (.bool (isa .lst t || isa .lst u)) := (rfl)
theorem isa_lst_non : isa .lst .non = false := (rfl)
theorem isa_lst_bl : isa .lst .bl = false := (rfl)
theorem isa_lst_int : isa .lst .int = false := (rfl)
theorem isa_lst_str : isa .lst .str = false := (rfl)
theorem isa_lst_lst : isa .lst .lst = true := (rfl)
theorem isa_lst_tup : isa .lst .tup = false := (rfl)
theorem isn_lst (xs : List PyData) : isND (.list xs) .none = some (.fz (.bool false)) := (rfl)
theorem isnn_lst (xs : List PyData) : isNotND (.list xs) .none = some (.fz (.bool true)) := (rfl)
theorem isi_tup (xs : List PyData) (t : Ty) : isiD t (.tuple xs) = some (.bool (isa .tup t)) := (rfl)
theorem isi2_tup (xs : List PyData) (t u : Ty) : isi2D t u (.tuple xs) = some (.bool (isa .tup t || isa .tup u)) := (rfl)
theorem isa_tup_non : isa .tup .non = false := (rfl)
theorem isa_tup_bl : isa .tup .bl = false := (rfl)
theorem isa_tup_int : isa .tup .int = false := (rfl)
theorem isa_tup_str : isa .tup .str = false := (rfl)
theorem isa_tup_lst : isa .tup .lst = false := (rfl)
theorem isa_tup_tup : isa .tup .tup = true := (rfl)
theorem isn_tup (xs : List PyData) : isND (.tuple xs) .none = some (.fz (.bool false)) := (rfl)
theorem isnn_tup (xs : List PyData) : isNotND (.tuple xs) .none = some (.fz (.bool true)) := (rfl)
theorem bq_tt : (true == true) = true := (rfl)
theorem bq_tf : (true == false) = false := (rfl)
theorem bq_ft : (false == true) = false := (rfl)
theorem bq_ff : (false == false) = true := (rfl)
theorem bn_tt : (true != true) = false := (rfl)
theorem bn_tf : (true != false) = true := (rfl)
theorem bn_ft : (false != true) = true := (rfl)
theorem bn_ff : (false != false) = false := (rfl)
theorem eqBB (a b : Bool) : eqD (.bool a) (.bool b) = some (.fz (.bool (a == b))) := by rw [eq_pd (pd_bool a) (pd_bool b)]; cases a <;> cases b <;> rfl
theorem neBB (a b : Bool) : neD (.bool a) (.bool b) = some (.fz (.bool (a != b))) := by rw [ne_pd (pd_bool a) (pd_bool b)]; cases a <;> cases b <;> rfl
theorem eq_ne {d e : PyData} (h : d ≠ e) : eqB d e = false := by
  cases z : eqB d e with
  | false => rfl
  | true => exact absurd (eqB_iff.mp z) h
local macro_rules
  | `(tactic| simp_arith [$as,*] $[$l]?) => `(tactic| simp (disch := first | omega | (simp only [List.length_cons, List.length_nil, List.length_append, List.length_map, List.length_range, List.length_take, List.length_replicate]; omega)) only [dn_comp, q_beq1, q_beq2, q_beq3, q_beq4, q_beq5, q_beq6, q_beq7, q_beq8, dn_R1, dn_chain, chR_ok, rvd_fz, rvd_ol, boolOf_b, dn_orE, orER_b, orER_l, dn_sl, dn_on, dn_off, intOf_i, slice_l, slice_t, r_addL, r_addT, r_ixT, r_ixL, opt_map, atI_0, atI_1, atI_2, atI_3, atI_4, atI_5, arP_t, arP_f, List.getD_cons_zero, List.getD_cons_succ, dn_arP, dn_app, dn_arD, dn_bnd, bndR_ok, bndR_ex, dn_lft, dn_ret, dn_dC, dn_seq, seqR_nx, seqR_rt, seqR_bk, seqR_ct, seqR_ex, dn_nx, dn_call, callR_ok, dn_bin, binR_ok, dn_cmpT, boolR_ok, dn_tru, truR_b, truR_i, truR_n, truR_l, truR_t, dn_notT, dn_not, dn_andT, dn_orT, iteR_t, iteR_f, dn_sIf, dn_dIf, dn_and, dn_orD, andR_b, orR_b, dn_sRet, rtR_ok, dn_sDrop, dn_frz, frzR_fz, frzR_ol, dn_ofD, ofR_ok, ofR_ex, frzR_ex, rtR_ex, dn_sSet, dn_put, ifB_t, ifB_f, rven_fz, rven_ol, isBl_no, isBl_fz, isBl_ol, isBl_ow, dn_name, nameR_fz, nameR_ol, dn_move, moveR_fz, moveR_ol, dn_lenP, lenR_some, dn_peek, peekR_ok, itemR_some, seqE_ol, seqE_bl, seqE_t, seqE_l, seqE_sl, seqE_st, dn_item, itmR_at, dn_nil, dn_cons, consR_ok, consK_ok, dn_tup, dn_lst, dn_un, dn_anil, dn_acons, aconsR_fz, aconsR_ol, aconsK_ok, dn_alend, lendR_ol, lendR_bl, lendR_sc, lent_nil, lent_fz, lent_tp, lent_sc, lent_sl, lentS_n, lentB_n, lentB_s, dn_fn, dn_apply, applyR_some, ar_fz, ar_tp, ar_sc, ar_sl, dn_enSl_ol, dn_enSl_bl, retR_ok, retR_sl, putR_ol, putR_bl, dn_sFor, dn_iSeq, seqOf_l, seqOf_t, dn_iRg1, dn_iRg2, dn_iZp, dn_iZ3, dn_iEnB, dn_sAsg, dn_sApp, ownOf_ol, ownOf_bl, appR_ok, updR_ol, updR_bl, updK_ol, updK_bl, appD_ok, dn_sSetIx, dn_setx, setIxD_eq, dn_sParA, dn_parA, parR_ok, dn_sParX, dn_parX, parXR_ok, rvA_fz, rvA_tp, dn_sPar, nmR_some, nmAll_nil, nmAll_cons, dn_hName, dn_hTup, dn_hNil, dn_hCons, arP_t, arP_f, List.getD_cons_zero, List.getD_cons_succ, dn_arP, dn_app, dn_arD, rtOf_rt, rtOf_nx, cond_true, cond_false, List.getElem?_cons_zero, List.getElem?_cons_succ, List.set_cons_zero, List.set_cons_succ, List.map_cons, List.map_nil, Option.isSome_some, Option.bind_some, Nat.beq_eq_true_eq, List.cons_append, List.nil_append, List.append_nil, List.length_cons, List.length_nil, Nat.reduceSub, Nat.reduceAdd, List.replicate_succ, List.replicate_zero, if_true, Nat.reduceLeDiff, okLen_dn, Bool.not_true, Bool.not_false, Bool.false_eq_true, if_false, n_addI, n_subI, n_ltI, n_gtI, n_leI, n_geI, n_negI, n_eqI, n_neI, n_lenL, n_lenT, n_tupL, n_tupT, n_lstL, n_lstT, n_isN_n, isi_non, isi2_non, isa_non_non, isa_non_bl, isa_non_int, isa_non_str, isa_non_lst, isa_non_tup, isn_non, isnn_non, isi_bl, isi2_bl, isa_bl_non, isa_bl_bl, isa_bl_int, isa_bl_str, isa_bl_lst, isa_bl_tup, isn_bl, isnn_bl, isi_int, isi2_int, isa_int_non, isa_int_bl, isa_int_int, isa_int_str, isa_int_lst, isa_int_tup, isn_int, isnn_int, isi_str, isi2_str, isa_str_non, isa_str_bl, isa_str_int, isa_str_str, isa_str_lst, isa_str_tup, isn_str, isnn_str, isi_lst, isi2_lst, isa_lst_non, isa_lst_bl, isa_lst_int, isa_lst_str, isa_lst_lst, isa_lst_tup, isn_lst, isnn_lst, isi_tup, isi2_tup, isa_tup_non, isa_tup_bl, isa_tup_int, isa_tup_str, isa_tup_lst, isa_tup_tup, isn_tup, isnn_tup, Bool.or_true, Bool.or_false, Bool.true_or, Bool.false_or, Bool.or_self, bq_tt, bq_tf, bq_ft, bq_ff, bn_tt, bn_tf, bn_ft, bn_ff, $as,*] $[$l]?)
theorem same_int (self : Den) {d : PyData} (i : Int) (h : Pd 60 d) : Gv (runF 2 4 (bSame self)) [.fz d, .fz (.int i)] (.fz (.bool (eqB d (.int i)))) := by
  refine gv_rt ?_
  unfold bSame
  cases d with
  | dict kvs => have := h.1; simp [cln] at this
  | int j =>
    simp_arith []
    rw [← eqv_eqB (d := .int j) (e := .int i) rfl rfl, eqv_ii]
  | _ =>
    simp_arith []
    rw [eq_ne (by simp)]
theorem same_none (self : Den) {d : PyData} (h : Pd 60 d) : Gv (runF 2 4 (bSame self)) [.fz d, .fz .none] (.fz (.bool (eqB d .none))) := by
  refine gv_rt ?_
  unfold bSame
  have e := eq_pd h (e := .none) pd_none
  cases d with
  | dict kvs => have := h.1; simp [cln] at this
  | none =>
    simp_arith [e, PyData.eqv, eqBB, eqB_self]
  | _ =>
    simp_arith [e, PyData.eqv, eqBB]
    rw [eq_ne (by simp)]
theorem same_bool (self : Den) {d : PyData} (b : Bool) (h : Pd 60 d) : Gv (runF 2 4 (bSame self)) [.fz d, .fz (.bool b)] (.fz (.bool (eqB d (.bool b)))) := by
  refine gv_rt ?_
  unfold bSame
  have e := eq_pd h (e := .bool b) (pd_bool b)
  cases d with
  | dict kvs => have := h.1; simp [cln] at this
  | bool c =>
    cases b <;> cases c <;> simp_arith [e, PyData.eqv, eqBB, eqB_self] <;> (try rw [eq_ne (by simp)])
  | int j =>
    generalize PyData.eqv (.int j) (.bool b) = z at e
    cases z <;> simp_arith [e, eqBB] <;> rw [eq_ne (by simp)]
  | _ =>
    simp_arith [e, PyData.eqv, eqBB]
    rw [eq_ne (by simp)]
theorem same_str (self : Den) {d : PyData} {x : Str} (hx : PyData.strOk x = true) (h : Pd 60 d) : Gv (runF 2 4 (bSame self)) [.fz d, .fz (.str x)] (.fz (.bool (eqB d (.str x)))) := by
  refine gv_rt ?_
  unfold bSame
  have e := eq_pd h (e := .str x) (pd_str hx)
  cases d with
  | dict kvs => have := h.1; simp [cln] at this
  | str y =>
    rw [← eqv_eqB (d := .str y) (e := .str x) rfl rfl]
    generalize PyData.eqv (.str y) (.str x) = z at e
    cases z <;> simp_arith [e, eqBB]
  | _ =>
    simp_arith [e, PyData.eqv, eqBB]
    rw [eq_ne (by simp)]
theorem bools_b {ι : Type} (b : ι → Bool) : ∀ l : List ι, bools (l.map fun k => .bool (b k)) = some (l.map b)
  | [] => rfl
  | x :: l => by
    have ih := bools_b b l
    rw [List.map_cons, List.map_cons]
    unfold bools
    rw [ih]
    rfl
theorem all_b {ι : Type} (b : ι → Bool) (l : List ι) : allD [.list (l.map fun k => .bool (b k))] = some (.fz (.bool (l.all b))) := by
  show (bools (l.map fun k => .bool (b k))).bind (fun bs => fB (bs.all id)) = _
  rw [bools_b]
  show fB ((l.map b).all id) = _
  rw [List.all_map]
  rfl
theorem zipD_zip : ∀ xs ys : List PyData, zipD xs ys = (xs.zip ys).map fun p => .tuple [p.1, p.2]
  | [], _ => by simp [zipD]
  | _ :: _, [] => by simp [zipD]
  | x :: xs, y :: ys => by
    show PyData.tuple [x, y] :: zipD xs ys = _
    rw [zipD_zip xs ys, List.zip_cons_cons, List.map_cons]
theorem zip_all : ∀ {xs ys : List PyData}, xs.length = ys.length → ((xs.zip ys).all fun p => eqB p.1 p.2) = true → xs = ys
  | [], [], _, _ => rfl
  | [], _ :: _, h, _ => by simp at h
  | _ :: _, [], h, _ => by simp at h
  | x :: xs, y :: ys, h, q => by
    rw [List.zip_cons_cons, List.all_cons, Bool.and_eq_true] at q
    have e1 : x = y := eqB_iff.mp q.1
    rw [e1, zip_all (by simpa using h) q.2]
theorem zip_same : ∀ xs : List PyData, ((xs.zip xs).all fun p => eqB p.1 p.2) = true
  | [] => rfl
  | x :: xs => by rw [List.zip_cons_cons, List.all_cons, Bool.and_eq_true]; exact ⟨eqB_self x, zip_same xs⟩
theorem zip_eqB {xs ys : List PyData} (h : xs.length = ys.length) : ((xs.zip ys).all fun p => eqB p.1 p.2) = eqB (.tuple xs) (.tuple ys) := by
  rw [Bool.eq_iff_iff, eqB_iff]
  exact ⟨fun q => by rw [zip_all h q], fun e => by injection e with e; subst e; exact zip_same xs⟩
theorem zip_eqBL {xs ys : List PyData} (h : xs.length = ys.length) : ((xs.zip ys).all fun p => eqB p.1 p.2) = eqB (.list xs) (.list ys) := by
  rw [Bool.eq_iff_iff, eqB_iff]
  exact ⟨fun q => by rw [zip_all h q], fun e => by injection e with e; subst e; exact zip_same xs⟩
theorem zip_mem {xs ys : List PyData} {p : PyData × PyData} (h : p ∈ xs.zip ys) : p.1 ∈ xs ∧ p.2 ∈ ys := ⟨(List.of_mem_zip h).1, (List.of_mem_zip h).2⟩
theorem pd_tup_in' {k : Nat} {xs : List PyData} (h : Pd k (.tuple xs)) : ∀ x ∈ xs, Pd k x := fun x hx => by
  cases k with
  | zero => have := h.2.2; simp [PyData.depth] at this
  | succ k => exact (pd_tup_in h x hx).mono (by omega)
theorem pd_lst_in' {k : Nat} {xs : List PyData} (h : Pd k (.list xs)) : ∀ x ∈ xs, Pd k x := fun x hx => by
  cases k with
  | zero => have := h.2.2; simp [PyData.depth] at this
  | succ k => exact (pd_lst_in h x hx).mono (by omega)
theorem zipOf_t (xs ys : List PyData) : zipOf [.tuple xs, .tuple ys] = some (zipD xs ys) := (rfl)
theorem zipOf_l (xs ys : List PyData) : zipOf [.list xs, .list ys] = some (zipD xs ys) := (rfl)
theorem same_tup (self : Den) {d : PyData} {ys : List PyData} (h : Pd 60 d) (hl : ys.length ≤ 16777216) (ih : ∀ y ∈ ys, ∀ g, Pd 60 g → Gv self [.fz g, .fz y] (.fz (.bool (eqB g y)))) : Gv (runF 2 4 (bSame self)) [.fz d, .fz (.tuple ys)] (.fz (.bool (eqB d (.tuple ys)))) := by
  refine gv_rt ?_
  unfold bSame
  cases d with
  | dict kvs => have := h.1; simp [cln] at this
  | tuple xs =>
    by_cases e : xs.length = ys.length
    · simp_arith [neBB, e, decide_true, zipOf_t, zipD_zip]
      rw [comp_tm (ρ := [En.fz (PyData.tuple xs), En.fz (PyData.tuple ys), En.no, En.no]) (E1 := fun p => [En.fz (PyData.tuple xs), En.fz (PyData.tuple ys), .fz p.1, .fz p.2]) (g := fun p : PyData × PyData => .bool (eqB p.1 p.2)) rfl (fun _ => rfl) (fun _ => rfl) rfl (fun p hp => by
        obtain ⟨h1, h2⟩ := zip_mem hp
        simp_arith [retR_gv (ih _ h2 _ (pd_tup_in' h _ h1))]) (by rw [List.length_zip]; omega)]
      simp_arith [all_b (fun p : PyData × PyData => eqB p.1 p.2), zip_eqB e]
    · have e2 : decide ((xs.length : Int) = (ys.length : Int)) = false := decide_eq_false (by omega)
      simp_arith [neBB, e2]
      rw [eq_ne (by intro z; injection z with z; exact e (by rw [z]))]
  | _ =>
    simp_arith [neBB]
    rw [eq_ne (by simp)]
theorem same_lst (self : Den) {d : PyData} {ys : List PyData} (h : Pd 60 d) (hl : ys.length ≤ 16777216) (ih : ∀ y ∈ ys, ∀ g, Pd 60 g → Gv self [.fz g, .fz y] (.fz (.bool (eqB g y)))) : Gv (runF 2 4 (bSame self)) [.fz d, .fz (.list ys)] (.fz (.bool (eqB d (.list ys)))) := by
  refine gv_rt ?_
  unfold bSame
  cases d with
  | dict kvs => have := h.1; simp [cln] at this
  | list xs =>
    by_cases e : xs.length = ys.length
    · simp_arith [neBB, e, decide_true, zipOf_l, zipD_zip]
      rw [comp_tm (ρ := [En.fz (PyData.list xs), En.fz (PyData.list ys), En.no, En.no]) (E1 := fun p => [En.fz (PyData.list xs), En.fz (PyData.list ys), .fz p.1, .fz p.2]) (g := fun p : PyData × PyData => .bool (eqB p.1 p.2)) rfl (fun _ => rfl) (fun _ => rfl) rfl (fun p hp => by
        obtain ⟨h1, h2⟩ := zip_mem hp
        simp_arith [retR_gv (ih _ h2 _ (pd_lst_in' h _ h1))]) (by rw [List.length_zip]; omega)]
      simp_arith [all_b (fun p : PyData × PyData => eqB p.1 p.2), zip_eqBL e]
    · have e2 : decide ((xs.length : Int) = (ys.length : Int)) = false := decide_eq_false (by omega)
      simp_arith [neBB, e2]
      rw [eq_ne (by intro z; injection z with z; exact e (by rw [z]))]
  | _ =>
    simp_arith [neBB]
    rw [eq_ne (by simp)]
theorem same_is : ∀ (k : Nat) (due got : PyData), Du k due → Pd 60 got → Gv (denSame (k + 1)) [.fz got, .fz due] (.fz (.bool (eqB got due)))
  | k, .none, got, _, h => same_none _ h
  | k, .bool b, got, _, h => same_bool _ b h
  | k, .int i, got, _, h => same_int _ i h
  | k, .str x, got, hd, h => by
    have : Pd 60 (.str x) := by cases k with | zero => exact hd.1 | succ k => exact hd
    exact same_str _ (by simpa [PyData.canLay0] using this.2.1) h
  | k, .dict kv, got, hd, h => by
    have : Pd 60 (.dict kv) := by cases k with | zero => exact hd.1 | succ k => exact hd
    have := this.1
    simp [cln] at this
  | 0, .list xs, got, hd, h => absurd rfl (hd.2.1 xs)
  | 0, .tuple xs, got, hd, h => absurd rfl (hd.2.2 xs)
  | k + 1, .list xs, got, hd, h => same_lst _ h hd.1 fun y hy g hg => same_is k y g (hd.2 y hy) hg
  | k + 1, .tuple xs, got, hd, h => same_tup _ h hd.1 fun y hy g hg => same_is k y g (hd.2 y hy) hg
end Gx

/-! S6: the words of deeds, compared. -/
namespace Gx
open PySem PySem.Spec L2
open PyProof.Rows hiding St
end Gx

/-! S7: dicts of one's own, walked by rewriting. -/
namespace Gx
open PySem PySem.Spec L2
open PyProof.Rows hiding St
section
variable {ρ : Ev}
abbrev Ps := List (PyData × PyData)
theorem dn_newD : dNewD ρ = .ok (.od [], ρ) := (rfl)
theorem rven_od (ps : Ps) : (Rv.od ps).en = .od ps := (rfl)
theorem rvd_od (ps : Ps) : (Rv.od ps).d = dicD ps := (rfl)
theorem isBl_od (ps : Ps) : isBl (some (.od ps)) = false := (rfl)
theorem frzR_od (ps : Ps) : frzR (.ok (.od ps, ρ)) = .ok (dicD ps, ρ) := (rfl)
theorem nameR_od (i : Nat) (ps : Ps) : nameR (some (.od ps)) i ρ = .ok (dicD ps, ρ.set i (.fz (dicD ps))) := (rfl)
theorem moveR_od (i : Nat) (ps : Ps) : moveR (some (.od ps)) i ρ = .ok (.od ps, ρ.set i .no) := (rfl)
theorem aconsR_od (ps : Ps) (g : Dn (List Ar)) : aconsR (.ok (.od ps, ρ)) g = aconsK (.tq (.d ps)) (g ρ) := (rfl)
theorem rvA_td (ps : Ps) : rvA (.tq (.d ps)) = some (.od ps) := (rfl)
theorem ar_td (ps : Ps) : Ar.en ρ (.tq (.d ps)) = .bd ps := (rfl)
theorem lent_td (d : Ps) (as : List Ar) : lent (.tq (.d d) :: as) = lentB (lent as) := by
  show (match lent as with | some none => some none | some (some (k, i)) => some (some (k + 1, i)) | none => none) = _
  unfold lentB
  cases lent as with | none => rfl | some o => cases o <;> rfl
theorem lendR_od (ps : Ps) (i : Nat) (g : Dn (List Ar)) : lendR (some (.od ps)) i g ρ = aconsK (.sl i) (g ρ) := (rfl)
theorem lendR_bd (ps : Ps) (i : Nat) (g : Dn (List Ar)) : lendR (some (.bd ps)) i g ρ = aconsK (.sl i) (g ρ) := (rfl)
theorem enSl_od (ps : Ps) : enSl (some (.od ps)) = .bd ps := (rfl)
theorem enSl_bd (ps : Ps) : enSl (some (.bd ps)) = .bd ps := (rfl)
theorem putR_od (i : Nat) (xs ys : Ps) : putR ρ i (some (.bd ys)) (some (.od xs)) = ρ.set i (.od ys) := (rfl)
theorem putR_bd (i : Nat) (xs ys : Ps) : putR ρ i (some (.bd ys)) (some (.bd xs)) = ρ.set i (.bd ys) := (rfl)
theorem dicE_od (ps : Ps) : dicE (some (.od ps)) = some ps := (rfl)
theorem dicE_bd (ps : Ps) : dicE (some (.bd ps)) = some ps := (rfl)
theorem dicE_fz (ps : Ps) : dicE (some (.fz (dicD ps))) = some ps := (rfl)
theorem ownD_od (ps : Ps) : ownOfD (some (.od ps)) = some ps := (rfl)
theorem ownD_bd (ps : Ps) : ownOfD (some (.bd ps)) = some ps := (rfl)
/-! looks -/
def lkR (o : Option (Option PyData)) (ρ : Ev) : Rs (PyData × Ev) := match o with
  | some (some d) => .ok (d, ρ)
  | _ => .st
def dkK (o : Option Ps) (k : PyData) (ρ : Ev) : Rs (PyData × Ev) := lkR (o.bind fun ps => atK ps k) ρ
theorem dn_dk (i : Nat) (f : Dn PyData) : dDk i f ρ = ifB (dicE ρ[i]?).isSome (bndR (f ρ) fun k ρ => dkK (dicE ρ[i]?) k ρ) .st := by
  unfold dDk ifB
  cases (dicE ρ[i]?).isSome with
  | false => rfl
  | true =>
    show bnd f _ ρ = _
    rw [dn_bnd]
    rfl
theorem dkK_some (ps : Ps) (k : PyData) : dkK (some ps) k ρ = lkR (atK ps k) ρ := (rfl)
theorem lkR_some (d : PyData) : lkR (some (some d)) ρ = .ok (d, ρ) := (rfl)
def inR (neg : Bool) (o : Option (Option PyData)) (ρ : Ev) : Rs (PyData × Ev) := match o with
  | some o => .ok (.bool (if neg then !o.isSome else o.isSome), ρ)
  | _ => .st
def inK (neg : Bool) (o : Option Ps) (k : PyData) (ρ : Ev) : Rs (PyData × Ev) := inR neg (o.bind fun ps => atK ps k) ρ
theorem dn_inD (neg : Bool) (i : Nat) (f : Dn PyData) : dInD neg i f ρ = bndR (f ρ) fun k ρ => inK neg (dicE ρ[i]?) k ρ := by
  show bnd f _ ρ = _
  rw [dn_bnd]
  rfl
theorem inK_some (neg : Bool) (ps : Ps) (k : PyData) : inK neg (some ps) k ρ = inR neg (atK ps k) ρ := (rfl)
theorem inR_f (o : Option PyData) : inR false (some o) ρ = .ok (.bool o.isSome, ρ) := (rfl)
theorem inR_t (o : Option PyData) : inR true (some o) ρ = .ok (.bool (!o.isSome), ρ) := (rfl)
theorem dn_inT (neg : Bool) (i : Nat) (f : Dn PyData) : dInT neg i f ρ = bndR (dInD neg i f ρ) fun d => lft (boolOf d) := dn_bnd _ _
def getR (x : PyData) (o : Option (Option PyData)) (ρ : Ev) : Rs (PyData × Ev) := match o with
  | some o => .ok (o.getD x, ρ)
  | _ => .st
def getK (x : PyData) (o : Option Ps) (k : PyData) (ρ : Ev) : Rs (PyData × Ev) := getR x (o.bind fun ps => atK ps k) ρ
theorem dn_get1 (i : Nat) (f : Dn PyData) : dGet1 i f ρ = ifB (dicE ρ[i]?).isSome (bndR (f ρ) fun k ρ => getK .none (dicE ρ[i]?) k ρ) .st := by
  unfold dGet1 ifB
  cases (dicE ρ[i]?).isSome with
  | false => rfl
  | true =>
    show bnd f _ ρ = _
    rw [dn_bnd]
    rfl
theorem dn_get2 (i : Nat) (f g : Dn PyData) : dGet2 i f g ρ = ifB (dicE ρ[i]?).isSome (bndR (f ρ) fun k => bnd g fun x ρ => getK x (dicE ρ[i]?) k ρ) .st := by
  unfold dGet2 ifB
  cases (dicE ρ[i]?).isSome with
  | false => rfl
  | true =>
    show bnd f _ ρ = _
    rw [dn_bnd]
    rfl
theorem getK_some (x : PyData) (ps : Ps) (k : PyData) : getK x (some ps) k ρ = getR x (atK ps k) ρ := (rfl)
theorem getR_s (x d : PyData) : getR x (some (some d)) ρ = .ok (d, ρ) := (rfl)
theorem getR_n (x : PyData) : getR x (some none) ρ = .ok (x, ρ) := (rfl)
def lenDR (o : Option Ps) (ρ : Ev) : Rs (PyData × Ev) := match o with
  | some ps => .ok (.int ps.length, ρ)
  | none => .st
theorem dn_lenD (i : Nat) : dLenD i ρ = lenDR (dicE ρ[i]?) ρ := (rfl)
theorem lenDR_some (ps : Ps) : lenDR (some ps) ρ = .ok (.int ps.length, ρ) := (rfl)
theorem dn_callK (g : List PyData → List PyData → Option Rv) (f fk : Dn (List PyData)) : dCallK g f fk ρ = bndR (f ρ) fun ds => bnd fk fun es => lft (g ds es) := dn_bnd _ _
/-! changes -/
def updDR (o : Option En) (i : Nat) (g : Ps → Option Ps) (ρ : Ev) : Rs (Fl × Ev) := match (ownOfD o).bind g with
  | some ys => .ok (.nx, ρ.set i (reKindC o (.d ys)))
  | none => .st
def updDK (o : Option Ps) (i : Nat) (k : Bool) (ρ : Ev) : Rs (Fl × Ev) := match o with
  | some ys => .ok (.nx, ρ.set i (if k then .bd ys else .od ys))
  | none => .st
theorem dn_updD (i : Nat) (g : Ps → Option Ps) : updD i g ρ = updDR ρ[i]? i g ρ := (rfl)
theorem updDR_od (xs : Ps) (i : Nat) (g : Ps → Option Ps) : updDR (some (.od xs)) i g ρ = updDK (g xs) i false ρ := by cases e : g xs <;> simp [updDR, updDK, ownOfD, reKindC, e]
theorem updDR_bd (xs : Ps) (i : Nat) (g : Ps → Option Ps) : updDR (some (.bd xs)) i g ρ = updDK (g xs) i true ρ := by cases e : g xs <;> simp [updDR, updDK, ownOfD, reKindC, e]
theorem updDK_od (ys : Ps) (i : Nat) : updDK (some ys) i false ρ = .ok (.nx, ρ.set i (.od ys)) := (rfl)
theorem updDK_bd (ys : Ps) (i : Nat) : updDK (some ys) i true ρ = .ok (.nx, ρ.set i (.bd ys)) := (rfl)
def putdR (i : Nat) (fk : Dn PyData) (d : PyData) : Dn Fl := fun ρ => ifB (ownOfD ρ[i]?).isSome (bndR (fk ρ) fun k => updD i (putD d k)) .st
theorem dn_putdR (i : Nat) (fk : Dn PyData) (d : PyData) : putdR i fk d ρ = ifB (ownOfD ρ[i]?).isSome (bndR (fk ρ) fun k => updD i (putD d k)) .st := (rfl)
theorem dn_putD (i : Nat) (fk f : Dn PyData) : sPutD i fk f ρ = bndR (f ρ) (putdR i fk) := by
  show bnd f _ ρ = _
  rw [dn_bnd]
  have e : (fun d (ρ : Ev) => if (ownOfD ρ[i]?).isSome then bnd fk (fun k => updD i (putD d k)) ρ else Rs.st) = putdR i fk := by
    funext d τ
    unfold putdR ifB
    cases (ownOfD τ[i]?).isSome with
    | false => rfl
    | true =>
      show bnd fk _ τ = _
      rw [dn_bnd]
      rfl
  rw [← e]
theorem dn_delD (i : Nat) (fk : Dn PyData) : sDelD i fk ρ = ifB (ownOfD ρ[i]?).isSome (bndR (fk ρ) fun k => updD i (delD k)) .st := by
  unfold sDelD ifB
  cases (ownOfD ρ[i]?).isSome with
  | false => rfl
  | true =>
    show bnd fk _ ρ = _
    rw [dn_bnd]
    rfl
theorem dn_setdD (i : Nat) (fk f : Dn PyData) : sSetdD i fk f ρ = ifB (ownOfD ρ[i]?).isSome (bndR (fk ρ) fun k => bnd f fun d => updD i (setdD d k)) .st := by
  unfold sSetdD ifB
  cases (ownOfD ρ[i]?).isSome with
  | false => rfl
  | true =>
    show bnd fk _ ρ = _
    rw [dn_bnd]
    rfl
end
end Gx

/-! E21: lots below 32, looked through one by one. -/
namespace Sh
open PySem PySem.Spec L2 Gx M10
open PyProof.Rows hiding St
mutual
def eqP : PyData → PyData → Bool
  | .none, .none => true
  | .bool a, .bool b => a == b
  | .int a, .int b => a == b
  | .list a, .list b => eqPs a b
  | .tuple a, .tuple b => eqPs a b
  | _, _ => false
def eqPs : List PyData → List PyData → Bool
  | [], [] => true
  | a :: as, b :: bs => eqP a b && eqPs as bs
  | _, _ => false
end
mutual
theorem eqP_ok : ∀ a b : PyData, eqP a b = true → a = b
  | .none, b, h => by cases b <;> simp [eqP] at h ⊢
  | .bool a, b, h => by cases b <;> simp [eqP] at h ⊢; exact h
  | .int a, b, h => by cases b <;> simp [eqP] at h ⊢; exact h
  | .str a, b, h => by cases b <;> simp [eqP] at h
  | .dict a, b, h => by cases b <;> simp [eqP] at h
  | .list a, b, h => by
    cases b with
    | list b => rw [eqPs_ok a b (by simpa [eqP] using h)]
    | _ => simp [eqP] at h
  | .tuple a, b, h => by
    cases b with
    | tuple b => rw [eqPs_ok a b (by simpa [eqP] using h)]
    | _ => simp [eqP] at h
theorem eqPs_ok : ∀ a b : List PyData, eqPs a b = true → a = b
  | [], b, h => by cases b <;> simp [eqPs] at h ⊢
  | a :: as, b, h => by
    cases b with
    | nil => simp [eqPs] at h
    | cons b bs =>
      simp only [eqPs, Bool.and_eq_true] at h
      rw [eqP_ok a b h.1, eqPs_ok as bs h.2]
end
def isG (x : Rs (Rv × List En)) (r : Rv) : Bool := match x, r with
  | .ok (.fz d, _), .fz e => eqP d e
  | .ok (.ol d, _), .ol e => eqPs d e
  | _, _ => false
theorem isG_ok {den : Den} {as : List En} {r : Rv} (h : isG (den as) r = true) : Gv den as r := by
  unfold isG at h
  unfold Gv
  cases e : den as with
  | st => rw [e] at h; cases h
  | ex x => rw [e] at h; cases h
  | ok z =>
    obtain ⟨v, es⟩ := z
    rw [e] at h
    cases v with
    | fz d =>
      cases r with
      | fz d2 => exact ⟨es, by rw [eqP_ok _ _ h]⟩
      | oo _ => cases h
    | oo c =>
      cases c with
      | d _ => cases h
      | k _ => cases h
      | l d =>
      cases r with
      | fz _ => cases h
      | oo c2 =>
        cases c2 with
        | d _ => cases h
        | k _ => cases h
        | l d2 => exact ⟨es, by rw [eqPs_ok _ _ h]⟩
def intM (m : Nat) : PyData := .int (m : Int)
def lotM (m : Nat) : PyData := .tuple ((bits m).map intM)
def famM (ms : List Nat) : PyData := .tuple (ms.map lotM)
def pop (m : Nat) : Nat := (bits m).length
theorem all1 {P : Nat → Bool} {n : Nat} (h : (List.range n).all P = true) {m : Nat} (hm : m < n) : P m = true := List.all_eq_true.mp h m (List.mem_range.mpr hm)
theorem all2 {P : Nat → Nat → Bool} {n k : Nat} (h : (List.range n).all (fun m => (List.range k).all (P m)) = true) {a b : Nat} (ha : a < n) (hb : b < k) : P a b = true := all1 (all1 h ha) hb
theorem c_within : (List.range 32).all (fun a => (List.range 32).all fun b => isG (den_within [.fz (lotM a), .fz (lotM b)]) (.fz (.bool (sub a b)))) = true := by kernel_rfl
end Sh

/-! M11: the walk that keeps the least masks; blockers as a fold. -/
namespace M10
def keep (kept : List Nat) (m : Nat) : List Nat := if kept.all (fun k => k &&& m != k) then kept ++ [m] else kept
def srt (ms : List Nat) : List Nat := (List.range 32).filter fun m => ms.contains m
end M10

/-! E22: families as the program makes them. -/
namespace Sh
open PySem PySem.Spec L2 Gx M10
open PyProof.Rows hiding St
theorem frzF {ρ ρ1 : Ev} {f : Dn Rv} {d : PyData} (h : f ρ = .ok (.fz d, ρ1)) : frz f ρ = .ok (d, ρ1) := ev_frz h
theorem frzL {ρ ρ1 : Ev} {f : Dn Rv} {xs : List PyData} (h : f ρ = .ok (.ol xs, ρ1)) : frz f ρ = .ok (.list xs, ρ1) := ev_frz h
abbrev toI (m : Nat) : Int := (m : Int)
def isR (x : Option Rv) (r : Rv) : Bool := match x, r with
  | some (.fz d), .fz e => eqP d e
  | some (.ol d), .ol e => eqPs d e
  | _, _ => false
theorem isR_ok {x : Option Rv} {r : Rv} (h : isR x r = true) : x = some r := by
  unfold isR at h
  cases x with
  | none => cases h
  | some v =>
    cases v with
    | fz d =>
      cases r with
      | fz e => rw [eqP_ok _ _ h]
      | oo _ => cases h
    | oo c =>
      cases c with
      | d _ => cases h
      | k _ => cases h
      | l d =>
      cases r with
      | fz _ => cases h
      | oo c2 =>
        cases c2 with
        | d _ => cases h
        | k _ => cases h
        | l e => rw [eqPs_ok _ _ h]
theorem c_neL : (List.range 32).all (fun a => (List.range 32).all fun b => isR (neD (lotM a) (lotM b)) (.fz (.bool (a != b)))) = true := by kernel_rfl
theorem ev_appS {i : Nat} {f : Dn PyData} {ρ ρ1 : Ev} {d : PyData} {xs : List PyData} (h0 : (ownOf ρ[i]?).isSome = true) (h1 : f ρ = .ok (d, ρ1)) (h2 : ownOf ρ1[i]? = some xs) (hl : xs.length < 16777216) : sApp i f ρ = .ok (.nx, ρ1.set i (reKind ρ1[i]? (xs ++ [d]))) := by
  unfold sApp
  rw [if_pos h0]
  refine ev_bnd h1 ?_
  unfold sUpd
  rw [h2]
  show (match appD d xs with | some ys => _ | none => _) = _
  have : appD d xs = some (xs ++ [d]) := by
    unfold appD
    rw [if_pos (show okLen (xs.length + 1) = true from decide_eq_true (by omega))]
  rw [this]
/-! frozen, masks_of -/
/-! least_masks -/
theorem intsD_M : ∀ ms : List Nat, intsD (ms.map intM) = some (ms.map toI)
  | [] => rfl
  | m :: ms => by
    show (intsD (ms.map intM)).map (toI m :: ·) = _
    rw [intsD_M ms]
    rfl
def kE (ms kept : List Nat) : Ev := [.fz (.list (ms.map intM)), .ol (kept.map intM), .no, .no]
/-! family_of -/
def bitsI (m : Nat) : List Int := (bits m).map toI
theorem lotM_eq (m : Nat) : lotM m = tupI (bitsI m) := by
  unfold lotM tupI bitsI
  rw [List.map_map]
  rfl
theorem intsD_lot : ∀ (m : Nat) (ms : List Nat), intsD ((m :: ms).map lotM) = none := fun m ms => rfl
theorem intsD_I : ∀ l : List Nat, intsD (l.map intM) = some (l.map toI) := intsD_M
theorem lotsD_M : ∀ ms : List Nat, lotsD (ms.map lotM) = some (ms.map bitsI)
  | [] => rfl
  | m :: ms => by
    show (intsD ((bits m).map intM)).bind (fun ns => (lotsD (ms.map lotM)).map (ns :: ·)) = _
    rw [intsD_I, lotsD_M ms]
    rfl
theorem tl_srt : (tl.map bitsI).Pairwise Lt2 := by
  have h : tl.Pairwise fun a b => HT.lexLt (bitsI a) (bitsI b) = true := by decide +kernel
  exact List.pairwise_map.mpr h
theorem tl_fil_srt (p : Nat → Bool) : ((tl.filter p).map bitsI).Pairwise Lt2 := List.pairwise_map.mpr ((List.pairwise_map.mp tl_srt).sublist List.filter_sublist)
theorem map_tupI (ms : List Nat) : (ms.map bitsI).map tupI = ms.map lotM := by
  rw [List.map_map]
  exact List.map_congr_left fun m _ => (lotM_eq m).symm
theorem setSort_L {ms : List Nat} (h : Lt ms) (hl : ms.length < 64) : setSortL (ms.map lotM) = some (.ol ((tl.filter fun m => ms.contains m).map lotM)) := by
  cases ms with
  | nil => rfl
  | cons m ms =>
    unfold setSortL
    rw [intsD_lot, lotsD_M]
    show (if _ then some (Rv.ol _) else none) = _
    rw [if_pos (by simpa using hl)]
    have e : (tl.filter fun k => (m :: ms).contains k).map bitsI = setL ((m :: ms).map bitsI) := by
      refine setL_eq (lt_le (tl_fil_srt _)) (lt_nodup (tl_fil_srt _)) fun z => ?_
      rw [List.mem_map, List.mem_map]
      constructor
      · rintro ⟨k, hk, rfl⟩
        exact ⟨k, List.contains_iff_mem.mp (List.mem_filter.mp hk).2, rfl⟩
      · rintro ⟨k, hk, rfl⟩
        exact ⟨k, List.mem_filter.mpr ⟨tl_all k (h k hk), List.contains_iff_mem.mpr hk⟩, rfl⟩
    rw [← e, map_tupI]
end Sh

/-! E23: equality of plain data; either, both, hitting, blockers. -/
namespace Sh
open PySem PySem.Spec L2 Gx M10
open PyProof.Rows hiding St
theorem ev_iseq {ρ ρ1 : Ev} {f : Dn PyData} {d : PyData} {ds : List PyData} (h : f ρ = .ok (d, ρ1)) (h2 : seqOf d = some ds) : iSeq f ρ = .ok (ds, ρ1) := ev_bnd h (ev_lft h2)
theorem pln_ok : ∀ (k : Nat) (d : PyData), pln k d = true → cln d = true ∧ PyData.canLay0 d = true ∧ PyData.depth d ≤ k + 1 := by
  intro k
  induction k with
  | zero =>
    intro d h
    cases d <;> simp_all [pln, cln, PyData.canLay0, PyData.depth]
  | succ k ih =>
    have al : ∀ xs : List PyData, xs.all (pln k) = true → clns xs = true ∧ PyData.canLayAll0 xs = true ∧ PyData.depthAll xs ≤ k + 1 := by
      intro xs
      induction xs with
      | nil => intro _; simp [clns, PyData.canLayAll0, PyData.depthAll]
      | cons x xs ihx =>
        intro h
        simp only [List.all_cons, Bool.and_eq_true] at h
        obtain ⟨a1, a2, a3⟩ := ih x h.1
        obtain ⟨b1, b2, b3⟩ := ihx h.2
        refine ⟨by simp [clns, a1, b1], by simp [PyData.canLayAll0, a2, b2], ?_⟩
        simp only [PyData.depthAll]
        omega
    intro d h
    cases d with
    | list xs =>
      simp only [pln, Bool.and_eq_true] at h
      obtain ⟨b1, b2, b3⟩ := al xs h.2
      exact ⟨by simp [cln, b1], by simp [PyData.canLay0, b2], by simp only [PyData.depth]; omega⟩
    | tuple xs =>
      simp only [pln, Bool.and_eq_true] at h
      obtain ⟨b1, b2, b3⟩ := al xs h.2
      exact ⟨by simp [cln, b1], by simp [PyData.canLay0, b2], by simp only [PyData.depth]; omega⟩
    | dict _ => simp [pln] at h
    | str _ => simp [pln] at h
    | _ => simp [cln, PyData.canLay0, PyData.depth]
theorem okEq_p {d e : PyData} (h1 : pln 9 d = true) (h2 : pln 9 e = true) : okEq d e = true := by
  obtain ⟨a1, a2, a3⟩ := pln_ok 9 d h1
  obtain ⟨b1, b2, b3⟩ := pln_ok 9 e h2
  unfold okEq SeqAt.shaped
  rw [a1, b1, a2, b2, decide_eq_true (show d.depth ≤ 64 by omega), decide_eq_true (show e.depth ≤ 64 by omega)]
  rfl
theorem eqD_p {d e : PyData} (h1 : pln 9 d = true) (h2 : pln 9 e = true) : eqD d e = some (.fz (.bool (d.eqv e))) := by
  unfold eqD
  rw [okEq_p h1 h2]
  rfl
theorem pln_M (k m : Nat) : pln k (intM m) = true := by cases k <;> rfl
theorem pln_lst {k : Nat} {xs : List PyData} (h : ∀ x ∈ xs, pln k x = true) (hl : xs.length ≤ 16777216) : pln (k + 1) (.list xs) = true := by
  show (okLen xs.length && xs.all (pln k)) = true
  rw [Bool.and_eq_true]
  exact ⟨decide_eq_true hl, List.all_eq_true.mpr h⟩
theorem pln_ones (k : Nat) {ι : Type} {l : List ι} (hl : l.length ≤ 1000) : pln (k + 1) (.list (l.map fun _ => PyData.int 1)) = true := pln_lst (fun x hx => by
  obtain ⟨m, _, rfl⟩ := List.mem_map.mp hx
  exact pln_M k 1) (by simp; omega)
theorem eqv_nil (xs : List PyData) : PyData.eqv (.list xs) (.list []) = xs.isEmpty := by cases xs <;> simp [PyData.eqv, PyData.eqvAll]
theorem ones_eq {ι : Type} (l : List ι) (hl : l.length ≤ 1000) : eqD (.list (l.map fun _ => PyData.int 1)) (.list []) = some (.fz (.bool l.isEmpty)) := by
  rw [eqD_p (pln_ones 8 hl) rfl, eqv_nil]
  cases l <;> rfl
def one0 : PyData := .tuple [.tuple []]
/-! either, both -/
section
variable {ρ : Ev} {i : Nat} {ks fs ms : List Nat}
end
end Sh

/-! E24: hitting, blockers. -/
namespace Sh
open PySem PySem.Spec L2 Gx M10
open PyProof.Rows hiding St
section
variable {fd : PyData} {l : Nat}
def hE (fd : PyData) (l : Nat) (acc : List Nat) (e4 e5 : En) : Ev := [.fz fd, .fz (lotM l), .ol (acc.map intM), .fz (intM l), e4, e5]
abbrev iBody : Dn Fl := sApp 2 (frz (dBin borD (dName 4) (frz (dBin shlD (dC (.int 1)) (dName 5)))))
abbrev oBody : Dn Fl := sIf (dTru (frz (dBin bandD (dName 4) (dName 3)))) (sApp 2 (dName 4)) (sFor (iSeq (dName 1)) (hName 5) iBody)
end
/-! blockers -/
def bE (ks found : List Nat) : Ev := [.fz (famM ks), .ol (found.map intM), .no]
end Sh

/-! E25: apart, least_common, and the law's own least, has, pairs. -/
namespace Sh
open PySem PySem.Spec L2 Gx M10
open PyProof.Rows hiding St
section
variable {ks fs : List Nat}
/-! apart -/
def aE (ks fs : List Nat) (e2 e3 : En) : Ev := [.fz (famM ks), .fz (famM fs), e2, e3]
def pairM (p : Nat × Nat) : PyData := .tuple [lotM p.1, lotM p.2]
def prs (ks fs : List Nat) : List (Nat × Nat) := ks.flatMap fun a => fs.map fun b => (a, b)
def far0 (ks fs : List Nat) : Option (Nat × Nat) := (prs ks fs).find? fun p => p.1 &&& p.2 == 0
def apartV (ks fs : List Nat) : PyData := match far0 ks fs with
  | some p => pairM p
  | none => .none
/-! least_common -/
def pops (ks fs : List Nat) : List Nat := (prs ks fs).map fun p => pop (p.1 &&& p.2)
/-! the law's least -/
def lE (d : PyData) (acc : List Nat) (e2 : En) : Ev := [.fz d, .ol (acc.map lotM), e2, .no]
abbrev lBody : Dn Fl := sIf (dCmpT eqD (frz (dComp (iSeq (dName 0)) (hName 3) (dAndT (dCmpT neD (dName 3) (dName 2)) (dTru (frz (dFn (den_within) (aCons (ofD (dName 3)) (aCons (ofD (dName 2)) aNil)))))) (dC (.int 1)) [3])) (frz (dLst dNil))) (sApp 1 (dName 2)) sNx
def alone (ms : List Nat) (m : Nat) : Bool := !(ms.any fun n => n != m && sub n m)
theorem l_body {d : PyData} {ms acc : List Nat} {m : Nat} (hd : seqOf d = some (ms.map lotM)) (h : Lt ms) (hm : m < 32) (hl : acc.length ≤ 1000) (hn : ms.length ≤ 1000) :
    lBody ((lE d acc .no).set 2 (.fz (lotM m))) = .ok (.nx, (lE d (if alone ms m then acc ++ [m] else acc) .no).set 2 (.fz (lotM m))) := by
  have ht : ∀ n, n < 32 → (dAndT (dCmpT neD (dName 3) (dName 2)) (dTru (frz (dFn (den_within) (aCons (ofD (dName 3)) (aCons (ofD (dName 2)) aNil)))))) [.fz d, .ol (acc.map lotM), .fz (lotM m), .fz (lotM n)] = .ok (n != m && sub n m, [.fz d, .ol (acc.map lotM), .fz (lotM m), .fz (lotM n)]) := fun n hn => by
    have t1 : (dCmpT neD (dName 3) (dName 2)) [.fz d, .ol (acc.map lotM), .fz (lotM m), .fz (lotM n)] = .ok (n != m, [.fz d, .ol (acc.map lotM), .fz (lotM m), .fz (lotM n)]) := ev_cmpT rfl rfl (isR_ok (all2 c_neL hn hm))
    have t2 : (dTru (frz (dFn (den_within) (aCons (ofD (dName 3)) (aCons (ofD (dName 2)) aNil))))) [.fz d, .ol (acc.map lotM), .fz (lotM m), .fz (lotM n)] = .ok (sub n m, [.fz d, .ol (acc.map lotM), .fz (lotM m), .fz (lotM n)]) :=
      ev_bnd (frzF (gv_fn (as := [.fz (lotM n), .fz (lotM m)]) rfl rfl rfl (isG_ok (all2 c_within hn hm)))) rfl
    refine ev_bnd t1 ?_
    cases n != m with
    | true => exact t2
    | false => rfl
  have it : iSeq (dName 0) [.fz d, .ol (acc.map lotM), .fz (lotM m), .no] = .ok (ms.map lotM, [.fz d, .ol (acc.map lotM), .fz (lotM m), .no]) := ev_iseq rfl hd
  have c := ev_comp1 (ρ := [.fz d, .ol (acc.map lotM), .fz (lotM m), .no]) (ρ1 := [.fz d, .ol (acc.map lotM), .fz (lotM m), .no]) (i := 3) (ft := dAndT (dCmpT neD (dName 3) (dName 2)) (dTru (frz (dFn (den_within) (aCons (ofD (dName 3)) (aCons (ofD (dName 2)) aNil)))))) (fe := dC (.int 1)) (ds := ms) (u := lotM) (fun n => n != m && sub n m) (fun _ => .int 1) it rfl (fun n hn => ht n (h n hn)) (fun _ _ _ => rfl) (by omega)
  have el : (ms.filter fun n => n != m && sub n m).length ≤ 1000 := Nat.le_trans (List.filter_sublist.length_le) hn
  have t : (dCmpT eqD (frz (dComp (iSeq (dName 0)) (hName 3) (dAndT (dCmpT neD (dName 3) (dName 2)) (dTru (frz (dFn (den_within) (aCons (ofD (dName 3)) (aCons (ofD (dName 2)) aNil)))))) (dC (.int 1)) [3])) (frz (dLst dNil))) [.fz d, .ol (acc.map lotM), .fz (lotM m), .no] = .ok (alone ms m, [.fz d, .ol (acc.map lotM), .fz (lotM m), .no]) := by
    refine ev_cmpT (y := .list []) (frzL c) rfl ((ones_eq _ el).trans ?_)
    show some (Rv.fz (.bool _)) = some (Rv.fz (.bool _))
    congr 3
    unfold alone
    rw [Bool.eq_iff_iff]
    simp [List.isEmpty_iff, List.filter_eq_nil_iff]
  refine ev_if t ?_
  cases alone ms m with
  | true =>
    refine (ev_appS (i := 1) (f := dName 2) (ρ := [.fz d, .ol (acc.map lotM), .fz (lotM m), .no]) (ρ1 := [.fz d, .ol (acc.map lotM), .fz (lotM m), .no]) (d := lotM m) (xs := acc.map lotM) rfl rfl rfl (by rw [List.length_map]; omega)).trans ?_
    show Rs.ok (Fl.nx, [En.fz d, .ol (acc.map lotM ++ [lotM m]), .fz (lotM m), .no]) = Rs.ok (Fl.nx, [En.fz d, .ol ((acc ++ [m]).map lotM), .fz (lotM m), .no])
    rw [List.map_append]
    rfl
  | false => rfl
theorem l_loop {d : PyData} {ms : List Nat} (hd : seqOf d = some (ms.map lotM)) (h : Lt ms) (hn : ms.length ≤ 1000) : ∀ (l acc : List Nat) (e : En), Lt l → acc.length + l.length ≤ 1000 → okEn e →
    ∃ e', loopF (hName 2) lBody (l.map lotM) ((lE d acc .no).set 2 e) = .ok (.nx, (lE d (acc ++ l.filter (alone ms)) .no).set 2 e')
  | [], acc, e, _, _, _ => ⟨e, by simp [loopF]⟩
  | m :: l, acc, e, hl, ha, he => by
    simp only [List.length_cons] at ha
    have hm := hl m (by simp)
    have b := l_body (acc := acc) hd h hm (by omega) hn
    have kl : (if alone ms m then acc ++ [m] else acc).length ≤ acc.length + 1 := by split <;> simp
    obtain ⟨e', ih⟩ := l_loop hd h hn l (if alone ms m then acc ++ [m] else acc) (.fz (lotM m)) (fun k hk => hl k (by simp [hk])) (by omega) (.inr ⟨_, rfl⟩)
    refine ⟨e', ?_⟩
    have n1 : hName 2 (lotM m) ((lE d acc .no).set 2 e) = some ((lE d acc .no).set 2 (.fz (lotM m))) := by
      rcases he with rfl | ⟨x, rfl⟩ <;> rfl
    rw [List.map_cons]
    unfold loopF
    simp only [n1, b]
    rw [List.filter_cons]
    cases c : alone ms m with
    | true => simp only [c, if_true] at ih ⊢; rw [List.append_assoc] at ih; exact ih
    | false => simp only [c] at ih ⊢; exact ih
theorem least_ev {d : PyData} {ms : List Nat} (hd : d = .list (ms.map lotM) ∨ d = .tuple (ms.map lotM)) (h : Lt ms) (hn : ms.length < 64) : Gv den_law_least [.fz d] (.fz (famM (FU (up ms)))) := by
  have hs : seqOf d = some (ms.map lotM) := by rcases hd with rfl | rfl <;> rfl
  have hq : setSortD [d] = some (.ol ((tl.filter fun m => ms.contains m).map lotM)) := by rcases hd with rfl | rfl <;> exact setSort_L h hn
  have hl : (tl.filter fun m => ms.contains m).length ≤ 32 := (List.filter_sublist (p := fun m => ms.contains m) (l := tl)).length_le
  obtain ⟨e', lp⟩ := l_loop hs h (by omega) (tl.filter fun m => ms.contains m) [] .no (fun m hm => tl_lt m (List.mem_filter.mp hm).1) (by show 0 + _ ≤ 1000; omega) (.inl rfl)
  have e : (tl.filter fun m => ms.contains m).filter (alone ms) = FU (up ms) := by
    rw [← least_FU h, List.filter_filter]
    refine List.filter_congr fun m _ => ?_
    unfold mo alone
    exact Bool.and_comm ..
  rw [List.nil_append, e] at lp
  have it : iSeq (frz (dCall setSortD (dCons (dName 0) dNil))) (lE d [] .no) = .ok ((tl.filter fun m => ms.contains m).map lotM, lE d [] .no) := ev_iseq (frzL (ev_call (xs := [d]) rfl hq)) rfl
  have fin : (dCall tupleD (dCons (dName 1) dNil)) ((lE d (FU (up ms)) .no).set 2 e') = .ok (.fz (famM (FU (up ms))), [.fz d, .fz (.list ((FU (up ms)).map lotM)), e', .no]) := rfl
  exact gv_run ⟨_, ev_seq (ρ1 := (lE d [] .no).set 2 .no) rfl (ev_seq (ev_bnd it lp) (ev_ret fin))⟩
/-! has -/
end
end Sh

set_option maxHeartbeats 0
/-! E26: what is drawn. -/
namespace Sh
open PySem PySem.Spec L2 Gx M10
open PyProof.Rows hiding St
def tinD (a s c : Int) : List PyData := [.int a, .int s, .int c]
theorem take_ev (a s c b : Int) (ha : 0 ≤ a) (hb : 0 < b) (hb2 : b < 1073741824) (hc : 0 ≤ c) (hc2 : c < 1000000) : ∃ d a' c' : Int, den_take [.bl (tinD a s c), .fz (.int b)] = .ok (.fz (.int d), [.bl (tinD a' s c'), .fz (.int b)]) ∧ 0 ≤ d ∧ d < b ∧ 0 ≤ a' ∧ (c' = c ∨ c' = c + 1) := by
  by_cases h0 : 0 < a
  · refine ⟨a % b, a / b, c, ?_, Int.emod_nonneg _ (by omega), Int.emod_lt_of_pos _ hb, Int.ediv_nonneg ha (by omega), .inl rfl⟩
    refine Eq.trans (ev_run (n := 2) (N := 6) (as := [.bl (tinD a s c), .fz (.int b)]) (r := .fz (.int (a % b))) (ρ1 := [.bl (tinD (a / b) s c), .fz (.int b), .no, .no, .no, .fz (.int (a % b))]) ?_) rfl
    show b_take [.bl (tinD a s c), .fz (.int b), .no, .no, .no, .no] = _
    refine ev_seqR (ev_if (b := true) (ρ1 := [.bl (tinD a s c), .fz (.int b), .no, .no, .no, .no]) (ev_cmpT (x := .int a) (y := .int 0) rfl rfl (by show fB (decide (0 < a)) = _; rw [decide_eq_true h0])) ?_)
    refine ev_seq (ev_set (ev_bin (ev_frz (ev_call (ev_cons (ev_peek rfl rfl rfl) ev_nil) rfl)) rfl (modD_ev hb)) rfl) ?_
    refine ev_seq (ev_setIx (ev_frz (ev_bin (ev_peek rfl rfl rfl) rfl (fdivD_ev hb hb2))) rfl rfl rfl) ?_
    rfl
  · let c1 := c + 1
    let once := ((s + 48271 * c1) * (39373 + c1)) % 2147483647
    let wide := once % 40009 + 7
    let twice := ((once + c1 + s / 1000003) * wide) % 2147483629
    let d := ((twice * 48271 + once) % 2147483587 / 64) % b
    have o1 : 0 ≤ once := Int.emod_nonneg _ (by decide)
    have o2 : once < 2147483647 := Int.emod_lt_of_pos _ (by decide)
    have w1 : 7 ≤ wide := by have := Int.emod_nonneg once (b := 40009) (by decide); omega
    have w2 : wide < 50000 := by have := Int.emod_lt_of_pos once (b := 40009) (by decide); omega
    have hw1 : w64 (39373 + c1) = true := w64_of (by omega) (by omega)
    have hw2 : w64 wide = true := w64_of (by omega) (by omega)
    refine ⟨d, a, c1, ?_, Int.emod_nonneg _ (by omega), Int.emod_lt_of_pos _ hb, ha, .inr rfl⟩
    refine Eq.trans (ev_run (n := 2) (N := 6) (as := [.bl (tinD a s c), .fz (.int b)]) (r := .fz (.int d)) (ρ1 := [.bl (tinD a s c1), .fz (.int b), .fz (.int once), .fz (.int wide), .fz (.int twice), .no]) ?_) rfl
    show b_take [.bl (tinD a s c), .fz (.int b), .no, .no, .no, .no] = _
    refine ev_seq (ev_if (b := false) (ρ1 := [.bl (tinD a s c), .fz (.int b), .no, .no, .no, .no]) (ev_cmpT (x := .int a) (y := .int 0) rfl rfl (by show fB (decide (0 < a)) = _; rw [decide_eq_false h0])) rfl) ?_
    refine ev_seq (ev_setIx (ev_frz (ev_bin (ev_peek rfl rfl rfl) rfl rfl)) rfl rfl rfl) ?_
    refine ev_seq (ev_set (ev_bin (ev_frz (ev_call (ev_cons (ev_frz (ev_bin (ev_frz (ev_bin (ev_peek rfl rfl rfl) (ev_frz (ev_bin rfl (ev_peek rfl rfl rfl) (mulD_l (by rfl)))) rfl)) (ev_frz (ev_bin rfl (ev_peek rfl rfl rfl) rfl)) (mulD_r hw1))) ev_nil) rfl)) rfl (modD_ev (by decide))) rfl) ?_
    refine ev_seq (ev_set (ev_bin (ev_frz (ev_bin (ev_frz (ev_call (ev_cons rfl ev_nil) rfl)) rfl (modD_ev (by decide)))) rfl rfl) rfl) ?_
    refine ev_seq (ev_set (ev_bin (ev_frz (ev_call (ev_cons (ev_frz (ev_bin (ev_frz (ev_bin (ev_frz (ev_bin rfl (ev_peek rfl rfl rfl) rfl)) (ev_frz (ev_bin (ev_peek rfl rfl rfl) rfl (fdivD_ev (by decide) (by decide)))) rfl)) rfl (mulD_r hw2))) ev_nil) rfl)) rfl (modD_ev (by decide))) rfl) ?_
    refine Eq.trans (ev_ret (ev_bin (ev_frz (ev_call (ev_cons (ev_frz (ev_bin (ev_frz (ev_bin (ev_frz (ev_call (ev_cons (ev_frz (ev_bin (ev_frz (ev_bin rfl rfl (mulD_r (by rfl)))) rfl rfl)) ev_nil) rfl)) rfl (modD_ev (by decide)))) rfl (fdivD_ev (by decide) (by decide)))) ev_nil) rfl)) rfl (modD_ev hb))) rfl
/-! the script folded into one number -/
def cTgt : PyData → Ev → Option Ev := hTup 2 (hCons (hName 3) (hCons (hName 4) hNil))
def cBody : Dn Fl := sSeq (sSet 5 (dBin modD (frz (dCall intD (dCons (dName 3) dNil))) (dName 1)))
  (sSetIx 2 (dName 5) (frz (dBin addD (dPeek 2 (dName 5)) (frz (dBin mulD (dName 4) (frz (dBin addD (dName 3) (dC (.int 2)))))))))
def cEnv (ns : List Int) (p : Int) (e3 e4 e5 : En) : Ev := [.sc (.l ns), .fz (.int 1), .ol [.int p], e3, e4, e5]
def okE (e3 e4 e5 : En) : Prop := (e3 = .no ∧ e4 = .no ∧ e5 = .no) ∨ ∃ a b c, e3 = .fz a ∧ e4 = .fz b ∧ e5 = .fz c
/-! drawing in general -/
def TinOk (n : Nat) (t : List PyData) : Prop := ∃ a s c : Int, t = tinD a s c ∧ 0 ≤ a ∧ 0 ≤ c ∧ c ≤ n
theorem take_n {n b : Nat} {t : List PyData} (h : TinOk n t) (hn : n < 900000) (hb : 0 < b) (hb2 : b < 1000000) : ∃ (d : Nat) (t' : List PyData), d < b ∧ TinOk (n + 1) t' ∧ den_take [.bl t, .fz (intM b)] = .ok (.fz (intM d), [.bl t', .fz (intM b)]) := by
  obtain ⟨a, s, c, rfl, ha, hc, hcn⟩ := h
  obtain ⟨d, a', c', e, d1, d2, a1, c1⟩ := take_ev a s c (b : Int) ha (by omega) (by omega) hc (by omega)
  obtain ⟨k, rfl⟩ := Int.eq_ofNat_of_zero_le d1
  refine ⟨k, tinD a' s c', by omega, ⟨a', s, c', rfl, a1, ?_, ?_⟩, e⟩
  · rcases c1 with rfl | rfl <;> omega
  · rcases c1 with rfl | rfl <;> omega
theorem take_at {ρ : Ev} {n b : Nat} {t : List PyData} {fb : Dn Rv} (h0 : ρ[0]? = some (.bl t)) (h : TinOk n t) (hn : n < 900000) (hb : 0 < b) (hb2 : b < 1000000) (hf : fb ρ = .ok (.fz (intM b), ρ)) :
    ∃ (d : Nat) (t' : List PyData), d < b ∧ TinOk (n + 1) t' ∧ frz (dFn den_take (aLend 0 (aCons fb aNil))) ρ = .ok (intM d, ρ.set 0 (.bl t')) := by
  obtain ⟨d, t', h1, h2, h3⟩ := take_n h hn hb hb2
  refine ⟨d, t', h1, h2, frzF ?_⟩
  have ha : (aLend 0 (aCons fb aNil)) ρ = .ok ([.sl 0, .fz (intM b)], ρ) := ev_lendB h0 (ev_aconsF hf rfl)
  have e := ev_fnL (ρ := ρ) (k := 0) (i := 0) ha rfl (es := [.bl t, .fz (intM b)]) (by show [enSl ρ[0]?, En.fz (intM b)] = _; rw [h0]; rfl) h3
  refine e.trans ?_
  show Rs.ok (_, ρ.set 0 (reKind ρ[0]? t')) = _
  rw [h0]
  rfl
end Sh

/-! E27: picks, families drawn. -/
namespace Sh
open PySem PySem.Spec L2 Gx M10
open PyProof.Rows hiding St
theorem small_n {n : Nat} (h : n < 1000000) : small62 (n : Int) = true := by
  unfold small62
  rw [Bool.and_eq_true]
  exact ⟨decide_eq_true (by omega), decide_eq_true (by omega)⟩
theorem rg1_n {n : Nat} (h : n < 1000000) : rg1 [intM n] = some (rgD 0 n) := by
  unfold intM rg1
  simp only [small_n h, if_true]
  rw [Int.toNat_natCast]
theorem ev_popAt {i j : Nat} {f : Dn PyData} {ρ ρ1 : Ev} {n : Int} {x : PyData} {xs : List PyData} (h0 : (ownOf ρ[i]?).isSome = true) (h1 : f ρ = .ok (.int n, ρ1)) (h2 : ownOf ρ1[i]? = some xs) (h3 : small62 n = true) (h4 : seqIndex? n xs.length = some j) (h5 : xs[j]? = some x) :
    dPopAt i f ρ = .ok (x, ρ1.set i (reKind ρ1[i]? (xs.eraseIdx j))) := by
  unfold dPopAt
  rw [if_pos h0]
  refine ev_bnd h1 ?_
  simp only [h2, h3, h4, h5, if_true]
def pE (t xs : List PyData) (cnt : Nat) (e3 : En) (pool found : List PyData) : Ev := [.bl t, .fz (.list xs), .fz (intM cnt), e3, .ol pool, .ol found]
abbrev pTake : Dn PyData := frz (dFn (den_take) (aLend 0 (aCons (ofD (dLenP 4)) aNil)))
abbrev pBody : Dn Fl := sApp 5 (dPopAt 4 pTake)
theorem p_body {n : Nat} {t xs pool found : List PyData} {cnt : Nat} {e3 : En} (h : TinOk n t) (hn : n < 900000) (hp : 0 < pool.length) (hp2 : pool.length < 10000) (hf : found.length < 10000) :
    ∃ (d : Nat) (x : PyData) (t' : List PyData), pool[d]? = some x ∧ TinOk (n + 1) t' ∧ pBody (pE t xs cnt e3 pool found) = .ok (.nx, pE t' xs cnt e3 (pool.eraseIdx d) (found ++ [x])) := by
  obtain ⟨d, t', h1, h2, h3⟩ := take_at (ρ := pE t xs cnt e3 pool found) (n := n) (b := pool.length) (fb := ofD (dLenP 4)) rfl h hn hp (by omega) rfl
  have hx : pool[d]? = some pool[d] := List.getElem?_eq_getElem h1
  refine ⟨d, pool[d], t', hx, h2, ?_⟩
  have q : dPopAt 4 pTake (pE t xs cnt e3 pool found) = .ok (pool[d], pE t' xs cnt e3 (pool.eraseIdx d) found) := by
    have s1 : small62 (d : Int) = true := small_n (by omega)
    have s2 : seqIndex? (d : Int) pool.length = some d := by
      unfold seqIndex?
      simp
      omega
    exact (ev_popAt (i := 4) (f := pTake) (ρ := pE t xs cnt e3 pool found) (ρ1 := pE t' xs cnt e3 pool found) (xs := pool) rfl h3 rfl s1 s2 hx).trans rfl
  exact (ev_appS (i := 5) (f := dPopAt 4 pTake) (ρ := pE t xs cnt e3 pool found) (ρ1 := pE t' xs cnt e3 (pool.eraseIdx d) found) (d := pool[d]) (xs := found) rfl q rfl (by omega)).trans rfl
theorem erase_perm {α : Type} : ∀ (l : List α) (d : Nat) (x : α), l[d]? = some x → (x :: l.eraseIdx d).Perm l
  | [], d, x, h => by simp at h
  | a :: l, 0, x, h => by
    simp at h
    subst h
    exact .refl _
  | a :: l, d + 1, x, h => by
    have ih := erase_perm l d x (by simpa using h)
    simp only [List.eraseIdx_cons_succ]
    exact (List.Perm.swap ..).trans (ih.cons a)
theorem p_loop {xs : List PyData} {cnt : Nat} : ∀ (l : List PyData) (n : Nat) (t pool found : List PyData) (e3 : En), TinOk n t → n + l.length < 900000 → l.length ≤ pool.length → pool.length < 10000 → found.length + l.length < 10000 → okEn e3 →
    ∃ (t' pool' ys : List PyData) (e3' : En), loopF (hName 3) pBody l (pE t xs cnt e3 pool found) = .ok (.nx, pE t' xs cnt e3' pool' (found ++ ys)) ∧ TinOk (n + l.length) t' ∧ ys.length = l.length ∧ (ys ++ pool').Perm pool
  | [], n, t, pool, found, e3, h, _, _, _, _, _ => ⟨t, pool, [], e3, by simp [loopF], h, rfl, .refl _⟩
  | x :: l, n, t, pool, found, e3, h, hn, hl, hp, hf, he => by
    simp only [List.length_cons] at hn hl hf
    obtain ⟨d, y, t1, h1, h2, h3⟩ := p_body (xs := xs) (cnt := cnt) (pool := pool) (found := found) (e3 := .fz x) h (by omega) (by omega) hp (by omega)
    have hd : d < pool.length := (List.getElem?_eq_some_iff.mp h1).1
    have pe := erase_perm pool d y h1
    have le : (pool.eraseIdx d).length = pool.length - 1 := List.length_eraseIdx_of_lt hd
    obtain ⟨t', pool', ys, e3', k1, k2, k3, k4⟩ := p_loop l (n + 1) t1 (pool.eraseIdx d) (found ++ [y]) (.fz x) h2 (by omega) (by omega) (by omega) (by simp; omega) (.inr ⟨x, rfl⟩)
    refine ⟨t', pool', y :: ys, e3', ?_, by rw [List.length_cons, show n + (l.length + 1) = n + 1 + l.length by omega]; exact k2, by simp [k3], ?_⟩
    · have n1 : hName 3 x (pE t xs cnt e3 pool found) = some (pE t xs cnt (.fz x) pool found) := by
        rcases he with rfl | ⟨z, rfl⟩ <;> rfl
      unfold loopF
      simp only [n1, h3]
      rw [List.append_assoc] at k1
      exact k1
    · exact (k4.cons y).trans pe
theorem pick_ev {n : Nat} {t xs : List PyData} {cnt : Nat} (h : TinOk n t) (hn : n + xs.length < 900000) (hx : xs.length < 1000) (hc : cnt < 1000) :
    ∃ (t' ys rest : List PyData) (es : List En), den_pick [.bl t, .fz (.list xs), .fz (intM cnt)] = .ok (.ol ys, .bl t' :: es) ∧ TinOk (n + xs.length) t' ∧ ys.length = min cnt xs.length ∧ (ys ++ rest).Perm xs := by
  obtain ⟨t', pool', ys, e3, k1, k2, k3, k4⟩ := p_loop (xs := xs) (cnt := cnt) (rgD 0 (min cnt xs.length)) n t xs [] .no h (by simp [rgD]; omega) (by simp [rgD]; omega) (by omega) (by simp [rgD]; omega) (.inl rfl)
  have hlen : (rgD 0 (min cnt xs.length)).length = min cnt xs.length := by simp [rgD]
  rw [hlen] at k2 k3
  obtain ⟨a, s, c, e, h1, h2, h3⟩ := k2
  refine ⟨t', ys, pool', [.fz (.list xs), .fz (intM cnt)], ?_, ⟨a, s, c, e, h1, h2, by omega⟩, k3, k4⟩
  have it : iRg1 (dCons (frz (dCall minD (dCons (frz (dCall intD (dCons (dName 2) dNil))) (dCons (dLenP 4) dNil)))) dNil) (pE t xs cnt .no xs []) = .ok (rgD 0 (min cnt xs.length), pE t xs cnt .no xs []) := by
    have m : minD [intM cnt, .int xs.length] = some (.fz (intM (min cnt xs.length))) := by
      show fI (if (xs.length : Int) < (cnt : Int) then (xs.length : Int) else (cnt : Int)) = _
      by_cases c : xs.length < cnt
      · rw [if_pos (by omega), Nat.min_eq_right (by omega)]
        rfl
      · rw [if_neg (by omega), Nat.min_eq_left (by omega)]
        rfl
    have m2 : (frz (dCall minD (dCons (frz (dCall intD (dCons (dName 2) dNil))) (dCons (dLenP 4) dNil)))) (pE t xs cnt .no xs []) = .ok (intM (min cnt xs.length), pE t xs cnt .no xs []) := frzF (ev_call (xs := [intM cnt, .int xs.length]) rfl m)
    refine ev_bnd (ev_cons m2 rfl) (ev_lft ?_)
    exact rg1_n (by omega)
  have s0 : (sParA 4 5 (aCons (dCall listD (dCons (dName 1) dNil)) (aCons (dLst dNil) aNil))) [.bl t, .fz (.list xs), .fz (intM cnt), .no, .no, .no] = .ok (.nx, pE t xs cnt .no xs []) := rfl
  refine Eq.trans (ev_run (n := 3) (N := 6) (as := [.bl t, .fz (.list xs), .fz (intM cnt)]) (r := .ol ys) (ρ1 := (pE t' xs cnt e3 pool' ys).set 5 .no) ?_) rfl
  exact ev_seq s0 (ev_seq (ρ1 := pE t' xs cnt e3 pool' ys) (ev_bnd it k1) (ev_ret rfl))
end Sh

/-! E28: homes and families drawn; pairs. -/
namespace Sh
open PySem PySem.Spec L2 Gx M10
open PyProof.Rows hiding St
theorem TinOk.mono {n m : Nat} {t : List PyData} (h : TinOk n t) (q : n ≤ m) : TinOk m t := by
  obtain ⟨a, s, c, e, h1, h2, h3⟩ := h
  exact ⟨a, s, c, e, h1, h2, by omega⟩
def mkB (f : Nat → Bool) : Nat := (if f 0 then 1 else 0) + (if f 1 then 2 else 0) + (if f 2 then 4 else 0) + (if f 3 then 8 else 0) + (if f 4 then 16 else 0)
theorem pick_map {ι : Type} {u : ι → PyData} {l : List ι} {ys rest : List PyData} (h : (ys ++ rest).Perm (l.map u)) : ∃ ms r : List ι, ys = ms.map u ∧ (ms ++ r).Perm l := by
  obtain ⟨l', p, e⟩ := perm_map_ex h rfl
  refine ⟨l'.take ys.length, l'.drop ys.length, ?_, by rw [List.take_append_drop]; exact p⟩
  rw [List.map_take, ← e]
  simp
abbrev home : Dn Rv := dCall tupleD (dCons (frz (dCall sort2D (dCons (frz (dFn (den_pick) (aLend 0 (aCons (ofD (frz (dR1 (rg1X false) (dC (.int 5))))) (aCons (ofD (frz (dBin addD (dC (.int 2)) (frz (dFn (den_take) (aLend 0 (aCons (ofD (dC (.int 3))) aNil))))))) aNil))))) dNil))) dNil)
/-! families -/
structure KinOk (ks : List Nat) : Prop where
  can : Can ks
  ne : ks ≠ []
  len : ks.length ≤ 6
theorem KinOk.lt {ks : List Nat} (h : KinOk ks) : Lt ks := can_lt h.can
def cnt (h n : Nat) : List Nat := tl.filter fun m => sub m h && pop m == n
def goods (h : Nat) : List Nat := (tl.filter fun m => sub m h).filter fun m => m != 0
end Sh

/-! A1: deeds as data, and what one deed comes to. -/
namespace Sh
open PySem PySem.Spec L2 Gx M10
open PyProof.Rows hiding St
theorem at_n {α : Type} {xs : List α} {k : Nat} (h : k < xs.length) : atI xs (k : Int) = xs[k]? := by
  unfold atI ixN
  rw [if_pos (by omega), if_pos (by omega)]
  simp
inductive Dd where
  | wr (w : Bool) (t r : Int) (h : Nat) (ks : List Nat)
  | wait (t : Int)
  | lose (t : Int) (p : Nat)
  | cp (c : Bool) (t : Int) (p q : Nat)
def Dd.d : Dd → PyData
  | .wr false t r h ks => .tuple [.str "put", .int t, .int r, lotM h, famM ks]
  | .wr true t r h ks => .tuple [.str "strike", .int t, .int r, lotM h, famM ks]
  | .wait t => .tuple [.str "wait", .int t]
  | .lose t p => .tuple [.str "lose", .int t, intM p]
  | .cp true t p q => .tuple [.str "copy", .int t, intM p, intM q]
  | .cp false t p q => .tuple [.str "send", .int t, intM p, intM q]
def Dd.ok : Dd → Prop
  | .wr _ _ r h ks => 1 ≤ r ∧ h < 16 ∧ (∀ k ∈ ks, k < 16) ∧ ks.length ≤ 100
  | .wait _ => True
  | .lose _ p => p < 4
  | .cp _ _ p q => p < 4 ∧ q < 4
def Dd.isW : Dd → Bool
  | .wr .. => true
  | _ => false
def Dd.rk : Dd → Int
  | .wr _ _ r _ _ => r
  | _ => 0
def Dd.hm : Dd → Nat
  | .wr _ _ _ h _ => h
  | _ => 0
def Dd.fam : Dd → List Nat
  | .wr _ _ _ _ ks => ks
  | _ => []
def Dd.to : Dd → Nat
  | .cp _ _ _ q => q
  | _ => 0
def Dd.ah : Dd → Nat → Nat
  | .cp true _ p q, m => if has m q then m ||| 1 <<< p else m
  | .lose _ p, m => if has m p then m - 1 <<< p else m
  | _, m => m
where has (m p : Nat) : Bool := m >>> p &&& 1 == 1
def has (m p : Nat) : Bool := m >>> p &&& 1 == 1
theorem c_lt1 : (List.range 16).all (fun m => (List.range 4).all fun p => (List.range 4).all fun q => decide ((if has m q then m ||| 1 <<< p else m) < 16)) = true := by decide +kernel
theorem ah_lt (d : Dd) (ok : d.ok) {m : Nat} (hm : m < 16) : d.ah m < 16 := by
  rcases d with ⟨w, t, r, h, ks⟩ | t | ⟨t, p⟩ | ⟨_ | _, t, p, q⟩
  · exact hm
  · exact hm
  · show (if _ then _ else _) < 16
    split
    · exact Nat.lt_of_le_of_lt (Nat.sub_le _ _) hm
    · exact hm
  · exact hm
  · obtain ⟨h1, h2⟩ : p < 4 ∧ q < 4 := ok
    exact of_decide_eq_true (all1 (all1 (all1 c_lt1 hm) h1) h2)
/-! ### what is held at every hour -/
def tr : List Dd → Nat → List Nat
  | [], m => [m]
  | d :: ds, m => d.ah ((tr ds m).headD 0) :: tr ds m
def at0 (ds : List Dd) (m : Nat) : Nat := (tr ds m).headD 0
theorem tr_len (m : Nat) : ∀ ds : List Dd, (tr ds m).length = ds.length + 1
  | [] => rfl
  | d :: ds => by unfold tr; simp [tr_len m ds]
theorem tr_ne (ds : List Dd) (m : Nat) : tr ds m ≠ [] := by
  intro e
  have := tr_len m ds
  rw [e] at this
  simp at this
theorem tr_get (m : Nat) : ∀ (ds : List Dd) (k : Nat), k ≤ ds.length → (tr ds m)[k]? = some (at0 (ds.drop k) m)
  | ds, 0, _ => by
    cases ds with
    | nil => rfl
    | cons d ds => rfl
  | d :: ds, k + 1, h => by
    show (tr ds m)[k]? = _
    rw [tr_get m ds k (by simpa using h)]
    rfl
def Ok (ds : List Dd) : Prop := ∀ d ∈ ds, d.ok
theorem tr_lt {m : Nat} (hm : m < 16) : ∀ ds : List Dd, Ok ds → ∀ x ∈ tr ds m, x < 16
  | [], _, x, hx => by
    unfold tr at hx
    simp at hx
    omega
  | d :: ds, ok, x, hx => by
    have ih := tr_lt hm ds fun y hy => ok y (by simp [hy])
    unfold tr at hx
    rcases List.mem_cons.mp hx with rfl | hx
    · refine ah_lt d (ok d (by simp)) ?_
      cases e : tr ds m with
      | nil => exact absurd e (tr_ne ds m)
      | cons y ys => exact ih y (by rw [e]; simp)
    · exact ih x hx
theorem at0_lt {m : Nat} (hm : m < 16) {ds : List Dd} (ok : Ok ds) : at0 ds m < 16 := by
  unfold at0
  cases e : tr ds m with
  | nil => exact absurd e (tr_ne ds m)
  | cons y ys => exact tr_lt hm ds ok y (by rw [e]; simp)
theorem ok_drop {ds : List Dd} (ok : Ok ds) (k : Nat) : Ok (ds.drop k) := fun d hd => ok d (List.mem_of_mem_drop hd)
end Sh

/-! A2: writes and offers. -/
namespace Sh
open PySem PySem.Spec L2 Gx M10
open PyProof.Rows hiding St
def gd (ds : List Dd) (k : Nat) : Dd := ds.getD k (.wait 0)
def dsD (ds : List Dd) : PyData := .tuple (ds.map Dd.d)
def bkD (N : Nat) (l : Int) (ds : List Dd) : PyData := .tuple [intM N, .int l, dsD ds]
theorem gd_get {ds : List Dd} {k : Nat} (h : k < ds.length) : ds[k]? = some (gd ds k) := by
  unfold gd
  rw [List.getD_eq_getElem?_getD, List.getElem?_eq_getElem h]
  rfl
theorem gd_ok {ds : List Dd} (ok : Ok ds) {k : Nat} (h : k < ds.length) : (gd ds k).ok := ok _ (List.mem_of_getElem? (gd_get h))
def wn (ds : List Dd) : List Nat := (List.range ds.length).filter fun k => (gd ds k).isW
def wf (ds : List Dd) (r : Int) : List Nat := (wn ds).filter fun k => decide (r ≤ (gd ds k).rk)
def offM (ds : List Dd) (k : Nat) : PyData := .tuple [intM k, .list ((gd ds k).fam.map intM)]
end Sh

/-! A3: free lots, the first full write, what is held at every hour. -/
namespace Sh
open PySem PySem.Spec L2 Gx M10
open PyProof.Rows hiding St
def full (ks : List Nat) (m : Nat) : Bool := ks.all fun l => l &&& m != 0
/-! ### what is held at every hour -/
theorem drop_gd {ds : List Dd} {k : Nat} (h : k < ds.length) : ds.drop k = gd ds k :: ds.drop (k + 1) := by
  rw [List.drop_eq_getElem_cons h]
  have e := gd_get h
  rw [List.getElem?_eq_getElem h] at e
  rw [Option.some.inj e]
abbrev maB : Dn Fl := sApp 3 (frz (dFn (den_mask_ahead) (aCons (ofD (dPeek 0 (dName 4))) (aCons (ofD (dPeek 3 (dUn negD (dC (.int 1))))) aNil))))
end Sh

/-! A4: masks behind, the first write that is held, roads. -/
namespace Sh
open PySem PySem.Spec L2 Gx M10
open PyProof.Rows hiding St
def msD (ds : List Dd) (m : Nat) : PyData := .list ((tr ds m).map intM)
def fl (ds : List Dd) (m k : Nat) : Bool := full (gd ds k).fam (at0 (ds.drop (k + 1)) m)
def hd (ds : List Dd) (m : Nat) (r : Int) : Option Nat := (wf ds r).find? (fl ds m)
def optM : Option Nat → PyData
  | none => .none
  | some k => intM k
/-! ### roads -/
def nxt (d : Dd) (p m : Nat) : Nat := if has m p then p else d.to
def pos (ds : List Dd) (m s p : Nat) : Nat → Nat
  | 0 => p
  | j + 1 => nxt (gd ds (s + j)) (pos ds m s p j) (at0 (ds.drop (s + j + 1)) m)
def road (ds : List Dd) (m s p : Nat) : List Nat := (List.range (ds.length - s + 1)).map (pos ds m s p)
end Sh

/-! A5: roads as the program walks them; what is frozen, what is turned into lists. -/
namespace Sh
open PySem PySem.Spec L2 Gx M10
open PyProof.Rows hiding St
abbrev rdB : Dn Fl := sIf (dNotT (dTru (frz (dFn (den_has_place) (aCons (ofD (dPeek 1 (frz (dBin addD (dName 5) (dC (.int 1)))))) (aCons (ofD (dPeek 4 (dUn negD (dC (.int 1))))) aNil)))))) (sApp 4 (frz (dBin ixD (dPeek 0 (dName 5)) (dC (.int 3))))) (sApp 4 (dPeek 4 (dUn negD (dC (.int 1)))))
def rdE (ds : List Dd) (m p s : Nat) (xs : List Nat) (e : En) : Ev := [.fz (dsD ds), .fz (msD ds m), .fz (intM p), .fz (intM s), .ol (xs.map intM), e]
/-! ### frozen, lists -/
def tpl : Nat → PyData → Bool
  | _, .none => true
  | _, .bool _ => true
  | _, .int _ => true
  | _, .str _ => true
  | k + 1, .tuple xs => decide (xs.length ≤ 16777216) && xs.all (tpl k)
  | _, _ => false
def lis : Nat → PyData → PyData
  | k + 1, .tuple xs => .list (xs.map (lis k))
  | _, d => d
theorem frz_id : ∀ (k : Nat) (d : PyData), tpl k d = true → Gv (den_frozen (k + 1)) [.fz d] (.fz d)
  | 0, .list _, h => Bool.noConfusion (show false = true from h)
  | 0, .dict _, h => Bool.noConfusion (show false = true from h)
  | k + 1, .list _, h => Bool.noConfusion (show false = true from h)
  | k + 1, .dict _, h => Bool.noConfusion (show false = true from h)
  | 0, .tuple _, h => Bool.noConfusion (show false = true from h)
  | k, .none, _ => ⟨_, show runF 1 2 (b_frozen (den_frozen k)) _ = _ from rfl⟩
  | k, .bool _, _ => ⟨_, show runF 1 2 (b_frozen (den_frozen k)) _ = _ from rfl⟩
  | k, .int _, _ => ⟨_, show runF 1 2 (b_frozen (den_frozen k)) _ = _ from rfl⟩
  | k, .str _, _ => ⟨_, show runF 1 2 (b_frozen (den_frozen k)) _ = _ from rfl⟩
  | k + 1, .tuple xs, h => by
    have h' : (decide (xs.length ≤ 16777216) && xs.all (tpl k)) = true := h
    rw [Bool.and_eq_true, decide_eq_true_eq] at h'
    show Gv (runF 1 2 (b_frozen (den_frozen (k + 1)))) _ _
    have c := ev_comp0 (ρ := [.fz (.tuple xs), .no]) (ρ1 := [.fz (.tuple xs), .no]) (u := fun x : PyData => x) (i := 1) (fi := iSeq (dName 0)) (fe := frz (dFn (den_frozen (k + 1)) (aCons (ofD (dName 1)) aNil))) (ds := xs) (fun x => x) (by rw [List.map_id']; rfl) rfl (fun x hx => frzF (gv_fn (as := [.fz x]) rfl rfl rfl (frz_id k x (List.all_eq_true.mp h'.2 x hx)))) h'.1
    rw [List.map_id'] at c
    exact gv_run ⟨_, ev_seqR (ev_if (b := true) rfl (ev_ret (ev_call (ev_cons (frzL c) rfl) rfl)))⟩
theorem frz_lis : ∀ (k : Nat) (d : PyData), tpl k d = true → Gv (den_frozen (k + 1)) [.fz (lis k d)] (.fz d)
  | 0, .none, _ => ⟨_, show runF 1 2 (b_frozen (den_frozen 0)) _ = _ from rfl⟩
  | 0, .bool _, _ => ⟨_, show runF 1 2 (b_frozen (den_frozen 0)) _ = _ from rfl⟩
  | 0, .int _, _ => ⟨_, show runF 1 2 (b_frozen (den_frozen 0)) _ = _ from rfl⟩
  | 0, .str _, _ => ⟨_, show runF 1 2 (b_frozen (den_frozen 0)) _ = _ from rfl⟩
  | k + 1, .none, _ => ⟨_, show runF 1 2 (b_frozen (den_frozen (k + 1))) _ = _ from rfl⟩
  | k + 1, .bool _, _ => ⟨_, show runF 1 2 (b_frozen (den_frozen (k + 1))) _ = _ from rfl⟩
  | k + 1, .int _, _ => ⟨_, show runF 1 2 (b_frozen (den_frozen (k + 1))) _ = _ from rfl⟩
  | k + 1, .str _, _ => ⟨_, show runF 1 2 (b_frozen (den_frozen (k + 1))) _ = _ from rfl⟩
  | k + 1, .tuple xs, h => by
    have h' : (decide (xs.length ≤ 16777216) && xs.all (tpl k)) = true := h
    rw [Bool.and_eq_true, decide_eq_true_eq] at h'
    show Gv (runF 1 2 (b_frozen (den_frozen (k + 1)))) [.fz (.list (xs.map (lis k)))] _
    have c := ev_comp0 (ρ := [.fz (.list (xs.map (lis k))), .no]) (ρ1 := [.fz (.list (xs.map (lis k))), .no]) (u := lis k) (i := 1) (fi := iSeq (dName 0)) (fe := frz (dFn (den_frozen (k + 1)) (aCons (ofD (dName 1)) aNil))) (ds := xs) (fun x => x) rfl rfl (fun x hx => frzF (gv_fn (as := [.fz (lis k x)]) rfl rfl rfl (frz_lis k x (List.all_eq_true.mp h'.2 x hx)))) h'.1
    rw [List.map_id'] at c
    exact gv_run ⟨_, ev_seqR (ev_if (b := true) rfl (ev_ret (ev_call (ev_cons (frzL c) rfl) rfl)))⟩
theorem lis_ev : ∀ (k : Nat) (d : PyData), tpl k d = true → Gv (den_lists (k + 1)) [.fz d] (.fz (lis k d))
  | 0, .none, _ => ⟨_, show runF 1 2 (b_lists (den_lists 0)) _ = _ from rfl⟩
  | 0, .bool _, _ => ⟨_, show runF 1 2 (b_lists (den_lists 0)) _ = _ from rfl⟩
  | 0, .int _, _ => ⟨_, show runF 1 2 (b_lists (den_lists 0)) _ = _ from rfl⟩
  | 0, .str _, _ => ⟨_, show runF 1 2 (b_lists (den_lists 0)) _ = _ from rfl⟩
  | k + 1, .none, _ => ⟨_, show runF 1 2 (b_lists (den_lists (k + 1))) _ = _ from rfl⟩
  | k + 1, .bool _, _ => ⟨_, show runF 1 2 (b_lists (den_lists (k + 1))) _ = _ from rfl⟩
  | k + 1, .int _, _ => ⟨_, show runF 1 2 (b_lists (den_lists (k + 1))) _ = _ from rfl⟩
  | k + 1, .str _, _ => ⟨_, show runF 1 2 (b_lists (den_lists (k + 1))) _ = _ from rfl⟩
  | k + 1, .tuple xs, h => by
    have h' : (decide (xs.length ≤ 16777216) && xs.all (tpl k)) = true := h
    rw [Bool.and_eq_true, decide_eq_true_eq] at h'
    show Gv (runF 1 2 (b_lists (den_lists (k + 1)))) [.fz (.tuple xs)] (.fz (.list (xs.map (lis k))))
    have c := ev_comp0 (ρ := [.fz (.tuple xs), .no]) (ρ1 := [.fz (.tuple xs), .no]) (u := fun x : PyData => x) (i := 1) (fi := iSeq (dName 0)) (fe := frz (dFn (den_lists (k + 1)) (aCons (ofD (dName 1)) aNil))) (ds := xs) (lis k) (by rw [List.map_id']; rfl) rfl (fun x hx => frzF (gv_fn (as := [.fz x]) rfl rfl rfl (lis_ev k x (List.all_eq_true.mp h'.2 x hx)))) h'.1
    exact gv_run ⟨_, ev_ret (ev_ofD (ev_bnd (a := true) rfl (frzL c)))⟩
end Sh

/-! B6a: nothing is refused. -/
namespace Sh
open PySem PySem.Spec L2 Gx M10
open PyProof.Rows hiding St
def Arg (e : En) (xs : List Int) : Prop := (e = .sc (.t []) ∧ xs = []) ∨ e = .fz (.tuple (xs.map .int))
end Sh

/-! A6: hold_paper. -/
namespace Sh
open PySem PySem.Spec L2 Gx M10
open PyProof.Rows hiding St
def homes (ds : List Dd) (c k : Nat) : List Nat := (bits (gd ds k).hm).filter fun p => has (at0 (ds.drop (k + 1)) c) p
def roadD (ds : List Dd) (c k p : Nat) : PyData := .tuple ((road ds c (k + 1) p).map intM)
def pv (ds : List Dd) (c : Nat) (r : Int) : PyData := match hd ds c r with
  | none => .none
  | some k => .tuple [intM k, .tuple ((homes ds c k).map (roadD ds c k))]
end Sh

/-! A7: the law's own past, room, first full write. -/
namespace Sh
open PySem PySem.Spec L2 Gx M10
open PyProof.Rows hiding St
abbrev paM : Dn Fl := sSeq (sIf (dAndT (dCmpT eqD (dPeek 5 (dC (.int 0))) (dC (.str "copy"))) (dCmpT inD (dPeek 5 (dC (.int 3))) (dName 6))) (sSet 6 (dCall tupleD (dCons (frz (dCall setSortD (dCons (frz (dBin addD (dName 6) (dTup (dCons (dPeek 5 (dC (.int 2))) dNil)))) dNil))) dNil))) sNx)
  (sSeq (sIf (dCmpT eqD (dPeek 5 (dC (.int 0))) (dC (.str "lose"))) (sSet 6 (dCall tupleD (dCons (frz (dComp (iSeq (dName 6)) (hName 7) (dCmpT neD (dName 7) (dPeek 5 (dC (.int 2)))) (dName 7) [7])) dNil))) sNx)
  (sSet 3 (dBin addD (frz (dLst (dCons (dName 6) dNil))) (dName 3))))
abbrev paMid : Dn Fl := sSeq (sIf (dAndT (dCmpT eqD (dPeek 5 (dC (.int 0))) (dC (.str "copy"))) (dCmpT inD (dPeek 5 (dC (.int 3))) (dName 6))) (sSet 6 (dCall tupleD (dCons (frz (dCall setSortD (dCons (frz (dBin addD (dName 6) (dTup (dCons (dPeek 5 (dC (.int 2))) dNil)))) dNil))) dNil))) sNx)
  (sIf (dCmpT eqD (dPeek 5 (dC (.int 0))) (dC (.str "lose"))) (sSet 6 (dCall tupleD (dCons (frz (dComp (iSeq (dName 6)) (hName 7) (dCmpT neD (dName 7) (dPeek 5 (dC (.int 2)))) (dName 7) [7])) dNil))) sNx)
def paE (a b c e3 e4 : En) (d : PyData) (m : Nat) : Ev := [a, b, c, e3, e4, .fz d, .fz (lotM m), .no]
end Sh

/-! A8: the law's own past, room, writes and first full write. -/
namespace Sh
open PySem PySem.Spec L2 Gx M10
open PyProof.Rows hiding St
def paF (N : Nat) (l : Int) (ds : List Dd) (c : Nat) (xs : List PyData) (e4 e5 e6 : En) : Ev := [.fz (bkD N l ds), .fz (lotM c), .fz (intM ds.length), .ol xs, e4, e5, e6, .no]
end Sh

/-! A9: the law's first full write, its stays, its roads. -/
namespace Sh
open PySem PySem.Spec L2 Gx M10
open PyProof.Rows hiding St
def ltD' (ds : List Dd) (c : Nat) : PyData := .list ((tr ds c).map lotM)
theorem lot_at {ds : List Dd} {c k : Nat} (h : k < ds.length) : itemE (some (.ol ((tr ds c).map lotM))) (intM (k + 1)) = some (lotM (at0 (ds.drop (k + 1)) c)) := by
  show atI ((tr ds c).map lotM) ((k + 1 : Nat) : Int) = _
  rw [at_n (by rw [List.length_map, tr_len]; omega), List.getElem?_map, tr_get c ds (k + 1) (by omega)]
  rfl
def ffE (N : Nat) (l : Int) (ds : List Dd) (c : Nat) (r : Int) (e4 : En) : Ev := [.fz (bkD N l ds), .fz (lotM c), .fz (.int r), .ol ((tr ds c).map lotM), e4]
/-! ### stays -/
def syE (N : Nat) (l : Int) (ds : List Dd) (c p s : Nat) (e4 : En) (xs : List Nat) : Ev := [.fz (bkD N l ds), .fz (lotM c), .fz (intM p), .fz (intM s), e4, .ol ((tr ds c).map lotM), .ol (xs.map intM)]
end Sh

/-! A10: the law's roads. -/
namespace Sh
open PySem PySem.Spec L2 Gx M10
open PyProof.Rows hiding St
abbrev irT : Dn Fl := sSeq (sSet 6 (ofD (dAnd (frz (dBin eqD (dName 8) (dName 5))) (dNot (dAnd (frz (dBin eqD (dPeek 7 (dC (.int 0))) (dC (.str "lose")))) (frz (dBin eqD (dPeek 7 (dC (.int 2))) (dName 8))))))))
    (sIf (dAndT (dNotT (dTru (dName 6))) (dCmpT neD (frz (dBin addD (frz (dSl (dName 7) dOff (dOn (dC (.int 1))))) (frz (dSl (dName 7) (dOn (dC (.int 2))) dOff)))) (dTup (dCons (dC (.str "copy")) (dCons (dName 8) (dCons (dName 5) dNil)))))) (sRet (ofD (dC (.bool false)))) sNx)
abbrev irB : Dn Fl := sSeq (sPar [7, 8] (dCons (frz (dBin ixD (dPeek 0 (dC (.int 2))) (frz (dBin addD (dName 3) (dName 4))))) (dCons (dPeek 1 (dName 4)) dNil)))
    (sSeq (sSet 5 (ofD (dPeek 1 (frz (dBin addD (dName 4) (dC (.int 1)))))))
    irT)
def irE (a b c s k e5 e6 : En) (d : PyData) (p : Nat) : Ev := [a, b, c, s, k, e5, e6, .fz d, .fz (intM p)]
end Sh

/-! A11: papers are right. -/
namespace Sh
open PySem PySem.Spec L2 Gx M10
open PyProof.Rows hiding St
def prE (N : Nat) (l : Int) (ds : List Dd) (c : Nat) (r : Int) (e3 e4 e5 e6 e8 : En) : Ev := [.fz (bkD N l ds), .fz (lotM c), .fz (.int r), e3, e4, e5, e6, .fz (pv ds c r), e8, .no, .no]
end Sh

/-! A12: what is held by some, what some miss. -/
namespace Sh
open PySem PySem.Spec L2 Gx M10
open PyProof.Rows hiding St
def hbS (ds : List Dd) (c : Nat) (a : Int) (k : Nat) : Int := if fl ds c k then (gd ds k).rk else a
def hb (ds : List Dd) (c : Nat) : Int := (wf ds 1).foldl (hbS ds c) 0
def hbE (N : Nat) (l : Int) (ds : List Dd) (c : Nat) (e3 : En) (a : Int) (e5 e6 : En) : Ev := [.fz (bkD N l ds), .fz (.list ((wf ds 1).map (offM ds))), .fz (lotM c), e3, .fz (.int a), e5, e6]
def mis (ds : List Dd) (c : Nat) (r : Int) : Bool := (wf ds r).all fun k => !(fl ds c k)
end Sh

/-! A13: versions that some miss. -/
namespace Sh
open PySem PySem.Spec L2 Gx M10
open PyProof.Rows hiding St
def chs (w a : Nat) : List Nat := tl.filter fun m => sub m w && pop m == a
def Asc (ds : List Dd) : Prop := (wn ds).Pairwise fun j k => (gd ds j).rk < (gd ds k).rk
def duD (ds : List Dd) (cs : List Nat) : List Dd := (ds.filter Dd.isW).filter fun d => cs.any fun c => mis ds c d.rk
def mvD (ds : List Dd) (cs : List Nat) : PyData := .tuple ((duD ds cs).map fun d => .int d.rk)
end Sh

/-! A15: what is drawn: lots within lots, one of some goods. -/
namespace Sh
open PySem PySem.Spec L2 Gx M10
open PyProof.Rows hiding St
theorem of_ev {n : Nat} {t xs : List PyData} (h : TinOk n t) (hn : n < 900000) (h0 : 0 < xs.length) (hl : xs.length < 1000000) : ∃ (d : Nat) (x : PyData) (t' : List PyData) (es : List En), d < xs.length ∧ xs[d]? = some x ∧ TinOk (n + 1) t' ∧ den_of [.bl t, .fz (.list xs)] = .ok (.fz x, .bl t' :: es) := by
  obtain ⟨d, t', a1, a2, a3⟩ := take_at (ρ := [.bl t, .fz (.list xs)]) (b := xs.length) (fb := ofD (dLenP 1)) rfl h hn h0 hl rfl
  have gx : xs[d]? = some xs[d] := List.getElem?_eq_getElem a1
  refine ⟨d, xs[d], t', [.fz (.list xs)], a1, gx, a2, ?_⟩
  have it : itemE (some (.fz (.list xs))) (intM d) = some xs[d] := by
    show atI xs (d : Int) = _
    rw [at_n a1, gx]
  have pk : (dPeek 1 (frz (dFn (den_take) (aLend 0 (aCons (ofD (dLenP 1)) aNil))))) [.bl t, .fz (.list xs)] = .ok (xs[d], [.bl t', .fz (.list xs)]) := ev_peek rfl a3 it
  exact Eq.trans (ev_run (n := 2) (N := 2) (as := [.bl t, .fz (.list xs)]) (ev_ret (ev_ofD pk))) rfl
end Sh

/-! B16: a deed that is drawn. -/
namespace Sh
open PySem PySem.Spec L2 Gx M10
open PyProof.Rows hiding St
def Dd.fit (N : Nat) : Dd → Prop
  | .wr _ _ _ h ks => (∀ p ∈ bits h, p < N) ∧ 1 ≤ pop h ∧ KinOk ks ∧ ∀ k ∈ ks, sub k h = true
  | .wait _ => True
  | .lose _ p => p < N
  | .cp _ _ p q => p < N ∧ q < N ∧ p ≠ q
def Fit (N : Nat) (ds : List Dd) : Prop := ∀ d ∈ ds, d.fit N
def dE (N : Nat) (t : List PyData) (w : Str) (tk r : Int) (e5 e6 e7 : En) : Ev := [.bl t, .fz (intM N), .fz (.str w), .fz (.int tk), .fz (.int r), e5, e6, e7]
abbrev rN (N : Nat) : List PyData := (List.range N).map intM
end Sh

/-! A17: every deed that is drawn is a deed. -/
namespace Sh
open PySem PySem.Spec L2 Gx M10
open PyProof.Rows hiding St
abbrev dWr : Dn Fl := sSeq (sSet 7 (dCall tupleD (dCons (frz (dCall sort2D (dCons (frz (dFn (den_pick) (aLend 0 (aCons (ofD (dName 5)) (aCons (ofD (frz (dBin addD (dC (.int 1)) (frz (dFn (den_take) (aLend 0 (aCons (ofD (dName 1)) aNil))))))) aNil))))) dNil))) dNil)))
  (sRet (ofD (dTup (dCons (dName 2) (dCons (dName 3) (dCons (dName 4) (dCons (dName 7) (dCons (frz (dFn (den_kin) (aLend 0 (aCons (ofD (dName 7)) aNil)))) dNil))))))))
abbrev inWr : Dn Bool := dCmpT inW (dName 2) (dTup (dCons (dC (.str "put")) (dCons (dC (.str "strike")) dNil)))
def sixW (w : Str) : Prop := w = "put" ∨ w = "strike" ∨ w = "copy" ∨ w = "send" ∨ w = "lose" ∨ w = "wait"
end Sh

/-! A18: a leaf that is drawn: the parts of a turn. -/
namespace Sh
open PySem PySem.Spec L2 Gx M10
open PyProof.Rows hiding St
abbrev wds : List PyData := [.str "put", .str "put", .str "put", .str "strike", .str "copy", .str "copy", .str "copy", .str "send", .str "send", .str "lose", .str "wait"]
end Sh

/-! A19: a turn of the leaf's loop: the word that is left to be written. -/
namespace Sh
open PySem PySem.Spec L2 Gx M10
open PyProof.Rows hiding St
def W6 : Nat → Str
  | 0 => "put"
  | 1 => "strike"
  | 2 => "copy"
  | 3 => "send"
  | 4 => "lose"
  | _ => "wait"
def kd (i : Nat) : Nat := if i < 2 then 0 else if i = 3 then 1 else 2
def nw (i a b : Nat) : Nat := if (kd i == 0 && a == 0) || (kd i == 1 && b == 0) then 2 else i
def na (i a : Nat) : Nat := if kd i == 0 then a - 1 else a
def nb (i b : Nat) : Nat := if kd i == 1 then b - 1 else b
def lfE (N : Nat) (t : List PyData) (z m lap e5 e6 tk rk : En) (a b : Nat) (w : Str) (e11 : En) : Ev := [.bl t, .fz (intM N), z, m, lap, e5, e6, tk, rk, .ol [intM a, intM b], .fz (.str w), e11]
abbrev leM : Dn Fl := sSeq (sSet 11 (ofD (dIf (dCmpT inW (dName 10) (dTup (dCons (dC (.str "put")) (dCons (dC (.str "strike")) dNil)))) (dC (.int 0)) (dIf (dCmpT eqD (dName 10) (dC (.str "send"))) (dC (.int 1)) (dC (.int 2))))))
  (sSeq (sIf (dAndT (dCmpT ltD (dName 11) (dC (.int 2))) (dCmpT eqD (dPeek 9 (dName 11)) (dC (.int 0)))) (sSet 10 (ofD (dC (.str "copy")))) sNx)
  (sIf (dAndT (dCmpT ltD (dName 11) (dC (.int 2))) (dCmpT gtD (dPeek 9 (dName 11)) (dC (.int 0)))) (sSetIx 9 (dName 11) (frz (dBin subD (dPeek 9 (dName 11)) (dC (.int 1))))) sNx))
end Sh

/-! A20: a turn of the leaf's loop: the word that is drawn. -/
namespace Sh
open PySem PySem.Spec L2 Gx M10
open PyProof.Rows hiding St
def o5 (e : En) : Prop := e = .ol wds ∨ e = .fz (.list wds)
def lf0 (N : Nat) (t : List PyData) (z m : En) (k : Nat) (e5 e6 tk rk : En) (a b : Nat) (e10 e11 : En) : Ev := [.bl t, .fz (intM N), z, m, .fz (intM k), e5, e6, tk, rk, .ol [intM a, intM b], e10, e11]
abbrev leW : Dn Fl := sSet 10 (ofD (dIf (dOrT (dCmpT gtD (dName 4) (dC (.int 0))) (dCmpT eqD (frz (dFn (den_take) (aLend 0 (aCons (ofD (dC (.int 4))) aNil)))) (dC (.int 0)))) (frz (dFn (den_of) (aLend 0 (aCons (ofD (dName 5)) aNil)))) (dC (.str "put"))))
end Sh

/-! A21: a whole turn of the leaf's loop. -/
namespace Sh
open PySem PySem.Spec L2 Gx M10
open PyProof.Rows hiding St
abbrev leT : Dn Fl := sSet 7 (dBin addD (dName 7) (frz (dFn (den_of) (aLend 0 (aCons (ofD (frz (dLst (dCons (dC (.int 0)) (dCons (dC (.int 1)) (dCons (dC (.int 1)) (dCons (dC (.int 2)) dNil))))))) aNil)))))
abbrev leR : Dn Fl := sSet 8 (dBin addD (frz (dBin addD (dName 8) (dC (.int 1)))) (frz (dCall intD (dCons (frz (dBin eqD (frz (dFn (den_take) (aLend 0 (aCons (ofD (dC (.int 3))) aNil)))) (dC (.int 0)))) dNil))))
abbrev leD : Dn Fl := sApp 6 (frz (dFn (den_deed) (aLend 0 (aCons (ofD (dName 1)) (aCons (ofD (dName 10)) (aCons (ofD (dName 7)) (aCons (ofD (dName 8)) aNil)))))))
end Sh

/-! A22: a leaf that is drawn. -/
namespace Sh
open PySem PySem.Spec L2 Gx M10
open PyProof.Rows hiding St
structure LI (N n : Nat) (z m : En) (j : Nat) (σ : Ev) (t : List PyData) (e4 e5 : En) (ds : List Dd) (tk rk : Int) (a b : Nat) (e10 e11 : En) : Prop where
  o4 : okEn e4
  h5 : o5 e5
  o10 : okEn e10
  o11 : okEn e11
  ha : a < 4
  hb : b < 3
  ok : Ok ds
  fit : Fit N ds
  asc : Asc ds
  ln : ds.length = j
  r0 : 0 ≤ rk
  r2 : rk ≤ 2 * j
  top : ∀ k ∈ wn ds, (gd ds k).rk ≤ rk
  tin : TinOk (n + 70 * j) t
  eq : σ = [.bl t, .fz (intM N), z, m, e4, e5, .ol (ds.map Dd.d), .fz (.int tk), .fz (.int rk), .ol [intM a, intM b], e10, e11]
def LX (N n : Nat) (z m : En) (j : Nat) (σ : Ev) : Prop := ∃ t e4 e5 ds tk rk a b e10 e11, LI N n z m j σ t e4 e5 ds tk rk a b e10 e11
abbrev leB : Dn Fl := sSeq leW (sSeq (sSet 11 (ofD (dIf (dCmpT inW (dName 10) (dTup (dCons (dC (.str "put")) (dCons (dC (.str "strike")) dNil)))) (dC (.int 0)) (dIf (dCmpT eqD (dName 10) (dC (.str "send"))) (dC (.int 1)) (dC (.int 2))))))
  (sSeq (sIf (dAndT (dCmpT ltD (dName 11) (dC (.int 2))) (dCmpT eqD (dPeek 9 (dName 11)) (dC (.int 0)))) (sSet 10 (ofD (dC (.str "copy")))) sNx)
  (sSeq (sIf (dAndT (dCmpT ltD (dName 11) (dC (.int 2))) (dCmpT gtD (dPeek 9 (dName 11)) (dC (.int 0)))) (sSetIx 9 (dName 11) (frz (dBin subD (dPeek 9 (dName 11)) (dC (.int 1))))) sNx)
  (sSeq leT (sSeq leR leD)))))
end Sh

/-! A23: the leaf. -/
namespace Sh
open PySem PySem.Spec L2 Gx M10
open PyProof.Rows hiding St
def Mo (e : En) (a b : Nat) : Prop := e = .fz (.tuple [intM a, intM b]) ∨ e = .fz (.list [intM a, intM b])
end Sh

/-! A24: a page; by hand. -/
namespace Sh
open PySem PySem.Spec L2 Gx M10
open PyProof.Rows hiding St
def moD : En → PyData
  | .fz d => d
  | _ => .none
end Sh

/-! C1: can_miss, held_version. -/
namespace Sh
open PySem PySem.Spec L2 Gx M10
open PyProof.Rows hiding St
section
variable {N : Nat} {l r : Int} {ds : List Dd} {c : Nat} {b s : PyData}
end
end Sh

/-! C2: the first free lot by its place; the quiet world. -/
namespace Sh
open PySem PySem.Spec L2 Gx M10
open PyProof.Rows hiding St
def frIx (ks : List Nat) (m : Nat) : Option Nat := (List.range ks.length).find? fun k => ks.getD k 0 &&& m == 0
/-! ### a world in which no letter comes -/
def qi (ds : List Dd) (f : Nat → Nat) (k : Nat) : PyData := if (gd ds k).isW then .tuple [lotM (f k), .tuple []] else .tuple []
def qd (ds : List Dd) (f : Nat → Nat) : List PyData := (List.range ds.length).map (qi ds f)
def wnb (ds : List Dd) (j : Nat) : List Nat := (List.range j).filter fun k => (gd ds k).isW
abbrev quB : Dn Fl := sIf (dTru (frz (dFn (den_is_write) (aCons (ofD (dName 4)) aNil)))) (sSeq (sApp 2 (dTup (dCons (dPeek 1 (dName 3)) (dCons (dTup dNil) dNil)))) (sSet 3 (dBin addD (dName 3) (dC (.int 1))))) (sApp 2 (dTup dNil))
end Sh

/-! C3: the world in which a lot misses. -/
namespace Sh
open PySem PySem.Spec L2 Gx M10
open PyProof.Rows hiding St
def pkI (ds : List Dd) (c : Nat) (r : Int) (k : Nat) : Nat := if r ≤ (gd ds k).rk then (frIx (gd ds k).fam (at0 (ds.drop (k + 1)) c)).getD 0 else 0
def pk (ds : List Dd) (c : Nat) (r : Int) (k : Nat) : Nat := (gd ds k).fam.getD (pkI ds c r k) 0
def Ne (ds : List Dd) : Prop := ∀ k ∈ wn ds, (gd ds k).fam ≠ []
abbrev wwT : Dn Fl := sSeq (sSet 7 (dFn (den_first_free) (aCons (ofD (frz (dFn (den_masks_of) (aCons (ofD (dName 6)) aNil)))) (aCons (ofD (dPeek 3 (frz (dBin addD (dName 5) (dC (.int 1)))))) aNil))))
  (sIf (dCmpT isND (dName 7) (dC .none)) (sRet (ofD (dC .none))) sNx)
abbrev wwB : Dn Fl := sSeq (sSet 6 (dBin ixD (frz (dBin ixD (dPeek 0 (dC (.int 2))) (dName 5))) (dC (.int 4))))
  (sSeq (sSet 7 (ofD (dC (.int 0))))
  (sSeq (sIf (dCmpT geD (frz (dBin ixD (frz (dBin ixD (dPeek 0 (dC (.int 2))) (dName 5))) (dC (.int 2)))) (dName 2)) wwT sNx)
  (sApp 4 (dPeek 6 (dName 7)))))
def wwE (N : Nat) (l : Int) (ds : List Dd) (c : Nat) (r : Int) (xs : List PyData) (e5 e6 e7 : En) : Ev := [.fz (bkD N l ds), .fz (lotM c), .fz (.int r), .ol ((tr ds c).map intM), .ol xs, e5, e6, e7]
section
variable {N : Nat} {l r : Int} {ds : List Dd} {c : Nat}
def wwD (ds : List Dd) (c : Nat) (r : Int) : PyData := if mis ds c r then .tuple (qd ds (pk ds c r)) else .none
end
end Sh

/-! C4: a quiet world is played. -/
namespace Sh
open PySem PySem.Spec L2 Gx M10
open PyProof.Rows hiding St
def imax (i j : Int) : Int := if j > i then j else i
def cellsD (cs : List Int) : PyData := .tuple (cs.map .int)
def wmax (r : Int) (cs : List Int) (js : List Nat) : List Int := js.foldl (fun cs j => cs.set j (imax (cs.getD j 0) r)) cs
def dn (cs : List Int) (d : Dd) (m : Nat) : List Int := match d with
  | .wr _ _ r _ _ => wmax r cs (bits m)
  | .cp true _ p q => cs.set q (imax (cs.getD q 0) (cs.getD p 0))
  | .lose _ p => cs.set p 0
  | _ => cs
section
variable {N : Nat} {cs : List Int} {d : Dd} {m : Nat}
def doE (cs0 : List Int) (d : PyData) (m : Nat) (cs : List Int) (e4 : En) : Ev := [.fz (cellsD cs0), .fz d, .fz (lotM m), .ol (cs.map .int), e4]
abbrev doW : Dn Fl := sSetIx 3 (dName 4) (frz (dCall max2D (dCons (dPeek 3 (dName 4)) (dCons (dPeek 1 (dC (.int 2))) dNil))))
end
end Sh

/-! C5: a quiet world played; what is read in it. -/
namespace Sh
open PySem PySem.Spec L2 Gx M10
open PyProof.Rows hiding St
def cl (N : Nat) (ds : List Dd) (f : Nat → Nat) : Nat → List Int
  | 0 => List.replicate N 0
  | k + 1 => dn (cl N ds f k) (gd ds k) (if (gd ds k).isW then f k else 0)
def fateD (ds : List Dd) (f : Nat → Nat) : PyData := .tuple (qd ds f)
def plE (N : Nat) (l : Int) (ds : List Dd) (f : Nat → Nat) (k : Nat) (bs : List Int) (e5 e6 e7 e8 e9 : En) : Ev := [.fz (bkD N l ds), .fz (fateD ds f), .ol ((List.range (k + 1)).map fun j => cellsD (cl N ds f j)), .fz (cellsD (cl N ds f k)), .ol (bs.map .int), e5, e6, e7, e8, e9, .no]
abbrev plI : Dn Fl := sFor (iSeq (frz (dFn (den_landing) (aCons (ofD (frz (dBin ixD (dPeek 0 (dC (.int 2))) (dName 9)))) (aCons (ofD (dPeek 1 (dName 9))) (aCons (ofD (frz (dBin addD (dName 5) (dC (.int 1))))) aNil)))))) (hName 10) (sSetIx 8 (dName 10) (frz (dCall max2D (dCons (dPeek 8 (dName 10)) (dCons (dPeek 4 (dName 9)) dNil)))))
abbrev plB : Dn Fl := (sSeq (sSet 7 (dFn (den_law_is_write) (aCons (ofD (dName 6)) aNil)))
  (sSeq (sApp 4 (dIf (dTru (dName 7)) (dPeek 6 (dC (.int 2))) (dIf (dCmpT eqD (dPeek 6 (dC (.int 0))) (dC (.str "send"))) (dPeek 3 (dPeek 6 (dC (.int 2)))) (dC (.int 0)))))
  (sSeq (sSet 8 (dCall listD (dCons (frz (dFn (den_done) (aCons (ofD (dName 3)) (aCons (ofD (dName 6)) (aCons (ofD (dIf (dTru (dName 7)) (frz (dBin ixD (dPeek 1 (dName 5)) (dC (.int 0)))) (dTup dNil))) aNil))))) dNil)))
  (sSeq (sFor (iRg1 (dCons (frz (dBin addD (dName 5) (dC (.int 1)))) dNil)) (hName 9) plI)
  (sSeq (sSet 3 (dCall tupleD (dCons (dName 8) dNil)))
  (sApp 2 (dName 3)))))))
section
variable {N : Nat} {l : Int} {ds : List Dd} {f : Nat → Nat}
end
end Sh

/-! C6: in the world in which a lot misses it reads less. -/
namespace Sh
open PySem PySem.Spec L2 Gx M10
open PyProof.Rows hiding St
theorem getD_set (cs : List Int) (j p : Nat) (v : Int) : (cs.set j v).getD p 0 = if p = j ∧ j < cs.length then v else cs.getD p 0 := by
  rw [List.getD_eq_getElem?_getD, List.getD_eq_getElem?_getD]
  by_cases h : p = j
  · subst h
    by_cases l : p < cs.length
    · rw [if_pos ⟨rfl, l⟩, List.getElem?_set_self l]; rfl
    · rw [if_neg (fun z => l z.2), List.getElem?_eq_none (by simpa using l), List.getElem?_eq_none (by omega)]
  · rw [if_neg (fun z => h z.1), List.getElem?_set_ne (Ne.symm h)]
theorem imax_lt {i j R : Int} (h1 : i < R) (h2 : j < R) : imax i j < R := by
  unfold imax
  split <;> assumption
theorem wmax_lt {r R : Int} : ∀ (js : List Nat) (cs : List Int) (p : Nat), (p ∉ js ∨ r < R) → cs.getD p 0 < R → (wmax r cs js).getD p 0 < R
  | [], _, _, _, h => h
  | j :: js, cs, p, o, h => by
    show (wmax r (cs.set j (imax (cs.getD j 0) r)) js).getD p 0 < R
    refine wmax_lt js _ p (o.imp (fun z q => z (by simp [q])) id) ?_
    rw [getD_set]
    split
    · rename_i q
      rcases o with o | o
      · exact absurd (by simp [q.1]) o
      · exact imax_lt (by rw [← q.1]; exact h) o
    · exact h
theorem c_k1 : (List.range 16).all (fun M => (List.range 4).all fun p => (List.range 4).all fun q => !(has M p) || p == q || has (if has M q then M - 1 <<< q else M) p) = true := by decide +kernel
theorem c_k2 : (List.range 16).all (fun M => (List.range 4).all fun p => (List.range 4).all fun q => (List.range 4).all fun x => !(has M p) || has (if has M q then M ||| 1 <<< x else M) p) = true := by decide +kernel
theorem c_k3 : (List.range 16).all (fun M => (List.range 4).all fun x => has (M ||| 1 <<< x) x) = true := by decide +kernel
theorem at0_cons {ds : List Dd} {k c : Nat} (h : k < ds.length) : at0 (ds.drop k) c = (gd ds k).ah (at0 (ds.drop (k + 1)) c) := by
  rw [drop_gd h]
  rfl
section
variable {N : Nat} {ds : List Dd} {c : Nat} {r : Int} {f : Nat → Nat}
theorem low (ok : Ok ds) (ft : Fit N ds) (n4 : N ≤ 4) (hc : c < 16) (hr : 1 ≤ r) (hm : ∀ k ∈ wn ds, r ≤ (gd ds k).rk → ∀ p ∈ bits (f k), has (at0 (ds.drop (k + 1)) c) p = false) : ∀ k, k ≤ ds.length → ∀ p, p < 4 → has (at0 (ds.drop k) c) p = true → (cl N ds f k).getD p 0 < r
  | 0, _, p, _, _ => by
    show (List.replicate N (0 : Int)).getD p 0 < r
    rw [List.getD_eq_getElem?_getD, List.getElem?_replicate]
    split <;> (simp; omega)
  | k + 1, hk, p, hp, h => by
    have ih := low ok ft n4 hc hr hm k (by omega)
    have hk' : k < ds.length := by omega
    have o := gd_ok ok hk'
    have fd := ft (gd ds k) (List.mem_of_getElem? (gd_get hk'))
    rw [at0_cons hk'] at ih
    have M16 : at0 (ds.drop (k + 1)) c < 16 := at0_lt hc (ok_drop ok _)
    have hmk := hm k
    show (dn (cl N ds f k) (gd ds k) _).getD p 0 < r
    have hw : (gd ds k).isW = true → k ∈ wn ds := fun w => List.mem_filter.mpr ⟨List.mem_range.mpr hk', w⟩
    generalize hM : at0 (ds.drop (k + 1)) c = M at h ih M16 hmk
    generalize gd ds k = d at o fd ih hmk hw ⊢
    generalize cl N ds f k = cs at ih ⊢
    rcases d with ⟨w, t, rk, hh, ks⟩ | t | ⟨t, q⟩ | ⟨_ | _, t, x, q⟩
    · refine wmax_lt _ _ p ?_ (ih p hp h)
      by_cases z : r ≤ rk
      · refine .inl fun hb => ?_
        have := hmk (hw rfl) z p hb
        rw [h] at this
        cases this
      · exact .inr (by omega)
    · exact ih p hp h
    · show (cs.set q 0).getD p 0 < r
      rw [getD_set]
      split
      · omega
      · rename_i z
        by_cases e : p = q
        · have ih' := ih p hp
          have q4 : q < 4 := o
          by_cases l : q < cs.length
          · exact absurd ⟨e, l⟩ z
          · rw [List.getD_eq_getElem?_getD, List.getElem?_eq_none (by omega)]
            simp
            omega
        · have q4 : q < 4 := o
          have := all1 (all1 (all1 c_k1 M16) hp) q4
          rw [h, show (p == q) = false by simpa using e] at this
          exact ih p hp (show has (if has M q then M - 1 <<< q else M) p = true by simpa using this)
    · exact ih p hp h
    · obtain ⟨x4, q4⟩ : x < 4 ∧ q < 4 := o
      have keep : ∀ y, y < 4 → has M y = true → cs.getD y 0 < r := fun y hy hY => by
        have := all1 (all1 (all1 (all1 c_k2 M16) hy) q4) x4
        rw [hY] at this
        exact ih y hy (show has (if has M q then M ||| 1 <<< x else M) y = true by simpa using this)
      show (cs.set q (imax (cs.getD q 0) (cs.getD x 0))).getD p 0 < r
      rw [getD_set]
      split
      · rename_i z
        have hq : has M q = true := by rw [← z.1]; exact h
        refine imax_lt (keep q q4 hq) (ih x x4 ?_)
        show has (if has M q then M ||| 1 <<< x else M) x = true
        rw [if_pos hq]
        exact all1 (all1 c_k3 M16) x4
      · exact keep p hp h
end
/-! ### what is read -/
end Sh

set_option maxHeartbeats 0
namespace Sh
open PySem PySem.Spec L2 Gx
open PyProof.Rows hiding St
def cTgt_2 : PyData → Ev → Option Ev := hTup 2 (hCons (hName 3) (hCons (hName 4) hNil))
def cBody_2 : Dn Fl := sSeq (sSet 5 (dBin modD (frz (dCall intD (dCons (dName 3) dNil))) (dName 1)))
  (sSetIx 2 (dName 5) (frz (dBin addD (dPeek 2 (dName 5)) (frz (dBin mulD (dName 4) (frz (dBin addD (dName 3) (dC (.int 2)))))))))
def cEnv_2 (ns : List Int) (p q : Int) (e3 e4 e5 : En) : Ev := [.sc (.l ns), .fz (.int 2), .ol [.int p, .int q], e3, e4, e5]
theorem cbody_ev_2 (ns : List Int) (p q : Int) (i : Nat) (z : Int) (e5 : En) (hi : i < 1000) (he : isBl (some e5) = false) : ∃ p' q' d, cBody_2 (cEnv_2 ns p q (.fz (.int i)) (.fz (.int z)) e5) = .ok (.nx, cEnv_2 ns p' q' (.fz (.int i)) (.fz (.int z)) (.fz d)) := by
  have hw : w64 ((i : Int) + 2) = true := w64_of (by omega) (by omega)
  rcases (show (i : Int) % 2 = 0 ∨ (i : Int) % 2 = 1 by omega) with h | h
  · refine ⟨p + z * (i + 2), q, .int 0, ?_⟩
    refine ev_seq (ρ1 := cEnv_2 ns p q (.fz (.int i)) (.fz (.int z)) (.fz (.int 0))) (Eq.trans (ev_set (r := .fz (.int 0)) (ρ1 := cEnv_2 ns p q (.fz (.int i)) (.fz (.int z)) e5) (ev_bin (ev_frz (ev_call (ev_cons rfl ev_nil) rfl)) rfl (by show modD (.int i) (.int 2) = _; rw [modD_ev (by decide), h])) he) rfl) ?_
    exact Eq.trans (ev_setIx (ev_frz (ev_bin (ev_peek rfl rfl rfl) (ev_frz (ev_bin rfl (ev_frz (ev_bin rfl rfl rfl)) (mulD_r hw))) rfl)) rfl rfl rfl) rfl
  · refine ⟨p, q + z * (i + 2), .int 1, ?_⟩
    refine ev_seq (ρ1 := cEnv_2 ns p q (.fz (.int i)) (.fz (.int z)) (.fz (.int 1))) (Eq.trans (ev_set (r := .fz (.int 1)) (ρ1 := cEnv_2 ns p q (.fz (.int i)) (.fz (.int z)) e5) (ev_bin (ev_frz (ev_call (ev_cons rfl ev_nil) rfl)) rfl (by show modD (.int i) (.int 2) = _; rw [modD_ev (by decide), h])) he) rfl) ?_
    exact Eq.trans (ev_setIx (ev_frz (ev_bin (ev_peek rfl rfl rfl) (ev_frz (ev_bin rfl (ev_frz (ev_bin rfl rfl rfl)) (mulD_r hw))) rfl)) rfl rfl rfl) rfl
def okE_2 (e3 e4 e5 : En) : Prop := (e3 = .no ∧ e4 = .no ∧ e5 = .no) ∨ ∃ a b c, e3 = .fz a ∧ e4 = .fz b ∧ e5 = .fz c
theorem cloop_ev_2 (ns : List Int) : ∀ (l : List Int) (i : Nat) (p q : Int) (e3 e4 e5 : En), okE_2 e3 e4 e5 → i + l.length < 1000 → ∃ p' q' f3 f4 f5, loopF cTgt_2 cBody_2 (enumD i (l.map .int)) (cEnv_2 ns p q e3 e4 e5) = .ok (.nx, cEnv_2 ns p' q' f3 f4 f5)
  | [], i, p, q, e3, e4, e5, _, _ => ⟨p, q, e3, e4, e5, rfl⟩
  | z :: l, i, p, q, e3, e4, e5, he, hl => by
    simp only [List.length_cons] at hl
    have ht : cTgt_2 (.tuple [.int (i : Nat), .int z]) (cEnv_2 ns p q e3 e4 e5) = some (cEnv_2 ns p q (.fz (.int i)) (.fz (.int z)) e5) ∧ isBl (some e5) = false := by
      rcases he with ⟨rfl, rfl, rfl⟩ | ⟨a, b, c, rfl, rfl, rfl⟩
      · exact ⟨rfl, rfl⟩
      · exact ⟨rfl, rfl⟩
    obtain ⟨p1, q1, d, e⟩ := cbody_ev_2 ns p q i z e5 (by omega) ht.2
    obtain ⟨p', q', f3, f4, f5, ih⟩ := cloop_ev_2 ns l (i + 1) p1 q1 (.fz (.int i)) (.fz (.int z)) (.fz d) (.inr ⟨_, _, _, rfl, rfl, rfl⟩) (by omega)
    refine ⟨p', q', f3, f4, f5, ?_⟩
    show (match cTgt_2 (.tuple [.int (i : Nat), .int z]) (cEnv_2 ns p q e3 e4 e5) with
      | none => .st
      | some ρ1 => match cBody_2 ρ1 with
        | .st => .st
        | .ex e => .ex e
        | .ok (.nx, ρ2) => loopF cTgt_2 cBody_2 (enumD (i + 1) (l.map .int)) ρ2
        | .ok (.ct, ρ2) => loopF cTgt_2 cBody_2 (enumD (i + 1) (l.map .int)) ρ2
        | .ok (.bk, ρ2) => .ok (.nx, ρ2)
        | .ok (.rt r, ρ2) => .ok (.rt r, ρ2) : Rs (Fl × Ev)) = _
    rw [ht.1]
    simp only [e]
    exact ih
theorem cut2_2 (xs : List PyData) : Gx.cutD xs none (some 2) = xs.take 2 := by
  unfold Gx.cutD
  rw [HT.sIx_none, show HT.sIx xs.length xs.length (some 2) = min 2 xs.length from HT.sIx_nat _ _ 2, List.drop_zero, Nat.sub_zero]
  by_cases h : 2 ≤ xs.length
  · rw [Nat.min_eq_left h]
  · rw [Nat.min_eq_right (by omega), List.take_length, List.take_of_length_le (by omega)]
theorem cut63_2 (x y : PyData) (xs : List PyData) (h : xs.length + 2 ≤ 63) : Gx.cutD (x :: y :: xs) (some 2) (some 63) = xs := by
  unfold Gx.cutD
  rw [show HT.sIx (x :: y :: xs).length 0 (some 2) = min 2 (x :: y :: xs).length from HT.sIx_nat _ _ 2, show HT.sIx (x :: y :: xs).length (x :: y :: xs).length (some 63) = min 63 (x :: y :: xs).length from HT.sIx_nat _ _ 63]
  simp only [List.length_cons]
  rw [show min 2 (xs.length + 1 + 1) = 2 by omega, show min 63 (xs.length + 1 + 1) = xs.length + 1 + 1 by omega]
  show List.take (xs.length + 1 + 1 - 2) xs = xs
  exact List.take_of_length_le (by omega)
theorem cells_ev_2 (ns : List Int) (hl : ns.length ≤ 63) : ∃ cs : List Int, (cs.length = 1 ∨ cs.length = 2) ∧ den_law_cells [.sc (.l ns), .fz (.int 2)] = .ok (.ol (cs.map .int), [.sc (.l ns), .fz (.int 2)]) := by
  match ns, hl with
  | [], _ => exact ⟨[0], .inl rfl, by kernel_rfl⟩
  | [x], _ => exact ⟨[x], .inl rfl, by kernel_rfl⟩
  | x :: y :: rest, hl =>
    simp only [List.length_cons] at hl
    obtain ⟨p', q', f3, f4, f5, hlp⟩ := cloop_ev_2 (x :: y :: rest) rest 0 x y .no .no .no (.inl ⟨rfl, rfl, rfl⟩) (by omega)
    refine ⟨[p', q'], .inr rfl, ?_⟩
    refine Eq.trans (ev_run (n := 2) (N := 6) (as := [.sc (.l (x :: y :: rest)), .fz (.int 2)]) (r := .ol [.int p', .int q']) (ρ1 := [.sc (.l (x :: y :: rest)), .fz (.int 2), .no, f3, f4, f5]) ?_) rfl
    show b_law_cells [.sc (.l (x :: y :: rest)), .fz (.int 2), .no, .no, .no, .no] = _
    have s1 : (dSlP 0 dOff (dOn (dName 1))) [.sc (.l (x :: y :: rest)), .fz (.int 2), .no, .no, .no, .no] = .ok (.ol [.int x, .int y], [.sc (.l (x :: y :: rest)), .fz (.int 2), .no, .no, .no, .no]) := by
      have e : Gx.cutD ((x :: y :: rest).map .int) none (some 2) = [.int x, .int y] := by rw [cut2_2]; rfl
      rw [← e]
      rfl
    have s2 : (dSlP 0 (dOn (dName 1)) (dOn (dC (.int 63)))) (cEnv_2 (x :: y :: rest) x y .no .no .no) = .ok (.ol (rest.map .int), cEnv_2 (x :: y :: rest) x y .no .no .no) := by
      have e : Gx.cutD ((x :: y :: rest).map .int) (some 2) (some 63) = rest.map .int := cut63_2 _ _ _ (by simpa using hl)
      rw [← e]
      rfl
    refine ev_seq (ρ1 := cEnv_2 (x :: y :: rest) x y .no .no .no) (Eq.trans (ev_set (r := .ol [.int x, .int y]) (ρ1 := [.sc (.l (x :: y :: rest)), .fz (.int 2), .no, .no, .no, .no]) (ev_bnd (ev_call (ev_cons (ev_frz s1) ev_nil) rfl) (ev_bnd (ev_lft rfl) rfl)) rfl) rfl) ?_
    refine ev_seq (ρ1 := cEnv_2 (x :: y :: rest) p' q' f3 f4 f5) (ev_bnd (a := enumD 0 (rest.map .int)) (ρ1 := cEnv_2 (x :: y :: rest) x y .no .no .no) (ev_bnd (ev_cons (ev_frz s2) ev_nil) (ev_lft rfl)) hlp) ?_
    rfl
end Sh

set_option maxHeartbeats 0
/-! C7: the box of a law; what a law of two boxes comes to. -/
namespace Sh
open PySem PySem.Spec L2 Gx M10
open PyProof.Rows hiding St
def bxB (cc : Int) : Dn Fl := (sSeq (sSet 2 (ofD (dIf (dCmpT ltD (dName 1) (dLenP 0)) (dPeek 0 (dName 1)) (dC (.int 0)))))
  (sRet (dLst (dCons (frz (dBin mulD (frz (dCall absD (dCons (dName 2) dNil))) (frz (dCall intD (dCons (frz (dBin geD (frz (dCall absD (dCons (dName 2) dNil))) (frz (dBin powD (dC (.int 10)) (dC (.int 18)))))) dNil))))) (dCons (frz (dBin addD (frz (dBin addD (frz (dBin modD (frz (dCall intD (dCons (dName 2) dNil))) (dC (.int 2305843009213693951)))) (frz (dBin mulD (dC (.int 39373)) (dName 1))))) (dC (.int cc)))) (dCons (dC (.int 0)) dNil))))))
def denBox (cc : Int) : Den := runF 2 3 (bxB cc)
theorem boxC_ev (cc : Int) (cs : List PyData) (k : Nat) (z : Int) (hk : cs[k]? = some (.int z)) (hk2 : k < 1000) (hl : cs.length < 1000) : ∃ a s : Int, (denBox cc) [.fz (.list cs), .fz (.int k)] = .ok (.ol (tinD a s 0), [.fz (.list cs), .fz (.int k)]) ∧ 0 ≤ a := by
  have hkl : k < cs.length := (List.getElem?_eq_some_iff.mp hk).1
  let az : Int := if z < 0 then -z else z
  let t : Bool := decide (1000000000000000000 ≤ az)
  let a : Int := az * (if t = true then 1 else 0)
  let s : Int := z % 2305843009213693951 + 39373 * k + cc
  have haz : 0 ≤ az := by
    show 0 ≤ if z < 0 then -z else z
    split <;> omega
  have ha : 0 ≤ a := by
    show 0 ≤ az * (if t = true then 1 else 0)
    split <;> omega
  have hw : w64 (if t = true then 1 else 0) = true := by
    cases t <;> rfl
  have hat : atI cs k = some (.int z) := by
    unfold atI ixN
    rw [if_pos (by omega), if_pos (by omega)]
    show cs[(k : Int).toNat]? = _
    rw [Int.toNat_natCast]
    exact hk
  refine ⟨a, s, ?_, ha⟩
  let ρ1 : Ev := [.fz (.list cs), .fz (.int k), .fz (.int z)]
  refine Eq.trans (ev_run (n := 2) (N := 3) (as := [.fz (.list cs), .fz (.int k)]) (r := .ol (tinD a s 0)) (ρ1 := ρ1) ?_) rfl
  show bxB cc [.fz (.list cs), .fz (.int k), .no] = _
  refine ev_seq (ρ1 := ρ1) (Eq.trans (ev_set (r := .fz (.int z)) (ρ1 := [.fz (.list cs), .fz (.int k), .no]) (ev_ofD (ev_bnd (a := true) (ρ1 := [.fz (.list cs), .fz (.int k), .no]) (ev_cmpT (x := .int k) (y := .int cs.length) rfl rfl ?_) ?_)) rfl) rfl) ?_
  · show fB (decide ((k : Int) < cs.length)) = _
    rw [decide_eq_true (by omega)]
  · show dPeek 0 (dName 1) [.fz (.list cs), .fz (.int k), .no] = .ok (.int z, [.fz (.list cs), .fz (.int k), .no])
    exact ev_peek rfl rfl hat
  have A : (frz (dCall absD (dCons (dName 2) dNil))) ρ1 = .ok (.int az, ρ1) := ev_frz (r := .fz (.int az)) (ev_call (ev_cons rfl ev_nil) rfl)
  have B : (frz (dCall intD (dCons (frz (dBin geD (frz (dCall absD (dCons (dName 2) dNil))) (frz (dBin powD (dC (.int 10)) (dC (.int 18)))))) dNil))) ρ1 = .ok (.int (if t = true then 1 else 0), ρ1) :=
    ev_frz (r := .fz (.int (if t = true then 1 else 0))) (ev_call (xs := [.bool t]) (ev_cons (ev_frz (r := .fz (.bool t)) (ev_bin A (y := .int 1000000000000000000) (ρ2 := ρ1) (by rfl) rfl)) ev_nil) rfl)
  have C : (frz (dBin addD (frz (dBin addD (frz (dBin modD (frz (dCall intD (dCons (dName 2) dNil))) (dC (.int 2305843009213693951)))) (frz (dBin mulD (dC (.int 39373)) (dName 1))))) (dC (.int cc)))) ρ1 = .ok (.int s, ρ1) :=
    ev_frz (r := .fz (.int s)) (ev_bin (ev_frz (ev_bin (ev_frz (ev_bin (ev_frz (ev_call (ev_cons rfl ev_nil) rfl)) rfl (modD_ev (by decide)))) (ev_frz (ev_bin rfl rfl (mulD_l (by rfl)))) rfl)) rfl rfl)
  exact ev_ret (ev_lst (ev_cons (ev_frz (r := .fz (.int a)) (ev_bin A B (mulD_r hw))) (ev_cons C (ev_cons rfl ev_nil))) rfl)

def TinT (t : List PyData) : Prop := ∃ a s : Int, 0 ≤ a ∧ t = tinD a s 0
theorem TinT.ok {t : List PyData} (h : TinT t) : TinOk 0 t := by
  obtain ⟨a, s, ha, e⟩ := h
  exact ⟨a, s, 0, e, ha, by omega, by omega⟩
theorem box_sat (cc : Int) (cs : List Int) (k : Nat) (z : Int) (h : cs[k]? = some z) (hk : k < 2) (hl : cs.length ≤ 2) : ∃ t, TinT t ∧ Gv (denBox cc) [.fz (.list (cs.map .int)), .fz (.int k)] (.ol t) := by
  obtain ⟨a, s, e, ha⟩ := boxC_ev cc (cs.map .int) k z (by rw [List.getElem?_map, h]; rfl) (by omega) (by rw [List.length_map]; omega)
  exact ⟨_, ⟨a, s, ha, rfl⟩, _, e⟩
theorem law2_sat (cc : Int) {dh dr : Den} (h1 : Gv dh [] (.fz (.bool true))) (h4 : ∀ t, TinT t → Gv dr [.bl t] (.fz (.bool true))) (ns : List Int) (hl : ns.length ≤ 63) : runF 1 3 (lawB2 dh den_law_cells dr (denBox cc)) [.sc (.l ns)] = .ok (.fz (.bool true), [.sc (.l ns)]) :=
  law2_ev (T := TinT) h1 cells_ev_2 (box_sat cc) h4 ns hl
end Sh

/-! C8: a thing with the words of deeds is the same as itself; ranks. -/
namespace Sh
open PySem PySem.Spec L2 Gx M10
open PyProof.Rows hiding St
theorem den_same_eq : ∀ n : Nat, den_same n = denSame n
  | 0 => rfl
  | n + 1 => by
    show runF 2 4 (b_same (den_same n)) = runF 2 4 (bSame (denSame n))
    rw [den_same_eq n]
    rfl
abbrev six : List Str := ["put", "strike", "copy", "send", "lose", "wait", "deed", "unfit", "place", "moment", "version"]
def pls : Nat → PyData → Bool
  | _, .none => true
  | _, .bool _ => true
  | _, .int _ => true
  | _, .str x => six.any (· == x)
  | k + 1, .list xs => okLen xs.length && xs.all (pls k)
  | k + 1, .tuple xs => okLen xs.length && xs.all (pls k)
  | _, _ => false
def rkN (ds : List Dd) : List Nat := (ds.filter Dd.isW).map fun d => d.rk.toNat
end Sh

/-! KA80: the port of W1-W7: trees, rows, sums, what is drawn. -/
namespace K80
open PySem PySem.Spec L2 Gx M10 Sh
open PyProof.Rows hiding St
local macro_rules
  | `(tactic| simp_arith [$as,*] $[$l]?) => `(tactic| simp (disch := first | omega | (simp only [List.length_cons, List.length_nil, List.length_append, List.length_map, List.length_range, List.length_take, List.length_replicate]; omega)) only [dn_comp, rbOf_rt, dn_popAt, popR_ok, popK_0, q_beq1, q_beq2, q_beq3, q_beq4, q_beq5, q_beq6, q_beq7, q_beq8, dn_R1, dn_chain, chR_ok, rvd_fz, rvd_ol, boolOf_b, dn_orE, orER_b, orER_l, dn_sl, dn_on, dn_off, intOf_i, slice_l, slice_t, r_addL, r_addT, r_ixT, r_ixL, opt_map, atI_0, atI_1, atI_2, atI_3, atI_4, atI_5, arP_t, arP_f, List.getD_cons_zero, List.getD_cons_succ, dn_arP, dn_app, dn_arD, dn_bnd, bndR_ok, bndR_ex, dn_lft, dn_ret, dn_dC, dn_seq, seqR_nx, seqR_rt, seqR_bk, seqR_ct, seqR_ex, dn_nx, dn_call, callR_ok, dn_bin, binR_ok, dn_cmpT, boolR_ok, dn_tru, truR_b, truR_i, truR_n, truR_l, truR_t, dn_notT, dn_not, dn_andT, dn_orT, iteR_t, iteR_f, dn_sIf, dn_dIf, dn_and, dn_orD, andR_b, orR_b, dn_sRet, rtR_ok, dn_sDrop, dn_frz, frzR_fz, frzR_ol, dn_ofD, ofR_ok, ofR_ex, frzR_ex, rtR_ex, dn_sSet, dn_put, ifB_t, ifB_f, rven_fz, rven_ol, isBl_no, isBl_fz, isBl_ol, isBl_ow, dn_name, nameR_fz, nameR_ol, dn_move, moveR_fz, moveR_ol, dn_lenP, lenR_some, dn_peek, peekR_ok, itemR_some, seqE_ol, seqE_bl, seqE_t, seqE_l, seqE_sl, seqE_st, dn_item, itmR_at, dn_nil, dn_cons, consR_ok, consK_ok, dn_tup, dn_lst, dn_un, dn_anil, dn_acons, aconsR_fz, aconsR_ol, aconsK_ok, dn_alend, lendR_ol, lendR_bl, lendR_sc, lent_nil, lent_fz, lent_tp, lent_sc, lent_sl, lentS_n, lentB_n, lentB_s, dn_fn, dn_apply, applyR_some, ar_fz, ar_tp, ar_sc, ar_sl, dn_enSl_ol, dn_enSl_bl, retR_ok, retR_sl, putR_ol, putR_bl, dn_sFor, dn_iSeq, seqOf_l, seqOf_t, dn_iRg1, dn_iRg2, dn_iZp, dn_iZ3, dn_iEnB, dn_sAsg, dn_sApp, ownOf_ol, ownOf_bl, appR_ok, updR_ol, updR_bl, updK_ol, updK_bl, appD_ok, dn_sSetIx, dn_setx, setIxD_eq, dn_sParA, dn_parA, parR_ok, dn_sParX, dn_parX, parXR_ok, rvA_fz, rvA_tp, dn_sPar, nmR_some, nmAll_nil, nmAll_cons, dn_hName, dn_hTup, dn_hNil, dn_hCons, arP_t, arP_f, List.getD_cons_zero, List.getD_cons_succ, dn_arP, dn_app, dn_arD, rtOf_rt, rtOf_nx, cond_true, cond_false, List.getElem?_cons_zero, List.getElem?_cons_succ, List.set_cons_zero, List.set_cons_succ, List.map_cons, List.map_nil, Option.isSome_some, Option.bind_some, Nat.beq_eq_true_eq, List.cons_append, List.nil_append, List.append_nil, List.length_cons, List.length_nil, Nat.reduceSub, Nat.reduceAdd, List.replicate_succ, List.replicate_zero, if_true, Nat.reduceLeDiff, okLen_dn, Bool.not_true, Bool.not_false, Bool.false_eq_true, if_false, dn_newD, rven_od, rvd_od, isBl_od, frzR_od, nameR_od, moveR_od, aconsR_od, rvA_td, ar_td, lent_td, lendR_od, lendR_bd, enSl_od, enSl_bd, putR_od, putR_bd, dicE_od, dicE_bd, dicE_fz, ownD_od, ownD_bd, dn_dk, dkK_some, lkR_some, dn_inD, dn_inT, inK_some, inR_f, inR_t, dn_get1, dn_get2, getK_some, getR_s, getR_n, dn_lenD, lenDR_some, dn_updD, updDR_od, updDR_bd, updDK_od, updDK_bd, dn_putdR, dn_putD, dn_delD, dn_setdD, dn_callK, dn_sUpd, Option.isSome_none, n_addI, n_subI, n_ltI, n_gtI, n_leI, n_geI, n_negI, n_eqI, n_neI, n_lenL, n_lenT, n_tupL, n_tupT, n_lstL, n_lstT, n_isN_n, isi_non, isi2_non, isa_non_non, isa_non_bl, isa_non_int, isa_non_str, isa_non_lst, isa_non_tup, isn_non, isnn_non, isi_bl, isi2_bl, isa_bl_non, isa_bl_bl, isa_bl_int, isa_bl_str, isa_bl_lst, isa_bl_tup, isn_bl, isnn_bl, isi_int, isi2_int, isa_int_non, isa_int_bl, isa_int_int, isa_int_str, isa_int_lst, isa_int_tup, isn_int, isnn_int, isi_str, isi2_str, isa_str_non, isa_str_bl, isa_str_int, isa_str_str, isa_str_lst, isa_str_tup, isn_str, isnn_str, isi_lst, isi2_lst, isa_lst_non, isa_lst_bl, isa_lst_int, isa_lst_str, isa_lst_lst, isa_lst_tup, isn_lst, isnn_lst, isi_tup, isi2_tup, isa_tup_non, isa_tup_bl, isa_tup_int, isa_tup_str, isa_tup_lst, isa_tup_tup, isn_tup, isnn_tup, Bool.or_true, Bool.or_false, Bool.true_or, Bool.false_or, Bool.or_self, bq_tt, bq_tf, bq_ft, bq_ff, bn_tt, bn_tf, bn_ft, bn_ff, $as,*] $[$l]?)
section
variable {ρ : Ev}
theorem n_mod {i j : Int} (h : 0 < j) : modD (.int i) (.int j) = some (.fz (.int (i % j))) := if_pos h
end
theorem rng_get {n k x : Nat} (h : (List.range n)[k]? = some x) : k < n ∧ x = k := by
  rw [List.getElem?_eq_some_iff] at h
  obtain ⟨h1, h2⟩ := h
  simp at h1 h2
  exact ⟨h1, h2.symm⟩
theorem rgD_map (n : Nat) : rgD 0 n = (List.range n).map intM := by
  unfold rgD
  simp [intM]
def tre (w d : Nat) (z b : Int) : PyData := .tuple [intM w, intM d, .int z, .int b]
theorem w64_n {n : Nat} (h : n < 1000000) : w64 (n : Int) = true := w64_of (by omega) (by omega)
theorem pts_ev {w d : Nat} {z b : Int} (hw : w < 100) (hd : d < 1000) : Gv den_points_of [.fz (tre w d z b)] (.fz (intM (w ^ d))) := by
  have rg : rg1 [intM d] = some ((List.range d).map intM) := (rg1_n (by omega)).trans (congrArg some (rgD_map d))
  refine gv_rt ?_
  unfold b_points_of
  have sq : seqE (some (.fz (tre w d z b))) = some [intM w, intM d, .int z, .int b] := rfl
  simp_arith [sq, rg]
  obtain ⟨o', no', q⟩ := loop_w (u := intM) (tg := hName 2) (fb := lb_points_of) (List.range d) (fun n o => [.fz (tre w d z b), .fz (intM (w ^ n)), o 0]) (fun n x o hx no => by
    refine ⟨_, f1 (.fz (intM x)), nb1 rfl, tg_name (no 0), ?_⟩
    unfold lb_points_of
    have m : mulD (intM (w ^ n)) (intM w) = some (.fz (intM (w ^ (n + 1)))) := by
      rw [show mulD (intM (w ^ n)) (intM w) = _ from mulD_r (w64_n (by omega)), Nat.pow_succ]
      show some (Rv.fz (.int (((w ^ n : Nat) : Int) * (w : Int)))) = some (Rv.fz (.int ((w ^ n * w : Nat) : Int)))
      rw [Int.natCast_mul]
    simp_arith [sq, m]
    rfl) f0 nb0
  simp only [f0] at q
  have one : (PyData.int 1) = intM (w ^ 0) := rfl
  rw [one]
  simp_arith [q]
  rw [List.length_range]
theorem mm {a b c d z : Int} (h1 : a % z = b % z) (h2 : c % z = d % z) : (a * c) % z = (b * d) % z := by
  rw [Int.mul_emod, h1, h2, ← Int.mul_emod]
theorem am {a b c d z : Int} (h1 : a % z = b % z) (h2 : c % z = d % z) : (a + c) % z = (b + d) % z := by
  rw [Int.add_emod, h1, h2, ← Int.add_emod]
theorem w64_z {r : Int} (h0 : 0 ≤ r) (h1 : r < 1000000000000) : w64 r = true := w64_of (by omega) (by omega)
def pr (x : Nat × Nat) : PyData := .tuple [intM x.1, intM x.2]
def row (P : List (Nat × Nat)) : PyData := .tuple (P.map pr)
def vl (x : Nat × Nat) : Int := (x.2 : Int) * 64 + x.1
def hor (b : Int) (n : Int) (P : List (Nat × Nat)) : Int := P.foldl (fun n x => n * b + vl x) n
def sel (a c : Nat) (P : List (Nat × Nat)) : List (Nat × Nat) := P.filter fun x => decide (a ≤ x.1) && decide (x.1 < c)
def sp (a c : Nat) : PyData := .tuple [intM a, intM c]
theorem leM (a b : Nat) : leD (intM a) (intM b) = some (.fz (.bool (decide (a ≤ b)))) := by
  show some (Rv.fz (.bool (decide ((a : Int) ≤ (b : Int))))) = _
  rw [show decide ((a : Int) ≤ (b : Int)) = decide (a ≤ b) from decide_eq_decide.mpr (by omega)]
theorem ltM (a b : Nat) : ltD (intM a) (intM b) = some (.fz (.bool (decide (a < b)))) := by
  show some (Rv.fz (.bool (decide ((a : Int) < (b : Int))))) = _
  rw [show decide ((a : Int) < (b : Int)) = decide (a < b) from decide_eq_decide.mpr (by omega)]
theorem addM (a b : Nat) : addD (intM a) (intM b) = some (.fz (intM (a + b))) := by
  show some (Rv.fz (.int ((a : Int) + (b : Int)))) = _
  rfl
theorem adM (n : Nat) : addD (intM n) (.int 1) = some (.fz (intM (n + 1))) := (rfl)
theorem pairs_ev {P : List (Nat × Nat)} (hl : P.length ≤ 1000) (a c : Nat) : Gv den_pairs_in [.fz (row P), .fz (sp a c)] (.ol ((sel a c P).map pr)) := by
  have sf : seqOf (row P) = some (P.map pr) := rfl
  refine gv_rt ?_
  unfold b_pairs_in sp
  simp_arith [sf]
  rw [comp_t (u := pr) (E1 := fun x => [.fz (row P), .fz (sp a c), .fz (intM a), .fz (intM c), .fz (intM x.1), .fz (intM x.2)]) (p := fun x : Nat × Nat => decide (a ≤ x.1) && decide (x.1 < c)) (g := pr) rfl (fun _ => rfl) (fun _ => rfl) rfl (fun x hx => by
    unfold ct_pairs_in
    cases h : decide (a ≤ x.1) <;> simp_arith [leM, ltM, h] <;> rfl) (fun x hx _ => by
    unfold ce_pairs_in
    simp_arith []
    rfl) (by omega)]
  simp_arith []
  rfl
theorem hor_mod {b z : Int} : ∀ (P : List (Nat × Nat)) {m m' : Int}, m % z = m' % z → hor b m P % z = hor b m' P % z
  | [], _, _, h => h
  | x :: P, m, m', h => hor_mod P (am (mm h rfl) rfl)
def stpS (b z : Int) (s : Nat × Int) (x : Nat × Nat) : Nat × Int := (s.1 + 1, (s.2 * b + vl x) % z)
theorem fold_s {b z : Int} : ∀ (P : List (Nat × Nat)) (c : Nat) (m : Int), m % z = m → P.foldl (stpS b z) (c, m) = (c + P.length, hor b m P % z)
  | [], c, m, h => by simp [hor, h]
  | x :: P, c, m, h => by
    rw [List.foldl_cons]
    show P.foldl (stpS b z) (c + 1, (m * b + vl x) % z) = _
    rw [fold_s P (c + 1) _ (Int.emod_emod _ _)]
    rw [hor_mod P (Int.emod_emod _ _), List.length_cons]
    rw [show c + 1 + P.length = c + (P.length + 1) by omega]
    rfl
def sm (z b : Int) (P : List (Nat × Nat)) : PyData := .tuple [intM P.length, .int (hor b 0 P % z)]
theorem sumin_ev {P : List (Nat × Nat)} {w d a c : Nat} {z b : Int} (hl : P.length ≤ 1000) (z0 : 0 < z) (b0 : 0 ≤ b) (b1 : b < 1000000000000) : Gv den_sum_in [.fz (tre w d z b), .fz (row P), .fz (sp a c)] (.fz (sm z b (sel a c P))) := by
  refine gv_rt ?_
  unfold b_sum_in tre
  simp_arith [retR_gv (pairs_ev hl a c)]
  obtain ⟨o', no', q, _⟩ := loop_g (u := pr) (tg := hTup 2 (hCons (hName 8) (hCons (hName 9) hNil))) (fb := lb_sum_in) (E := fun (s : Nat × Int) o => [.fz (tre w d z b), .fz (row P), .fz (sp a c), .fz (intM d), .fz (.int z), .fz (.int b), .fz (intM s.1), .fz (.int s.2), o 0, o 1]) (stpS b z) (fun _ => True) (sel a c P) (0, 0) f0 trivial nb0 (fun s o x _ no hx => by
    refine ⟨[.fz (tre w d z b), .fz (row P), .fz (sp a c), .fz (intM d), .fz (.int z), .fz (.int b), .fz (intM s.1), .fz (.int s.2), .fz (intM x.1), .fz (intM x.2)], f2 (.fz (intM x.1)) (.fz (intM x.2)), nb2 rfl rfl, ?_, ?_, trivial⟩
    · unfold pr
      simp_arith [no 0, no 1]
    · unfold lb_sum_in
      have m1 : mulD (.int s.2) (.int b) = some (.fz (.int (s.2 * b))) := mulD_r (w64_z b0 b1)
      have m2 : mulD (intM x.2) (.int 64) = some (.fz (.int ((x.2 : Int) * 64))) := mulD_r (by decide)
      have a2 : addD (.int (s.2 * b + (x.2 : Int) * 64)) (intM x.1) = some (.fz (.int (s.2 * b + (x.2 : Int) * 64 + (x.1 : Int)))) := rfl
      simp_arith [adM, m1, m2, a2, n_mod z0]
      rw [Int.add_assoc]
      rfl)
  simp only [f0] at q
  have q' := q
  have i0 : (PyData.int 0) = intM 0 := rfl
  rw [fold_s _ _ _ (Int.zero_emod z)] at q'
  have q2 : loopF (hTup 2 (hCons (hName 8) (hCons (hName 9) hNil))) lb_sum_in ((sel a c P).map pr) [.fz (.tuple [intM w, intM d, .int z, .int b]), .fz (row P), .fz (sp a c), .fz (intM d), .fz (.int z), .fz (.int b), .fz (.int 0), .fz (.int 0), .no, .no] = _ := q'
  simp_arith [q2]
  rw [Nat.zero_add]
  rfl
theorem lpow_ev {f : Int} {k : Nat} (f0' : 0 ≤ f) (f1' : f < 1000000000000) (hk : k < 1000) : Gv den_law_power [.fz (.int f), .fz (intM k)] (.fz (.int (f ^ k))) := by
  have rg : rg1 [intM k] = some ((List.range k).map intM) := (rg1_n (by omega)).trans (congrArg some (rgD_map k))
  refine gv_rt ?_
  unfold b_law_power
  simp_arith [rg]
  obtain ⟨o', no', q⟩ := loop_w (u := intM) (tg := hName 3) (fb := lb_law_power) (List.range k) (fun n o => [.fz (.int f), .fz (intM k), .fz (.int (f ^ n)), o 0]) (fun n x o hx no => by
    refine ⟨_, f1 (.fz (intM x)), nb1 rfl, tg_name (no 0), ?_⟩
    unfold lb_law_power
    have m : mulD (.int (f ^ n)) (.int f) = some (.fz (.int (f ^ (n + 1)))) := by
      rw [mulD_r (w64_z f0' f1'), Int.pow_succ]
    simp_arith [m]
    rfl) f0 nb0
  simp only [f0] at q
  have one : (PyData.int 1) = .int (f ^ 0) := by rw [Int.pow_zero]
  rw [one]
  simp_arith [q]
  rw [List.length_range]
theorem width_ev {w d : Nat} {z b : Int} (hw : w < 100) (hd : d < 1000) : Gv den_width [.fz (tre w d z b)] (.fz (intM (w ^ d))) := by
  refine gv_rt ?_
  unfold b_width tre
  have e := lpow_ev (f := (w : Int)) (k := d) (by omega) (by omega) hd
  have e' : Gv den_law_power [.fz (intM w), .fz (intM d)] (.fz (.int ((w : Int) ^ d))) := e
  simp_arith [retR_gv e']
  rw [← Int.natCast_pow]
  rfl
theorem hor_1 {b : Int} (P : List (Nat × Nat)) (x : Nat × Nat) : hor b 0 (P ++ [x]) = hor b 0 P * b + vl x := by
  unfold hor
  rw [List.foldl_append]
  rfl
def acc (b : Int) (P : List (Nat × Nat)) (n : Nat) : Int := hor b 0 (P.take n) * b ^ (P.length - n)
theorem acc_s {b : Int} {P : List (Nat × Nat)} {n : Nat} {x : Nat × Nat} (h : P[n]? = some x) : acc b P (n + 1) = acc b P n + vl x * b ^ (P.length - 1 - n) := by
  have hn : n < P.length := (List.getElem?_eq_some_iff.mp h).1
  unfold acc
  rw [List.take_succ, h]
  show hor b 0 (P.take n ++ [x]) * _ = _
  rw [hor_1, Int.add_mul, Int.mul_assoc, Int.mul_comm b, ← Int.pow_succ]
  rw [show (P.length - (n + 1)).succ = P.length - n by omega, show P.length - (n + 1) = P.length - 1 - n by omega]
theorem total_ev {P : List (Nat × Nat)} {w d a c : Nat} {z b : Int} (hl : P.length ≤ 500) (hp : ∀ x ∈ P, x.1 < 5000 ∧ x.2 < 5000) (z0 : 0 < z) (b0 : 0 ≤ b) (b1 : b < 1000000000000) : Gv den_total [.fz (tre w d z b), .fz (row P), .fz (intM a), .fz (intM c)] (.fz (sm z b (sel a c P))) := by
  have sf : seqOf (row P) = some (P.map pr) := rfl
  refine gv_rt ?_
  unfold b_total
  simp_arith [sf]
  rw [comp_p (u := pr) (p := fun x : Nat × Nat => decide (a ≤ x.1) && decide (x.1 < c)) (g := pr) rfl (fun x hx => by
    unfold ct_total pr
    cases h : decide (a ≤ x.1) <;> simp_arith [leM, ltM, h] <;> rfl) (fun x hx _ => by
    unfold ce_total
    simp_arith []) (by omega)]
  have se : P.filter (fun x : Nat × Nat => decide (a ≤ x.1) && decide (x.1 < c)) = sel a c P := rfl
  rw [se]
  have sl : (sel a c P).length ≤ P.length := List.length_filter_le _ _
  have sm' : ∀ x ∈ sel a c P, x.1 < 5000 ∧ x.2 < 5000 := fun x hx => hp x (List.mem_filter.mp hx).1
  generalize sel a c P = S at sl sm'
  have en : enumOfB [.list (S.map pr)] = some ((List.range S.length).map fun k => .tuple [intM k, pr (S.getD k (0, 0))]) := by
    show some (enumD 0 (S.map pr)) = _
    rw [enum_rng pr (0, 0) S 0]
    simp only [Nat.zero_add]
    rfl
  simp_arith [en]
  obtain ⟨o', no', q⟩ := loop_w (u := fun k => PyData.tuple [intM k, pr (S.getD k (0, 0))]) (tg := hTup 2 (hCons (hName 6) (hCons (hName 7) hNil))) (fb := lb_total) (List.range S.length) (fun n o => [.fz (tre w d z b), .fz (row P), .fz (intM a), .fz (intM c), .fz (.list (S.map pr)), .fz (.int (acc b S n)), o 0, o 1]) (fun n x o hx no => by
    obtain ⟨hn, rfl⟩ := rng_get hx
    have hg : S[x]? = some (S.getD x (0, 0)) := by
      rw [List.getD_eq_getElem?_getD, List.getElem?_eq_getElem hn]
      rfl
    have hv := sm' _ (List.mem_of_getElem? hg)
    have hs := acc_s (b := b) hg
    generalize S.getD x (0, 0) = y at hg hv hs ⊢
    refine ⟨[.fz (tre w d z b), .fz (row P), .fz (intM a), .fz (intM c), .fz (.list (S.map pr)), .fz (.int (acc b S x)), .fz (intM x), .fz (pr y)], f2 (.fz (intM x)) (.fz (pr y)), nb2 rfl rfl, ?_, ?_⟩
    · simp_arith [no 0, no 1]
    · unfold lb_total
      have m2 : mulD (intM y.2) (.int 64) = some (.fz (.int ((y.2 : Int) * 64))) := mulD_r (by decide)
      have a2 : addD (.int ((y.2 : Int) * 64)) (intM y.1) = some (.fz (.int (vl y))) := rfl
      have sq : seqE (some (.fz (pr y))) = some [intM y.1, intM y.2] := rfl
      have sq2 : seqE (some (.fz (tre w d z b))) = some [intM w, intM d, .int z, .int b] := rfl
      have s2 : subD (.int (((S.map pr).length : Int) - 1)) (intM x) = some (.fz (intM (S.length - 1 - x))) := by
        show some (Rv.fz (.int ((((S.map pr).length : Int) - 1) - (x : Int)))) = _
        rw [List.length_map, show (((S.length : Int) - 1) - (x : Int)) = ((S.length - 1 - x : Nat) : Int) by omega]
        rfl
      have pw : Gv den_law_power [.fz (.int b), .fz (intM (S.length - 1 - x))] (.fz (.int (b ^ (S.length - 1 - x)))) := lpow_ev b0 b1 (by omega)
      have m3 : mulD (.int (vl y)) (.int (b ^ (S.length - 1 - x))) = some (.fz (.int (vl y * b ^ (S.length - 1 - x)))) := mulD_l (w64_z (by unfold vl; omega) (by unfold vl; omega))
      simp_arith [sq, sq2, m2, a2, s2, retR_gv pw, m3]
      rw [hs]
      rfl) f0 nb0
  have a0 : acc b S 0 = 0 := by
    unfold acc
    rw [List.take_zero]
    exact Int.zero_mul _
  simp only [f0, a0] at q
  simp_arith [q]
  have sq2 : seqE (some (.fz (tre w d z b))) = some [intM w, intM d, .int z, .int b] := rfl
  have aN : acc b S (List.range S.length).length = hor b 0 S := by
    unfold acc
    rw [List.length_range, List.take_length, Nat.sub_self, Int.pow_zero, Int.mul_one]
  have iD : intD [.int (hor b 0 S)] = some (.fz (.int (hor b 0 S))) := rfl
  simp_arith [aN, iD, sq2, n_mod z0]
  rw [List.length_map]
  rfl
theorem same_at {k : Nat} {due got : PyData} (h : Du k due) (hg : Pd 60 got) : Gv (den_same (k + 1)) [.fz got, .fz due] (.fz (.bool (eqB got due))) := by
  rw [den_same_eq]
  exact same_is k due got h hg
def WD : List (Nat × Nat) := [(2, 0), (2, 1), (2, 2), (2, 2), (2, 3), (2, 3), (2, 4), (3, 1), (3, 2), (3, 2), (4, 1), (4, 2), (3, 3), (2, 6), (4, 3)]
def ZS : List Nat := [2, 2, 3, 5, 8, 97, 1009, 1000000000]
theorem wd_ok : WD.all (fun p => decide (2 ≤ p.1) && decide (p.1 ≤ 4) && decide (p.2 ≤ 6) && decide (p.1 ^ p.2 ≤ 64)) = true := by decide
theorem zs_ok : ZS.all (fun z => decide (2 ≤ z) && decide (z ≤ 1000000000)) = true := by decide
theorem grove_ev {n : Nat} {t : List PyData} (h : TinOk n t) (hn : n < 800000) : ∃ (w d zn bn : Nat) (t' : List PyData) (es : List En), (2 ≤ w ∧ w ≤ 4 ∧ d ≤ 6 ∧ w ^ d ≤ 64) ∧ (1 ≤ bn ∧ bn < zn ∧ zn ≤ 1000000000) ∧ TinOk (n + 3) t' ∧ den_grove [.bl t] = .ok (.fz (tre w d zn bn), .bl t' :: es) := by
  obtain ⟨d1, x, t1, es1, hd1, hx, ht1, e1⟩ := of_ev (xs := WD.map fun p => PyData.tuple [intM p.1, intM p.2]) h (by omega) (by simp [WD]) (by simp [WD])
  obtain ⟨p, hp, rfl⟩ := List.mem_map.mp (List.mem_of_getElem? hx)
  have wk := List.all_eq_true.mp wd_ok p hp
  obtain ⟨w, d⟩ := p
  simp only [Bool.and_eq_true, decide_eq_true_eq] at wk
  obtain ⟨⟨⟨w2, w4⟩, d6⟩, h64⟩ := wk
  obtain ⟨d2, y, t2, es2, hd2, hy, ht2, e2⟩ := of_ev (xs := ZS.map intM) ht1 (by omega) (by simp [ZS]) (by simp [ZS])
  obtain ⟨z, hz, rfl⟩ := List.mem_map.mp (List.mem_of_getElem? hy)
  have zk := List.all_eq_true.mp zs_ok z hz
  simp only [Bool.and_eq_true, decide_eq_true_eq] at zk
  obtain ⟨k, t3, hk, ht3, e3⟩ := take_n (b := min (z - 1) 90) ht2 (by omega) (by omega) (by omega)
  refine ⟨w, d, z, 1 + k, t3, ?_⟩
  have e1 : den_of [.bl t, .fz (.list [.tuple [.int 2, .int 0], .tuple [.int 2, .int 1], .tuple [.int 2, .int 2], .tuple [.int 2, .int 2], .tuple [.int 2, .int 3], .tuple [.int 2, .int 3], .tuple [.int 2, .int 4], .tuple [.int 3, .int 1], .tuple [.int 3, .int 2], .tuple [.int 3, .int 2], .tuple [.int 4, .int 1], .tuple [.int 4, .int 2], .tuple [.int 3, .int 3], .tuple [.int 2, .int 6], .tuple [.int 4, .int 3]])] = .ok (.fz (.tuple [intM w, intM d]), .bl t1 :: es1) := e1
  have p9 : powD (.int 10) (.int 9) = some (.fz (.int 1000000000)) := by kernel_rfl
  have e2 : den_of [.bl t1, .fz (.list [.int 2, .int 2, .int 3, .int 5, .int 8, .int 97, .int 1009, .int 1000000000])] = .ok (.fz (intM z), .bl t2 :: es2) := e2
  have mn : minD [.int ((z : Int) - 1), .int 90] = some (.fz (intM (min (z - 1) 90))) := by
    show some (Rv.fz (.int (if (90 : Int) < (z : Int) - 1 then 90 else (z : Int) - 1))) = some (Rv.fz (.int ((min (z - 1) 90 : Nat) : Int)))
    congr 3
    split <;> omega
  have sz : subD (intM z) (.int 1) = some (.fz (.int ((z : Int) - 1))) := rfl
  have a1 : addD (.int 1) (intM k) = some (.fz (intM (1 + k))) := addM 1 k
  obtain ⟨es, e⟩ := gv_rb (n := 1) (N := 4) (f := b_grove) (t := t) (t' := t3) (as := []) (r := .fz (tre w d z ((1 + k : Nat) : Int))) (by
    unfold b_grove
    simp only [List.cons_append, List.nil_append, Nat.reduceSub, List.replicate_succ, List.replicate_zero]
    simp_arith [e1, p9, e2, sz, mn, e3, a1]
    rfl)
  exact ⟨es, ⟨w2, w4, d6, h64⟩, ⟨by omega, by omega, zk.2⟩, ht3, e⟩
theorem rg1X_n {n : Nat} (h : n ≤ 1000) : rg1X false (intM n) = some (.ol ((List.range n).map intM)) := by
  show rgX false 0 (n : Int) = _
  unfold rgX
  rw [show rgOkB 0 (n : Int) = true by unfold rgOkB; rw [small_n (by omega)]; simp [small62]; omega]
  rw [if_pos rfl, show ((n : Int) - 0).toNat = n by omega, rgD_map]
  rfl
theorem sortN {ms : List Nat} (h : ms.length < 64) : ∃ ks : List Nat, ks.Perm ms ∧ ks.Pairwise (· ≤ ·) ∧ sort2D [.list (ms.map intM)] = some (.ol (ks.map intM)) := by
  have nn : ∀ x ∈ srtI (ms.map toI), 0 ≤ x := fun x hx => by
    have := (srtI_perm _).mem_iff.mp hx
    obtain ⟨m, _, rfl⟩ := List.mem_map.mp this
    exact Int.natCast_nonneg m
  have mt : (ms.map toI).map Int.toNat = ms := by
    rw [List.map_map]
    conv => rhs; rw [← List.map_id ms]
    exact List.map_congr_left fun m _ => Int.toNat_natCast m
  have mb : ((srtI (ms.map toI)).map Int.toNat).map intM = (srtI (ms.map toI)).map .int := by
    rw [List.map_map]
    exact List.map_congr_left fun x hx => by
      show PyData.int ((x.toNat : Nat) : Int) = .int x
      rw [Int.toNat_of_nonneg (nn x hx)]
  refine ⟨(srtI (ms.map toI)).map Int.toNat, ?_, ?_, ?_⟩
  · have := (srtI_perm (ms.map toI)).map Int.toNat
    rw [mt] at this
    exact this
  · rw [List.pairwise_map]
    exact (srtI_srt _).imp fun h => Int.toNat_le_toNat h
  · unfold sort2D
    simp only [intsD_M]
    rw [if_pos (by simpa using h), mb]
section
variable {w d : Nat} {z b : Int}
theorem leaves_ev {n : Nat} {t : List PyData} (hw : w < 100) (hd : d < 1000) (h64 : w ^ d ≤ 64) (h : TinOk n t) (hn : n < 800000) : ∃ (P : List (Nat × Nat)) (t' : List PyData) (es : List En), P.length ≤ 9 ∧ (∀ x ∈ P, x.1 < w ^ d ∧ 1 ≤ x.2 ∧ x.2 < 1000) ∧ (P.map (·.1)).Pairwise (· < ·) ∧ TinOk (n + 300) t' ∧
    den_leaves [.bl t, .fz (tre w d z b)] = .ok (.fz (row P), .bl t' :: es) := by
  obtain ⟨k, t1, hk, ht1, e1⟩ := take_n (b := min (w ^ d) 9 + 1) h (by omega) (by omega) (by omega)
  obtain ⟨t2, ys, rest, es2, e2, ht2, ly, py⟩ := pick_ev (xs := (List.range (w ^ d)).map intM) (cnt := k) ht1 (by simp; omega) (by simp; omega) (by omega)
  obtain ⟨ms, r, rfl, pe⟩ := pick_map py
  have ml : ms.length < 64 := by
    rw [List.length_map, List.length_map, List.length_range] at ly
    omega
  obtain ⟨ks, kp, kw, ke⟩ := sortN ml
  have kl : ks.length < 64 := by rw [kp.length_eq]; exact ml
  have km : ∀ x ∈ ks, x < w ^ d := fun x hx => List.mem_range.mp (pe.mem_iff.mp (List.mem_append.mpr (.inl (kp.mem_iff.mp hx))))
  have kn : ks.Nodup := by
    have nd : (ms ++ r).Nodup := pe.nodup_iff.mpr List.nodup_range
    exact kp.nodup_iff.mpr (List.nodup_append.mp nd).1
  have ka : ks.Pairwise (· < ·) := (kw.and kn).imp fun ⟨h1, h2⟩ => Nat.lt_of_le_of_ne h1 h2
  have wd := width_ev (w := w) (d := d) (z := z) (b := b) hw hd
  have mn : minD [intM (w ^ d), .int 9] = some (.fz (intM (min (w ^ d) 9))) := by
    show some (Rv.fz (.int (if (9 : Int) < ((w ^ d : Nat) : Int) then 9 else ((w ^ d : Nat) : Int)))) = some (Rv.fz (.int ((min (w ^ d) 9 : Nat) : Int)))
    congr 3
    split <;> omega
  have ht2 : TinOk (n + 100) t2 := by
    obtain ⟨a1, a2, a3, a4, a5, a6, a7⟩ := ht2
    rw [List.length_map, List.length_range] at a7
    exact ⟨a1, a2, a3, a4, a5, a6, by omega⟩
  obtain ⟨t3, ys, yl, ⟨ht3, P, rfl, Pf, Pv⟩, q⟩ := comp_d (u := intM) (i := 4) (fe := ce_leaves) (en := .no) (fun m (t : List PyData) acc => TinOk (n + 100 + 2 * m) t ∧ ∃ P : List (Nat × Nat), acc = P.map pr ∧ P.map (·.1) = ks.take m ∧ ∀ x ∈ P, 1 ≤ x.2 ∧ x.2 < 1000)
    (fun t => [.bl t, .fz (tre w d z b), .fz (intM (w ^ d)), .fz (.list (ks.map intM)), .no]) (fun _ => rfl) rfl (fun _ _ => rfl) ks (fun m x t acc hx la ⟨ht, P, ea, Pf, Pv⟩ => by
      have hm : m < ks.length := (List.getElem?_eq_some_iff.mp hx).1
      obtain ⟨dd, y, t4, es4, hdd, hy, ht4, e4⟩ := of_ev (xs := [2, 3, 40].map intM) ht (by omega) (by simp) (by simp)
      obtain ⟨v, hv, rfl⟩ := List.mem_map.mp (List.mem_of_getElem? hy)
      have v4 : 0 < v ∧ v ≤ 40 := by
        simp only [List.mem_cons, List.not_mem_nil, or_false] at hv
        omega
      obtain ⟨j, t5, hj, ht5, e5⟩ := take_n (b := v) ht4 (by omega) v4.1 (by omega)
      have e4 : den_of [.bl t, .fz (.list [.int 2, .int 3, .int 40])] = .ok (.fz (intM v), .bl t4 :: es4) := e4
      have a1 : addD (.int 1) (intM j) = some (.fz (intM (1 + j))) := addM 1 j
      refine ⟨t5, pr (x, 1 + j), ?_, ?_, P ++ [(x, 1 + j)], by rw [ea, List.map_append]; rfl, ?_, ?_⟩
      · unfold ce_leaves
        simp_arith [e4, e5, a1]
        rfl
      · obtain ⟨a1, a2, a3, a4, a5, a6, a7⟩ := ht5
        exact ⟨a1, a2, a3, a4, a5, a6, by omega⟩
      · rw [List.map_append, Pf, List.take_succ, hx]
        rfl
      · intro p hp
        rcases List.mem_append.mp hp with hp | hp
        · exact Pv p hp
        · rw [List.mem_singleton.mp hp]
          exact ⟨by simp, by simp; omega⟩) (by omega) t2 ⟨by simpa using ht2, [], rfl, rfl, by simp⟩
  rw [List.take_length] at Pf
  obtain ⟨es, e⟩ := gv_rb (n := 2) (N := 5) (f := b_leaves) (t := t) (t' := t3) (as := [.fz (tre w d z b)]) (r := .fz (row P)) (by
    unfold b_leaves
    simp only [List.cons_append, List.nil_append, Nat.reduceSub, List.replicate_succ, List.replicate_zero]
    simp_arith [retR_gv wd, mn, adM, e1, rg1X_n (show w ^ d ≤ 1000 by omega), e2, ke, q]
    rfl)
  refine ⟨P, t3, es, ?_, fun x hx => ⟨km _ ?_, Pv x hx⟩, by rw [Pf]; exact ka, ?_, e⟩
  · have : (P.map (·.1)).length = ks.length := by rw [Pf]
    rw [List.length_map] at this
    have l2 := kp.length_eq
    rw [List.length_map, List.length_map, List.length_range] at ly
    omega
  · rw [← Pf]
    exact List.mem_map_of_mem hx
  · obtain ⟨a1, a2, a3, a4, a5, a6, a7⟩ := ht3
    exact ⟨a1, a2, a3, a4, a5, a6, by omega⟩
end
end K80

/-! KB80: levels of ranges (pure). -/
namespace K80
section
variable {w d : Nat} {b bs bp : Nat → Nat → Bool}
def kid (w j : Nat) : List Nat := (List.range w).map fun i => j * w + i
def lv (w : Nat) (b : Nat → Nat → Bool) : Nat → List Nat
  | 0 => [0]
  | k + 1 => ((lv w b k).filter (b k)).flatMap (kid w)
def anc (w : Nat) (b : Nat → Nat → Bool) (k j : Nat) : Bool := (List.range k).all fun n => b n (j / w ^ (k - n))
theorem all_cg {α : Type} {p q : α → Bool} : ∀ {l : List α}, (∀ x ∈ l, p x = q x) → l.all p = l.all q
  | [], _ => rfl
  | x :: l, h => by rw [List.all_cons, List.all_cons, h x (by simp), all_cg fun y hy => h y (by simp [hy])]
theorem anc_s {k j i : Nat} (hi : i < w) : anc w b (k + 1) (j * w + i) = (anc w b k j && b k j) := by
  have hw : 0 < w := by omega
  have dj : (j * w + i) / w = j := by rw [Nat.add_comm, Nat.add_mul_div_right _ _ hw, Nat.div_eq_of_lt hi, Nat.zero_add]
  unfold anc
  rw [List.range_succ, List.all_append]
  congr 1
  · refine all_cg fun n hn => ?_
    have hn := List.mem_range.mp hn
    rw [show k + 1 - n = (k - n) + 1 by omega, Nat.pow_succ, Nat.mul_comm (w ^ (k - n)) w, ← Nat.div_div_eq_div_mul, dj]
  · simp only [List.all_cons, List.all_nil, Bool.and_true]
    rw [show k + 1 - k = 1 by omega, Nat.pow_one, dj]
theorem anc_d {k j : Nat} (hw : 0 < w) : anc w b (k + 1) j = (anc w b k (j / w) && b k (j / w)) := by
  have e : j = j / w * w + j % w := by rw [Nat.mul_comm]; exact (Nat.div_add_mod j w).symm
  conv => lhs; rw [e]
  exact anc_s (Nat.mod_lt _ hw)
theorem range_mul (w : Nat) : ∀ m : Nat, List.range (m * w) = (List.range m).flatMap (kid w)
  | 0 => by simp
  | m + 1 => by
    rw [Nat.succ_mul, List.range_add, range_mul w m, List.range_succ, List.flatMap_append]
    simp [kid]
theorem flat_filter {α β : Type} {p : α → Bool} {f : α → List β} : ∀ {l : List α}, (l.filter p).flatMap f = l.flatMap fun x => if p x then f x else []
  | [] => rfl
  | x :: l => by
    rw [List.flatMap_cons, List.filter_cons]
    cases h : p x with
    | true => simp [flat_filter (l := l)]
    | false => simp [flat_filter (l := l)]
theorem flat_cg {α β : Type} {f g : α → List β} : ∀ {l : List α}, (∀ x ∈ l, f x = g x) → l.flatMap f = l.flatMap g
  | [], _ => rfl
  | x :: l, h => by rw [List.flatMap_cons, List.flatMap_cons, h x (by simp), flat_cg fun y hy => h y (by simp [hy])]
theorem filter_flat {α β : Type} {p : β → Bool} {f : α → List β} : ∀ {l : List α}, (l.flatMap f).filter p = l.flatMap fun x => (f x).filter p
  | [] => rfl
  | x :: l => by rw [List.flatMap_cons, List.filter_append, filter_flat, List.flatMap_cons]
theorem lv_eq : ∀ k : Nat, lv w b k = (List.range (w ^ k)).filter (anc w b k)
  | 0 => by simp [lv, anc]
  | k + 1 => by
    show ((lv w b k).filter (b k)).flatMap (kid w) = _
    rw [lv_eq k, List.filter_filter, Nat.pow_succ, range_mul, filter_flat, flat_filter]
    refine flat_cg fun j _ => ?_
    have e : ∀ x ∈ kid w j, anc w b (k + 1) x = (b k j && anc w b k j) := fun x hx => by
      obtain ⟨i, hi, rfl⟩ := List.mem_map.mp hx
      rw [anc_s (List.mem_range.mp hi), Bool.and_comm]
    cases h : (b k j && anc w b k j) with
    | true => rw [List.filter_eq_self.mpr fun x hx => by rw [e x hx, h]]; rfl
    | false => rw [List.filter_eq_nil_iff.mpr fun x hx => by rw [e x hx, h]; simp]; rfl
theorem lv_lt {k j : Nat} (h : j ∈ lv w b k) : j < w ^ k := by
  rw [lv_eq] at h
  exact List.mem_range.mp (List.mem_filter.mp h).1
theorem lv_len (k : Nat) : (lv w b k).length ≤ w ^ k := by
  rw [lv_eq]
  exact Nat.le_trans (List.length_filter_le _ _) (by rw [List.length_range]; exact Nat.le_refl _)
theorem lv_nil {k : Nat} (h : lv w b k = []) : ∀ n : Nat, lv w b (k + n) = []
  | 0 => h
  | n + 1 => by
    show ((lv w b (k + n)).filter (b (k + n))).flatMap (kid w) = []
    rw [lv_nil h n]
    rfl
def sumT (f : Nat → Nat) : Nat → Nat
  | 0 => 0
  | n + 1 => sumT f n + f n
theorem sumT_nil {f : Nat → Nat} {k : Nat} : ∀ n : Nat, (∀ m : Nat, m < n → f (k + m) = 0) → sumT f (k + n) = sumT f k
  | 0, _ => rfl
  | n + 1, h => by
    show sumT f (k + n) + f (k + n) = _
    rw [sumT_nil n fun m hm => h m (by omega), h n (by omega)]
    rfl
theorem sumT_le {f g : Nat → Nat} : ∀ n : Nat, (∀ k : Nat, k < n → f k ≤ g k) → sumT f n ≤ sumT g n
  | 0, _ => Nat.le_refl _
  | n + 1, h => Nat.add_le_add (sumT_le n fun k hk => h k (by omega)) (h n (by omega))
theorem sumT_cg {f g : Nat → Nat} (n : Nat) (h : ∀ k : Nat, k < n → f k = g k) : sumT f n = sumT g n :=
  Nat.le_antisymm (sumT_le n fun k hk => by rw [h k hk]; exact Nat.le_refl _) (sumT_le n fun k hk => by rw [h k hk]; exact Nat.le_refl _)
def Up (w d : Nat) (b : Nat → Nat → Bool) : Prop := ∀ k j : Nat, k < d → b (k + 1) j = true → b k (j / w) = true
def par (w : Nat) (b : Nat → Nat → Bool) : Nat → Nat → Bool
  | 0, _ => true
  | k + 1, j => b k (j / w)
theorem anc_par (hw : 0 < w) (up : Up w d b) : ∀ (k : Nat) (j : Nat), k ≤ d → anc w b k j = par w b k j
  | 0, _, _ => rfl
  | k + 1, j, h => by
    rw [anc_d hw, anc_par hw up k _ (by omega)]
    show (par w b k (j / w) && b k (j / w)) = b k (j / w)
    cases k with
    | zero => rfl
    | succ k =>
      show (b k (j / w / w) && b (k + 1) (j / w)) = b (k + 1) (j / w)
      cases h2 : b (k + 1) (j / w) with
      | false => simp
      | true => rw [up k _ (by omega) h2]; rfl
theorem up_par (up : Up w d b) : ∀ {k j : Nat}, k ≤ d → b k j = true → par w b k j = true
  | 0, _, _, _ => rfl
  | k + 1, j, h, e => up k j (by omega) e
def prf (w d : Nat) (b : Nat → Nat → Bool) (k j : Nat) : Bool := (decide (k = d) && b k j) || (!b k j && par w b k j)
def cnt (w : Nat) (p : Nat → Nat → Bool) (k : Nat) : Nat := ((List.range (w ^ k)).filter (p k)).length
theorem len_split {α : Type} (p : α → Bool) : ∀ l : List α, (l.filter fun x => !p x).length + (l.filter p).length = l.length
  | [] => rfl
  | x :: l => by
    have ih := len_split p l
    cases h : p x <;> simp [h] <;> omega
def lpF (w d : Nat) (b : Nat → Nat → Bool) (k : Nat) : Nat := (lv w b k).length - ((lv w b k).filter (b k)).length + (if k = d then ((lv w b k).filter (b k)).length else 0)
theorem filter_cg {α : Type} {p q : α → Bool} {l : List α} (h : ∀ x ∈ l, p x = q x) : l.filter p = l.filter q := List.filter_congr h
theorem lp_cnt (hw : 0 < w) (up : Up w d b) {k : Nat} (hk : k ≤ d) : lpF w d b k = cnt w (prf w d b) k := by
  have sp := len_split (b k) (lv w b k)
  have ep : lv w b k = (List.range (w ^ k)).filter (par w b k) := by rw [lv_eq]; exact filter_cg fun j _ => anc_par hw up k j hk
  have e2 : (lv w b k).length - ((lv w b k).filter (b k)).length = ((lv w b k).filter fun x => !b k x).length := by omega
  unfold lpF cnt
  by_cases hd : k = d
  · rw [if_pos hd, show (lv w b k).length - ((lv w b k).filter (b k)).length + ((lv w b k).filter (b k)).length = (lv w b k).length by omega, ep]
    congr 1
    refine filter_cg fun j _ => ?_
    unfold prf
    rw [decide_eq_true hd]
    cases h : b k j with
    | true => rw [up_par up hk h]; rfl
    | false => simp
  · rw [if_neg hd, Nat.add_zero, e2, ep, List.filter_filter]
    congr 1
    refine filter_cg fun j _ => ?_
    unfold prf
    rw [decide_eq_false hd]
    simp
def NL (w d : Nat) (bs bp : Nat → Nat → Bool) : Prop := ∀ k j : Nat, k ≤ d → j < w ^ k → anc w bs k j = true → bp k j = true → bs k j = true
theorem div_lt {k j : Nat} (h : j < w ^ (k + 1)) : j / w < w ^ k := by
  rw [Nat.pow_succ] at h
  exact Nat.div_lt_of_lt_mul (by rw [Nat.mul_comm]; exact h)
theorem anc_same (hw : 0 < w) (nl : NL w d bs bp) (sb : ∀ k j : Nat, bs k j = true → bp k j = true) : ∀ (k : Nat) (j : Nat), k ≤ d → j < w ^ k → anc w bs k j = anc w bp k j
  | 0, _, _, _ => rfl
  | k + 1, j, h, hj => by
    rw [anc_d hw, anc_d hw, ← anc_same hw nl sb k _ (by omega) (div_lt hj)]
    cases h1 : anc w bs k (j / w) with
    | false => rfl
    | true =>
      cases h2 : bs k (j / w) with
      | true => rw [sb _ _ h2]
      | false =>
        cases h3 : bp k (j / w) with
        | false => rfl
        | true => rw [nl k _ (by omega) (div_lt hj) h1 h3] at h2; cases h2
def fnd (w d : Nat) (b : Nat → Nat → Bool) : List Nat := (lv w b d).filter (b d)
theorem fnd_eq : fnd w d bs = (List.range (w ^ d)).filter fun j => bs d j && anc w bs d j := by
  unfold fnd
  rw [lv_eq, List.filter_filter]
theorem fnd_all (hw : 0 < w) (up : Up w d bp) (nl : NL w d bs bp) (sb : ∀ k j : Nat, bs k j = true → bp k j = true) : fnd w d bs = (List.range (w ^ d)).filter (bp d) := by
  rw [fnd_eq]
  refine filter_cg fun j hj => ?_
  have hj := List.mem_range.mp hj
  have e := anc_same hw nl sb d j (Nat.le_refl _) hj
  cases h : bp d j with
  | true =>
    have a : anc w bs d j = true := by rw [e, anc_par hw up d j (Nat.le_refl _)]; exact up_par up (Nat.le_refl _) h
    rw [a, nl d j (Nat.le_refl _) hj a h]
    rfl
  | false =>
    cases h2 : bs d j with
    | true => rw [sb _ _ h2] at h; cases h
    | false => rfl
theorem fnd_sub (sb : ∀ k j : Nat, bs k j = true → bp k j = true) {j : Nat} (h : j ∈ fnd w d bs) : j < w ^ d ∧ bp d j = true := by
  rw [fnd_eq] at h
  obtain ⟨h1, h2⟩ := List.mem_filter.mp h
  exact ⟨List.mem_range.mp h1, sb _ _ (Bool.and_eq_true_iff.mp h2).1⟩
theorem asked_ge (hw : 0 < w) (up : Up w d bp) (nl : NL w d bs bp) (sb : ∀ k j : Nat, bs k j = true → bp k j = true) : sumT (cnt w (prf w d bp)) (d + 1) ≤ sumT (cnt w (anc w bs)) (d + 1) := by
  refine sumT_le _ fun k hk => ?_
  rw [← lp_cnt hw up (by omega)]
  have l : lpF w d bp k ≤ (lv w bp k).length := by
    have := List.length_filter_le (bp k) (lv w bp k)
    unfold lpF
    split <;> omega
  refine Nat.le_trans l ?_
  unfold cnt
  rw [lv_eq]
  exact Nat.le_of_eq (congrArg List.length (filter_cg fun j hj => (anc_same hw nl sb k j (by omega) (List.mem_range.mp hj)).symm))
theorem lv_cnt : sumT (fun k => (lv w bs k).length) (d + 1) = sumT (cnt w (anc w bs)) (d + 1) := sumT_cg _ fun k _ => by rw [lv_eq]; rfl
theorem lp_sum (hw : 0 < w) (up : Up w d bp) : sumT (lpF w d bp) (d + 1) = sumT (cnt w (prf w d bp)) (d + 1) := sumT_cg _ fun k hk => lp_cnt hw up (by omega)
end
end K80

/-! KC80: the program's ranges: parts, compared. -/
namespace K80
open PySem PySem.Spec L2 Gx M10 Sh
open PyProof.Rows hiding St
local macro_rules
  | `(tactic| simp_arith [$as,*] $[$l]?) => `(tactic| simp (disch := first | omega | (simp only [List.length_cons, List.length_nil, List.length_append, List.length_map, List.length_range, List.length_take, List.length_replicate]; omega)) only [dn_comp, rbOf_rt, dn_popAt, popR_ok, popK_0, q_beq1, q_beq2, q_beq3, q_beq4, q_beq5, q_beq6, q_beq7, q_beq8, dn_R1, dn_chain, chR_ok, rvd_fz, rvd_ol, boolOf_b, dn_orE, orER_b, orER_l, dn_sl, dn_on, dn_off, intOf_i, slice_l, slice_t, r_addL, r_addT, r_ixT, r_ixL, opt_map, atI_0, atI_1, atI_2, atI_3, atI_4, atI_5, arP_t, arP_f, List.getD_cons_zero, List.getD_cons_succ, dn_arP, dn_app, dn_arD, dn_bnd, bndR_ok, bndR_ex, dn_lft, dn_ret, dn_dC, dn_seq, seqR_nx, seqR_rt, seqR_bk, seqR_ct, seqR_ex, dn_nx, dn_call, callR_ok, dn_bin, binR_ok, dn_cmpT, boolR_ok, dn_tru, truR_b, truR_i, truR_n, truR_l, truR_t, dn_notT, dn_not, dn_andT, dn_orT, iteR_t, iteR_f, dn_sIf, dn_dIf, dn_and, dn_orD, andR_b, orR_b, dn_sRet, rtR_ok, dn_sDrop, dn_frz, frzR_fz, frzR_ol, dn_ofD, ofR_ok, ofR_ex, frzR_ex, rtR_ex, dn_sSet, dn_put, ifB_t, ifB_f, rven_fz, rven_ol, isBl_no, isBl_fz, isBl_ol, isBl_ow, dn_name, nameR_fz, nameR_ol, dn_move, moveR_fz, moveR_ol, dn_lenP, lenR_some, dn_peek, peekR_ok, itemR_some, seqE_ol, seqE_bl, seqE_t, seqE_l, seqE_sl, seqE_st, dn_item, itmR_at, dn_nil, dn_cons, consR_ok, consK_ok, dn_tup, dn_lst, dn_un, dn_anil, dn_acons, aconsR_fz, aconsR_ol, aconsK_ok, dn_alend, lendR_ol, lendR_bl, lendR_sc, lent_nil, lent_fz, lent_tp, lent_sc, lent_sl, lentS_n, lentB_n, lentB_s, dn_fn, dn_apply, applyR_some, ar_fz, ar_tp, ar_sc, ar_sl, dn_enSl_ol, dn_enSl_bl, retR_ok, retR_sl, putR_ol, putR_bl, dn_sFor, dn_iSeq, seqOf_l, seqOf_t, dn_iRg1, dn_iRg2, dn_iZp, dn_iZ3, dn_iEnB, dn_sAsg, dn_sApp, ownOf_ol, ownOf_bl, appR_ok, updR_ol, updR_bl, updK_ol, updK_bl, appD_ok, dn_sSetIx, dn_setx, setIxD_eq, dn_sParA, dn_parA, parR_ok, dn_sParX, dn_parX, parXR_ok, rvA_fz, rvA_tp, dn_sPar, nmR_some, nmAll_nil, nmAll_cons, dn_hName, dn_hTup, dn_hNil, dn_hCons, arP_t, arP_f, List.getD_cons_zero, List.getD_cons_succ, dn_arP, dn_app, dn_arD, rtOf_rt, rtOf_nx, cond_true, cond_false, List.getElem?_cons_zero, List.getElem?_cons_succ, List.set_cons_zero, List.set_cons_succ, List.map_cons, List.map_nil, Option.isSome_some, Option.bind_some, Nat.beq_eq_true_eq, List.cons_append, List.nil_append, List.append_nil, List.length_cons, List.length_nil, Nat.reduceSub, Nat.reduceAdd, List.replicate_succ, List.replicate_zero, if_true, Nat.reduceLeDiff, okLen_dn, Bool.not_true, Bool.not_false, Bool.false_eq_true, if_false, dn_newD, rven_od, rvd_od, isBl_od, frzR_od, nameR_od, moveR_od, aconsR_od, rvA_td, ar_td, lent_td, lendR_od, lendR_bd, enSl_od, enSl_bd, putR_od, putR_bd, dicE_od, dicE_bd, dicE_fz, ownD_od, ownD_bd, dn_dk, dkK_some, lkR_some, dn_inD, dn_inT, inK_some, inR_f, inR_t, dn_get1, dn_get2, getK_some, getR_s, getR_n, dn_lenD, lenDR_some, dn_updD, updDR_od, updDR_bd, updDK_od, updDK_bd, dn_putdR, dn_putD, dn_delD, dn_setdD, dn_callK, dn_sUpd, Option.isSome_none, n_addI, n_subI, n_ltI, n_gtI, n_leI, n_geI, n_negI, n_eqI, n_neI, n_lenL, n_lenT, n_tupL, n_tupT, n_lstL, n_lstT, n_isN_n, isi_non, isi2_non, isa_non_non, isa_non_bl, isa_non_int, isa_non_str, isa_non_lst, isa_non_tup, isn_non, isnn_non, isi_bl, isi2_bl, isa_bl_non, isa_bl_bl, isa_bl_int, isa_bl_str, isa_bl_lst, isa_bl_tup, isn_bl, isnn_bl, isi_int, isi2_int, isa_int_non, isa_int_bl, isa_int_int, isa_int_str, isa_int_lst, isa_int_tup, isn_int, isnn_int, isi_str, isi2_str, isa_str_non, isa_str_bl, isa_str_int, isa_str_str, isa_str_lst, isa_str_tup, isn_str, isnn_str, isi_lst, isi2_lst, isa_lst_non, isa_lst_bl, isa_lst_int, isa_lst_str, isa_lst_lst, isa_lst_tup, isn_lst, isnn_lst, isi_tup, isi2_tup, isa_tup_non, isa_tup_bl, isa_tup_int, isa_tup_str, isa_tup_lst, isa_tup_tup, isn_tup, isnn_tup, Bool.or_true, Bool.or_false, Bool.true_or, Bool.false_or, Bool.or_self, bq_tt, bq_tf, bq_ft, bq_ff, bn_tt, bn_tf, bn_ft, bn_ff, $as,*] $[$l]?)
theorem compL2_dep {ρ : Ev} {ι κ : Type} {u : ι → PyData} {v : ι → κ → PyData} {i j B : Nat} {fi1 : Dn (List PyData)} {fe : Dn PyData} {es : ι → List κ} {g : ι → κ → PyData} (hij : i ≠ j) (hb : isBl ρ[i]? = false) (hbj : isBl ρ[j]? = false) (hB : ∀ d, (es d).length ≤ B) : ∀ (ds : List ι) (acc : List PyData), (∀ d ∈ ds, fi1 ((ρ.set j .no).set i (.fz (u d))) = .ok ((es d).map (v d), (ρ.set j .no).set i (.fz (u d)))) →
    (∀ d ∈ ds, ∀ e ∈ es d, fe (((ρ.set j .no).set i (.fz (u d))).set j (.fz (v d e))) = .ok (g d e, ((ρ.set j .no).set i (.fz (u d))).set j (.fz (v d e)))) → acc.length + ds.length * B ≤ 16777216 →
    compL2 (hName i) yesT fi1 (hName j) yesT fe [i, j] [j] (ds.map u) acc ((ρ.set j .no).set i .no) = .ok (acc ++ ds.flatMap fun d => (es d).map (g d), (ρ.set j .no).set i .no)
  | [], acc, _, _, _ => by simp [compL2]
  | d :: ds, acc, h1, h2, hl => by
    have li : i < ρ.length := (isBl_f hb).2
    have lj : j < ρ.length := (isBl_f hbj).2
    have eB := hB d
    rw [List.length_cons, Nat.succ_mul] at hl
    have n1 : hName i (u d) ((ρ.set j .no).set i .no) = some ((ρ.set j .no).set i (.fz (u d))) := by
      unfold hName
      rw [List.getElem?_set_self (by simpa using li)]
      show some (((ρ.set j .no).set i .no).set i (.fz (u d))) = _
      rw [set_twice]
    have wj : wipeE ((ρ.set j .no).set i (.fz (u d))) [j] = ((ρ.set j .no).set i (.fz (u d))).set j .no := rfl
    have bj : isBl ((ρ.set j .no).set i (.fz (u d)))[j]? = false := by
      rw [List.getElem?_set_ne hij, List.getElem?_set_self lj]
      rfl
    have inner := compL1 (u := v d) (ρ := (ρ.set j .no).set i (.fz (u d))) (i := j) (ft := yesT) (fe := fe) (p := fun _ => true) (g := g d) (es d) acc bj (fun _ _ => rfl) (fun e he _ => h2 d (by simp) e he) (by omega)
    rw [List.filter_eq_self.mpr (by simp)] at inner
    rw [List.map_cons]
    unfold compL2
    simp only [n1, yesT, Gx.ret, h1 d (by simp), wj]
    rw [show (Gx.ret true : Dn Bool) = yesT from rfl, inner]
    have wb : wipeE (((ρ.set j .no).set i (.fz (u d))).set j .no) [i, j] = (ρ.set j .no).set i .no := by
      show ((((ρ.set j .no).set i (.fz (u d))).set j .no).set j .no).set i .no = _
      rw [set_twice, List.set_comm _ _ hij, set_twice, set_twice]
    simp only [wb]
    rw [compL2_dep hij hb hbj hB ds _ (fun x hx => h1 x (by simp [hx])) (fun x hx => h2 x (by simp [hx])) (by
      simp only [List.length_append, List.length_map]
      omega)]
    simp
theorem comp2_dep {ρ ρ1 : Ev} {ι κ : Type} {u : ι → PyData} {v : ι → κ → PyData} {i j B : Nat} {fi fi1 : Dn (List PyData)} {fe : Dn PyData} {ds : List ι} {es : ι → List κ} (g : ι → κ → PyData) (h0 : fi ρ = .ok (ds.map u, ρ1)) (hij : i ≠ j) (hb : isBl ρ1[i]? = false) (hbj : isBl ρ1[j]? = false) (hB : ∀ d, (es d).length ≤ B) (h1 : ∀ d ∈ ds, fi1 ((ρ1.set j .no).set i (.fz (u d))) = .ok ((es d).map (v d), (ρ1.set j .no).set i (.fz (u d))))
    (h2 : ∀ d ∈ ds, ∀ e ∈ es d, fe (((ρ1.set j .no).set i (.fz (u d))).set j (.fz (v d e))) = .ok (g d e, ((ρ1.set j .no).set i (.fz (u d))).set j (.fz (v d e)))) (hl : ds.length * B ≤ 16777216) :
    dComp2 fi (hName i) yesT fi1 (hName j) yesT fe [i, j] [j] ρ = .ok (.ol (ds.flatMap fun d => (es d).map (g d)), ρ1) := by
  refine ev_bnd h0 ?_
  have hv : ([i, j].all fun v => !isBl ρ1[v]?) = true := by simp [hb, hbj]
  have hw : wipeE ρ1 [i, j] = (ρ1.set j .no).set i .no := rfl
  rw [if_pos hv, hw, compL2_dep hij hb hbj hB ds [] h1 h2 (by simpa using hl)]
  simp [rest2 hij (isBl_f hb).2 (isBl_f hbj).2]
theorem subM {a c : Nat} (h : a ≤ c) : subD (intM c) (intM a) = some (.fz (intM (c - a))) := by
  show some (Rv.fz (.int ((c : Int) - (a : Int)))) = some (.fz (.int ((c - a : Nat) : Int)))
  rw [show ((c : Int) - (a : Int)) = ((c - a : Nat) : Int) by omega]
theorem eqMM (a b : Nat) : eqD (intM a) (intM b) = some (.fz (.bool (decide (a = b)))) := by
  show eqD (.int (a : Int)) (.int (b : Int)) = _
  rw [n_eqI, show decide ((a : Int) = (b : Int)) = decide (a = b) from decide_eq_decide.mpr (by omega)]
theorem eqM1 (a : Nat) : eqD (intM a) (.int 1) = some (.fz (.bool (decide (a = 1)))) := eqMM a 1
theorem mulM {a c : Nat} (hc : c < 1000000) : mulD (intM a) (intM c) = some (.fz (intM (a * c))) := by
  rw [show mulD (intM a) (intM c) = _ from mulD_r (w64_n hc)]
  rfl
theorem fdivM {a c : Nat} (hc : 0 < c) (h2 : c < 1000000) : fdivD (intM a) (intM c) = some (.fz (intM (a / c))) := by
  have e : fdivD (.int (a : Int)) (.int (c : Int)) = some (.fz (.int ((a : Int) / (c : Int)))) := if_pos ⟨by omega, by omega⟩
  show fdivD (.int (a : Int)) (.int (c : Int)) = _
  rw [e, ← Int.natCast_ediv]
  rfl
def spk (s j : Nat) : PyData := sp (j * s) (j * s + s)
section
variable {w d : Nat} {z b : Int}
theorem sq_tre : seqE (some (.fz (tre w d z b))) = some [intM w, intM d, .int z, .int b] := (rfl)
theorem parts_1 (j : Nat) : Gv den_parts_of [.fz (tre w d z b), .fz (spk 1 j)] (.ol []) := by
  refine gv_rt ?_
  unfold b_parts_of spk sp
  simp_arith [sq_tre, subM (show j * 1 ≤ j * 1 + 1 by omega), eqM1, decide_eq_true (show j * 1 + 1 - j * 1 = 1 by omega)]
theorem parts_s {s : Nat} (hw : w < 100) (w2 : 2 ≤ w) (hs : 0 < s) (sb : s < 1000) (j : Nat) (hj : j < 100000) : Gv den_parts_of [.fz (tre w d z b), .fz (spk (s * w) j)] (.ol ((kid w j).map (spk s))) := by
  have rg : rg1 [intM w] = some ((List.range w).map intM) := (rg1_n (by omega)).trans (congrArg some (rgD_map w))
  have n1 : s * w ≠ 1 := by
    have : s * 2 ≤ s * w := Nat.mul_le_mul_left s w2
    omega
  have sb2 : subD (intM (j * (s * w) + s * w)) (intM (j * (s * w))) = some (.fz (intM (s * w))) := by
    rw [subM (by omega), show j * (s * w) + s * w - j * (s * w) = s * w by omega]
  have dv : fdivD (intM (s * w)) (intM w) = some (.fz (intM s)) := by
    rw [fdivM (by omega) (by omega), Nat.mul_div_cancel _ (by omega)]
  refine gv_rt ?_
  unfold b_parts_of spk sp
  simp_arith [sq_tre, sb2, eqM1, decide_eq_false n1, dv, rg]
  rw [comp_m (u := intM) (g := fun i => spk s (j * w + i)) rfl (fun i hi => by
    unfold ce_parts_of
    have m1 : mulD (intM i) (intM s) = some (.fz (intM (i * s))) := mulM (by omega)
    have m2 : mulD (intM (i + 1)) (intM s) = some (.fz (intM ((i + 1) * s))) := mulM (by omega)
    simp_arith [sq_tre, m1, m2, adM, addM]
    have e1 : j * (s * w) + i * s = (j * w + i) * s := by rw [Nat.add_mul, Nat.mul_assoc, Nat.mul_comm w s]
    have e2 : j * (s * w) + (i + 1) * s = (j * w + i) * s + s := by rw [Nat.succ_mul, ← Nat.add_assoc, e1]
    rw [e1, e2]
    rfl) (by simp; omega)]
  simp_arith []
  unfold kid
  rw [List.map_map]
  rfl
/-! ### alike -/
theorem pr_inj {x y : Nat × Nat} (h : pr x = pr y) : x = y := by
  unfold pr intM at h
  injection h with h
  injection h with h1 h
  injection h with h2 _
  injection h1 with h1
  injection h2 with h2
  exact Prod.ext (by omega) (by omega)
theorem prs_inj : ∀ {A B : List (Nat × Nat)}, A.map pr = B.map pr → A = B
  | [], [], _ => rfl
  | [], _ :: _, h => by simp at h
  | _ :: _, [], h => by simp at h
  | x :: A, y :: B, h => by
    simp only [List.map_cons] at h
    injection h with h1 h2
    rw [pr_inj h1, prs_inj h2]
theorem pd_pr (k : Nat) (x : Nat × Nat) : Pd (k + 1) (pr x) := pd_tup (k := k) fun y hy => by
  simp only [List.mem_cons, List.not_mem_nil, or_false] at hy
  rcases hy with rfl | rfl <;> exact pd_int _
theorem pd_prs (k : Nat) (A : List (Nat × Nat)) : Pd (k + 2) (.list (A.map pr)) := pd_lst fun y hy => by
  obtain ⟨x, _, rfl⟩ := List.mem_map.mp hy
  exact pd_pr k x
theorem nbl_pr (x : Nat × Nat) : nbl (pr x) = true := nbl_tup fun y hy => by
  simp only [List.mem_cons, List.not_mem_nil, or_false] at hy
  rcases hy with rfl | rfl <;> rfl
theorem nbl_prs (A : List (Nat × Nat)) : nbl (.list (A.map pr)) = true := nbl_lst fun y hy => by
  obtain ⟨x, _, rfl⟩ := List.mem_map.mp hy
  exact nbl_pr x
theorem eqB_prs (A B : List (Nat × Nat)) : eqB (.list (A.map pr)) (.list (B.map pr)) = decide (A = B) := by
  by_cases h : A = B
  · rw [h, eqB_self, decide_eq_true rfl]
  · rw [decide_eq_false h]
    cases e : eqB (.list (A.map pr)) (.list (B.map pr)) with
    | false => rfl
    | true =>
      have e := eqB_iff.mp e
      injection e with e
      exact absurd (prs_inj e) h
theorem ne_prs (A B : List (Nat × Nat)) : neD (.list (A.map pr)) (.list (B.map pr)) = some (.fz (.bool (!decide (A = B)))) := by
  rw [ne_pd (pd_prs 58 A) (pd_prs 58 B), eqv_eqB (nbl_prs A) (nbl_prs B), eqB_prs]
theorem pd_sm {k : Nat} {P : List (Nat × Nat)} : Pd (k + 1) (sm z b P) := pd_tup fun x hx => by
  simp only [List.mem_cons, List.not_mem_nil, or_false] at hx
  rcases hx with rfl | rfl <;> exact pd_int _
theorem nbl_sm {P : List (Nat × Nat)} : nbl (sm z b P) = true := nbl_tup fun x hx => by
  simp only [List.mem_cons, List.not_mem_nil, or_false] at hx
  rcases hx with rfl | rfl <;> rfl
theorem ne_sm (A B : List (Nat × Nat)) : neD (sm z b A) (sm z b B) = some (.fz (.bool (!eqB (sm z b A) (sm z b B)))) := by
  rw [ne_pd pd_sm pd_sm, eqv_eqB nbl_sm nbl_sm]
noncomputable def bsF (w d : Nat) (z b : Int) (P Q : List (Nat × Nat)) (k j : Nat) : Bool := !eqB (sm z b (sel (j * w ^ (d - k)) (j * w ^ (d - k) + w ^ (d - k)) P)) (sm z b (sel (j * w ^ (d - k)) (j * w ^ (d - k) + w ^ (d - k)) Q))
def bpF (w d : Nat) (P Q : List (Nat × Nat)) (k j : Nat) : Bool := !decide (sel (j * w ^ (d - k)) (j * w ^ (d - k) + w ^ (d - k)) P = sel (j * w ^ (d - k)) (j * w ^ (d - k) + w ^ (d - k)) Q)
end
end K80

/-! KD80: compare. -/
namespace K80
open PySem PySem.Spec L2 Gx M10 Sh
open PyProof.Rows hiding St
local macro_rules
  | `(tactic| simp_arith [$as,*] $[$l]?) => `(tactic| simp (disch := first | omega | (simp only [List.length_cons, List.length_nil, List.length_append, List.length_map, List.length_range, List.length_take, List.length_replicate]; omega)) only [dn_comp, rbOf_rt, dn_popAt, popR_ok, popK_0, q_beq1, q_beq2, q_beq3, q_beq4, q_beq5, q_beq6, q_beq7, q_beq8, dn_R1, dn_chain, chR_ok, rvd_fz, rvd_ol, boolOf_b, dn_orE, orER_b, orER_l, dn_sl, dn_on, dn_off, intOf_i, slice_l, slice_t, r_addL, r_addT, r_ixT, r_ixL, opt_map, atI_0, atI_1, atI_2, atI_3, atI_4, atI_5, arP_t, arP_f, List.getD_cons_zero, List.getD_cons_succ, dn_arP, dn_app, dn_arD, dn_bnd, bndR_ok, bndR_ex, dn_lft, dn_ret, dn_dC, dn_seq, seqR_nx, seqR_rt, seqR_bk, seqR_ct, seqR_ex, dn_nx, dn_call, callR_ok, dn_bin, binR_ok, dn_cmpT, boolR_ok, dn_tru, truR_b, truR_i, truR_n, truR_l, truR_t, dn_notT, dn_not, dn_andT, dn_orT, iteR_t, iteR_f, dn_sIf, dn_dIf, dn_and, dn_orD, andR_b, orR_b, dn_sRet, rtR_ok, dn_sDrop, dn_frz, frzR_fz, frzR_ol, dn_ofD, ofR_ok, ofR_ex, frzR_ex, rtR_ex, dn_sSet, dn_put, ifB_t, ifB_f, rven_fz, rven_ol, isBl_no, isBl_fz, isBl_ol, isBl_ow, dn_name, nameR_fz, nameR_ol, dn_move, moveR_fz, moveR_ol, dn_lenP, lenR_some, dn_peek, peekR_ok, itemR_some, seqE_ol, seqE_bl, seqE_t, seqE_l, seqE_sl, seqE_st, dn_item, itmR_at, dn_nil, dn_cons, consR_ok, consK_ok, dn_tup, dn_lst, dn_un, dn_anil, dn_acons, aconsR_fz, aconsR_ol, aconsK_ok, dn_alend, lendR_ol, lendR_bl, lendR_sc, lent_nil, lent_fz, lent_tp, lent_sc, lent_sl, lentS_n, lentB_n, lentB_s, dn_fn, dn_apply, applyR_some, ar_fz, ar_tp, ar_sc, ar_sl, dn_enSl_ol, dn_enSl_bl, retR_ok, retR_sl, putR_ol, putR_bl, dn_sFor, dn_iSeq, seqOf_l, seqOf_t, dn_iRg1, dn_iRg2, dn_iZp, dn_iZ3, dn_iEnB, dn_sAsg, dn_sApp, ownOf_ol, ownOf_bl, appR_ok, updR_ol, updR_bl, updK_ol, updK_bl, appD_ok, dn_sSetIx, dn_setx, setIxD_eq, dn_sParA, dn_parA, parR_ok, dn_sParX, dn_parX, parXR_ok, rvA_fz, rvA_tp, dn_sPar, nmR_some, nmAll_nil, nmAll_cons, dn_hName, dn_hTup, dn_hNil, dn_hCons, arP_t, arP_f, List.getD_cons_zero, List.getD_cons_succ, dn_arP, dn_app, dn_arD, rtOf_rt, rtOf_nx, cond_true, cond_false, List.getElem?_cons_zero, List.getElem?_cons_succ, List.set_cons_zero, List.set_cons_succ, List.map_cons, List.map_nil, Option.isSome_some, Option.bind_some, Nat.beq_eq_true_eq, List.cons_append, List.nil_append, List.append_nil, List.length_cons, List.length_nil, Nat.reduceSub, Nat.reduceAdd, List.replicate_succ, List.replicate_zero, if_true, Nat.reduceLeDiff, okLen_dn, Bool.not_true, Bool.not_false, Bool.false_eq_true, if_false, dn_newD, rven_od, rvd_od, isBl_od, frzR_od, nameR_od, moveR_od, aconsR_od, rvA_td, ar_td, lent_td, lendR_od, lendR_bd, enSl_od, enSl_bd, putR_od, putR_bd, dicE_od, dicE_bd, dicE_fz, ownD_od, ownD_bd, dn_dk, dkK_some, lkR_some, dn_inD, dn_inT, inK_some, inR_f, inR_t, dn_get1, dn_get2, getK_some, getR_s, getR_n, dn_lenD, lenDR_some, dn_updD, updDR_od, updDR_bd, updDK_od, updDK_bd, dn_putdR, dn_putD, dn_delD, dn_setdD, dn_callK, dn_sUpd, Option.isSome_none, n_addI, n_subI, n_ltI, n_gtI, n_leI, n_geI, n_negI, n_eqI, n_neI, n_lenL, n_lenT, n_tupL, n_tupT, n_lstL, n_lstT, n_isN_n, isi_non, isi2_non, isa_non_non, isa_non_bl, isa_non_int, isa_non_str, isa_non_lst, isa_non_tup, isn_non, isnn_non, isi_bl, isi2_bl, isa_bl_non, isa_bl_bl, isa_bl_int, isa_bl_str, isa_bl_lst, isa_bl_tup, isn_bl, isnn_bl, isi_int, isi2_int, isa_int_non, isa_int_bl, isa_int_int, isa_int_str, isa_int_lst, isa_int_tup, isn_int, isnn_int, isi_str, isi2_str, isa_str_non, isa_str_bl, isa_str_int, isa_str_str, isa_str_lst, isa_str_tup, isn_str, isnn_str, isi_lst, isi2_lst, isa_lst_non, isa_lst_bl, isa_lst_int, isa_lst_str, isa_lst_lst, isa_lst_tup, isn_lst, isnn_lst, isi_tup, isi2_tup, isa_tup_non, isa_tup_bl, isa_tup_int, isa_tup_str, isa_tup_lst, isa_tup_tup, isn_tup, isnn_tup, Bool.or_true, Bool.or_false, Bool.true_or, Bool.false_or, Bool.or_self, bq_tt, bq_tf, bq_ft, bq_ff, bn_tt, bn_tf, bn_ft, bn_ff, $as,*] $[$l]?)
section
variable {w d : Nat} {z b : Int} {P Q : List (Nat × Nat)} {bf : Nat → Nat → Bool}
def kd (w d k j : Nat) : List Nat := if k = d then [] else kid w j
theorem kd_len (w d k j : Nat) : (kd w d k j).length ≤ w := by
  unfold kd kid
  split <;> simp
theorem pow_s {k : Nat} (h : k < d) : w ^ (d - k) = w ^ (d - (k + 1)) * w := by
  rw [← Nat.pow_succ, show (d - (k + 1)).succ = d - k by omega]
theorem pow_le' {k : Nat} (w1 : 1 ≤ w) (h64 : w ^ d ≤ 64) : w ^ (d - k) ≤ 64 := Nat.le_trans (Nat.pow_le_pow_right w1 (by omega)) h64
theorem pow_lt' {k : Nat} (w1 : 1 ≤ w) (h64 : w ^ d ≤ 64) (hk : k ≤ d) : w ^ k ≤ 64 := Nat.le_trans (Nat.pow_le_pow_right w1 hk) h64
theorem parts_k (hw : w < 100) (w2 : 2 ≤ w) (h64 : w ^ d ≤ 64) {k j : Nat} (hk : k ≤ d) (hj : j < 100000) : Gv den_parts_of [.fz (tre w d z b), .fz (spk (w ^ (d - k)) j)] (.ol ((kd w d k j).map (spk (w ^ (d - (k + 1)))))) := by
  unfold kd
  by_cases h : k = d
  · rw [if_pos h, h, Nat.sub_self, Nat.pow_zero]
    exact parts_1 j
  · rw [if_neg h, pow_s (by omega)]
    have := pow_le' (w := w) (d := d) (k := k + 1) (by omega) h64
    exact parts_s hw w2 (Nat.pow_pos (by omega)) (by omega) j hj
def lvX (w d : Nat) (bf : Nat → Nat → Bool) (k : Nat) : List Nat := if k ≤ d then lv w bf k else []
def fX (w d : Nat) (bf : Nat → Nat → Bool) (k : Nat) : List Nat := if k ≤ d then [] else fnd w d bf
theorem lvX_s {k : Nat} (hk : k ≤ d) : ((lvX w d bf k).filter (bf k)).flatMap (kd w d k) = lvX w d bf (k + 1) := by
  unfold lvX
  rw [if_pos hk]
  by_cases h : k = d
  · rw [if_neg (by omega)]
    rw [show kd w d k = fun _ => [] from funext fun j => if_pos h]
    simp
  · rw [if_pos (by omega), show kd w d k = kid w from funext fun j => if_neg h]
    rfl
theorem sz_1 (w2 : 2 ≤ w) {k : Nat} (hk : k ≤ d) : decide (w ^ (d - k) = 1) = decide (k = d) := by
  by_cases h : k = d
  · rw [h, Nat.sub_self]; simp
  · rw [decide_eq_false h, decide_eq_false]
    rw [pow_s (by omega)]
    have : 1 * 2 ≤ w ^ (d - (k + 1)) * w := Nat.mul_le_mul (Nat.pow_pos (by omega)) w2
    omega
theorem fX_s {k : Nat} (hk : k ≤ d) : fX w d bf k ++ (((lvX w d bf k).filter (bf k)).filter fun _ => decide (k = d)) = fX w d bf (k + 1) := by
  unfold fX lvX
  rw [if_pos hk, if_pos hk, List.nil_append]
  by_cases h : k = d
  · rw [if_neg (by omega), decide_eq_true h, h]
    unfold fnd
    exact List.filter_eq_self.mpr fun _ _ => rfl
  · rw [if_pos (by omega), decide_eq_false h]
    exact List.filter_eq_nil_iff.mpr fun _ _ => by simp
theorem lv_end {k : Nat} (hk : k ≤ d + 1) (h : lvX w d bf k = []) : fX w d bf k = fX w d bf (d + 1) ∧ lvX w d bf (d + 1) = [] ∧ sumT (fun k => (lv w bf k).length) k = sumT (fun k => (lv w bf k).length) (d + 1) ∧ sumT (lpF w d bf) k = sumT (lpF w d bf) (d + 1) := by
  by_cases e : k = d + 1
  · rw [e]
    exact ⟨rfl, by unfold lvX; rw [if_neg (by omega)], rfl, rfl⟩
  · unfold lvX at h
    rw [if_pos (by omega)] at h
    have nl := lv_nil h
    have nd := nl (d - k)
    rw [show k + (d - k) = d by omega] at nd
    refine ⟨?_, by unfold lvX; rw [if_neg (by omega)], ?_, ?_⟩
    · unfold fX fnd
      rw [if_pos (by omega), if_neg (by omega), nd]
      rfl
    · rw [show d + 1 = k + (d + 1 - k) by omega, sumT_nil _ fun m _ => by rw [nl m]; rfl]
    · rw [show d + 1 = k + (d + 1 - k) by omega, sumT_nil _ fun m _ => by unfold lpF; rw [nl m]; simp]
theorem lvX_lt {k j : Nat} (h : j ∈ lvX w d bf k) : k ≤ d ∧ j < w ^ k := by
  unfold lvX at h
  by_cases e : k ≤ d
  · rw [if_pos e] at h; exact ⟨e, lv_lt h⟩
  · rw [if_neg e] at h; simp at h
theorem lvX_len {k : Nat} (w1 : 1 ≤ w) (h64 : w ^ d ≤ 64) : (lvX w d bf k).length ≤ 64 := by
  unfold lvX
  split
  · rename_i e
    exact Nat.le_trans (lv_len k) (pow_lt' w1 h64 e)
  · simp
def cE (w d : Nat) (z b : Int) (P Q : List (Nat × Nat)) (bf : Nat → Nat → Bool) (k : Nat) (o : Nat → En) : Ev := [.fz (tre w d z b), .fz (row P), .fz (row Q), .ol ((lvX w d bf k).map (spk (w ^ (d - k)))), .ol ((fX w d bf k).map intM), .fz (intM (sumT (fun k => (lv w bf k).length) k)), o 0, .no, .no, .no, .no]
theorem cmp_step (hw : w < 100) (w2 : 2 ≤ w) (h64 : w ^ d ≤ 64) (hP : P.length ≤ 1000) (hQ : Q.length ≤ 1000) (z0 : 0 < z) (b0 : 0 ≤ b) (b1 : b < 1000000000000) {k : Nat} (hk : k ≤ d) (o : Nat → En) (no : Nb o) :
    ∃ o', Nb o' ∧ lb_compare (cE w d z b P Q (bsF w d z b P Q) k o) = .ok (.nx, cE w d z b P Q (bsF w d z b P Q) (k + 1) o') := by
  have S64 := lvX_len (bf := bsF w d z b P Q) (k := k) (by omega : 1 ≤ w) h64
  have jb : ∀ j ∈ lvX w d (bsF w d z b P Q) k, j < 100000 := fun j hj => by
    have := (lvX_lt hj).2
    have := pow_lt' (by omega : 1 ≤ w) h64 hk
    omega
  have s1 := sz_1 w2 hk (d := d)
  have e1 := lvX_s (bf := bsF w d z b P Q) (w := w) hk
  have e2 := fX_s (bf := bsF w d z b P Q) (w := w) hk
  have e3 : sumT (fun k => (lv w (bsF w d z b P Q) k).length) k + (lvX w d (bsF w d z b P Q) k).length = sumT (fun k => (lv w (bsF w d z b P Q) k).length) (k + 1) := by
    unfold lvX
    rw [if_pos hk]
    rfl
  unfold cE
  generalize hS : lvX w d (bsF w d z b P Q) k = S at *
  generalize hU : S.filter (bsF w d z b P Q k) = U at *
  have Ul : U.length ≤ 64 := by rw [← hU]; exact Nat.le_trans (List.length_filter_le _ _) S64
  have jU : ∀ j ∈ U, j < 100000 := fun j hj => jb j (by rw [← hU] at hj; exact (List.mem_filter.mp hj).1)
  refine ⟨f1 (.fz (.list (U.map (spk (w ^ (d - k)))))), nb1 rfl, ?_⟩
  unfold lb_compare
  have ad : addD (intM (sumT (fun k => (lv w (bsF w d z b P Q) k).length) k)) (.int ((S.map (spk (w ^ (d - k)))).length : Int)) = some (.fz (intM (sumT (fun k => (lv w (bsF w d z b P Q) k).length) (k + 1)))) := by
    rw [List.length_map, show (PyData.int (S.length : Int)) = intM S.length from rfl, addM, e3]
  simp_arith [ad, no 0]
  rw [comp_p (u := spk (w ^ (d - k))) (p := bsF w d z b P Q k) (g := spk (w ^ (d - k))) rfl (fun j hj => by
    unfold ct_compare_2 spk
    simp_arith [retR_gv (sumin_ev (a := j * w ^ (d - k)) (c := j * w ^ (d - k) + w ^ (d - k)) (w := w) (d := d) hP z0 b0 b1), retR_gv (sumin_ev (a := j * w ^ (d - k)) (c := j * w ^ (d - k) + w ^ (d - k)) (w := w) (d := d) hQ z0 b0 b1), ne_sm]
    rfl) (fun j _ _ => by
    unfold ce_compare
    simp_arith []) (by omega), hU]
  simp_arith [no 0]
  rw [comp_t (u := spk (w ^ (d - k))) (E1 := fun j => [.fz (tre w d z b), .fz (row P), .fz (row Q), .fz (.list (S.map (spk (w ^ (d - k))))), .fz (.list ((fX w d (bsF w d z b P Q) k).map intM)), .fz (intM (sumT (fun k => (lv w (bsF w d z b P Q) k).length) (k + 1))), .fz (.list (U.map (spk (w ^ (d - k))))), .no, .no, .fz (intM (j * w ^ (d - k))), .fz (intM (j * w ^ (d - k) + w ^ (d - k)))]) (p := fun _ => decide (k = d)) (g := fun j => intM (j * w ^ (d - k))) rfl (fun _ => rfl) (fun _ => rfl) rfl (fun j hj => by
    unfold ct_compare_3
    simp_arith [subM (show j * w ^ (d - k) ≤ j * w ^ (d - k) + w ^ (d - k) by omega), eqM1]
    rw [show j * w ^ (d - k) + w ^ (d - k) - j * w ^ (d - k) = w ^ (d - k) by omega, s1]) (fun j _ _ => by
    unfold ce_compare_2
    simp_arith []) (by omega)]
  have fe : (U.filter fun _ => decide (k = d)).map (fun j => intM (j * w ^ (d - k))) = (U.filter fun _ => decide (k = d)).map intM := by
    by_cases h : k = d
    · rw [h, Nat.sub_self, Nat.pow_zero]
      simp
    · rw [decide_eq_false h]
      simp
  rw [fe]
  have f0' : (fX w d (bsF w d z b P Q) k).length = 0 := by unfold fX; rw [if_pos hk]; rfl
  have ha : addD (.list ((fX w d (bsF w d z b P Q) k).map intM)) (.list ((U.filter fun _ => decide (k = d)).map intM)) = some (.ol ((fX w d (bsF w d z b P Q) (k + 1)).map intM)) := by
    have : (U.filter fun _ => decide (k = d)).length ≤ U.length := List.length_filter_le _ _
    rw [r_addL (by rw [List.length_map, List.length_map]; omega), ← List.map_append, e2]
  have c2 : dComp2 (iSeq (dName 6)) (hName 7) yesT (iSeq (frz (dFn (den_parts_of) (aCons (ofD (dName 0)) (aCons (ofD (dName 7)) aNil))))) (hName 8) yesT ce_compare_3 [7, 8] [8] [.fz (tre w d z b), .fz (row P), .fz (row Q), .fz (.list (S.map (spk (w ^ (d - k))))), .ol ((fX w d (bsF w d z b P Q) (k + 1)).map intM), .fz (intM (sumT (fun k => (lv w (bsF w d z b P Q) k).length) (k + 1))), .fz (.list (U.map (spk (w ^ (d - k))))), .no, .no, .no, .no] = .ok (.ol (U.flatMap fun j => (kd w d k j).map (spk (w ^ (d - (k + 1))))), [.fz (tre w d z b), .fz (row P), .fz (row Q), .fz (.list (S.map (spk (w ^ (d - k))))), .ol ((fX w d (bsF w d z b P Q) (k + 1)).map intM), .fz (intM (sumT (fun k => (lv w (bsF w d z b P Q) k).length) (k + 1))), .fz (.list (U.map (spk (w ^ (d - k))))), .no, .no, .no, .no]) := comp2_dep (u := spk (w ^ (d - k))) (v := fun _ e => spk (w ^ (d - (k + 1))) e) (B := w) (es := kd w d k) (fun _ e => spk (w ^ (d - (k + 1))) e) (by simp_arith []) (by decide) rfl rfl (kd_len w d k) (fun j hj => by
      simp_arith [retR_gv (parts_k (z := z) (b := b) hw w2 h64 hk (jU j hj))]) (fun j _ e _ => by
      unfold ce_compare_3
      simp_arith []) (by
        have : U.length * w ≤ 64 * 100 := Nat.mul_le_mul Ul (by omega)
        omega)
  simp_arith [ha, c2]
  rw [← List.map_flatMap, e1]
  rfl
theorem cmp_while (hw : w < 100) (w2 : 2 ≤ w) (h64 : w ^ d ≤ 64) (hP : P.length ≤ 1000) (hQ : Q.length ≤ 1000) (z0 : 0 < z) (b0 : 0 ≤ b) (b1 : b < 1000000000000) : ∀ (r k : Nat) (o : Nat → En) (f : Nat), k + r = d + 1 → r + 1 ≤ f → Nb o →
    ∃ o', Nb o' ∧ whF ct_compare lb_compare f (cE w d z b P Q (bsF w d z b P Q) k o) = .ok (.nx, cE w d z b P Q (bsF w d z b P Q) (d + 1) o') := by
  intro r
  induction r with
  | zero =>
    intro k o f hk hf no
    obtain ⟨f, rfl⟩ : ∃ g, f = g + 1 := ⟨f - 1, by omega⟩
    refine ⟨o, no, ?_⟩
    have ek : k = d + 1 := by omega
    rw [ek]
    have nl : lvX w d (bsF w d z b P Q) (d + 1) = [] := by unfold lvX; rw [if_neg (by omega)]
    have c : ct_compare (cE w d z b P Q (bsF w d z b P Q) (d + 1) o) = .ok (false, cE w d z b P Q (bsF w d z b P Q) (d + 1) o) := by
      unfold ct_compare cE
      rw [nl]
      simp_arith []
      rfl
    rw [whF]
    simp only [c]
  | succ r ih =>
    intro k o f hk hf no
    obtain ⟨f, rfl⟩ : ∃ g, f = g + 1 := ⟨f - 1, by omega⟩
    by_cases nl : lvX w d (bsF w d z b P Q) k = []
    · obtain ⟨a1, a2, a3, _⟩ := lv_end (by omega) nl
      refine ⟨o, no, ?_⟩
      have c : ct_compare (cE w d z b P Q (bsF w d z b P Q) k o) = .ok (false, cE w d z b P Q (bsF w d z b P Q) k o) := by
        unfold ct_compare cE
        rw [nl]
        simp_arith []
        rfl
      rw [whF]
      simp only [c]
      unfold cE
      rw [a1, a3, nl, a2]
      rfl
    · obtain ⟨o1, no1, q⟩ := cmp_step hw w2 h64 hP hQ z0 b0 b1 (k := k) (by omega) o no
      obtain ⟨o2, no2, q2⟩ := ih (k + 1) o1 f (by omega) (by omega) no1
      refine ⟨o2, no2, ?_⟩
      have c : ct_compare (cE w d z b P Q (bsF w d z b P Q) k o) = .ok (true, cE w d z b P Q (bsF w d z b P Q) k o) := by
        unfold ct_compare cE
        have g : gtD (.int (((lvX w d (bsF w d z b P Q) k).map (spk (w ^ (d - k)))).length : Int)) (.int 0) = some (.fz (.bool true)) := by
          have := List.length_pos_iff.mpr nl
          rw [n_gtI, List.length_map, decide_eq_true (by omega)]
        simp_arith [g]
      rw [whF]
      simp only [c, q]
      exact q2
theorem fnd_sorted (bf : Nat → Nat → Bool) : (fnd w d bf).Pairwise (· < ·) := by
  rw [fnd_eq]
  exact List.Pairwise.filter _ (List.pairwise_lt_range)
theorem sort_asc {ms : List Nat} (h : ms.Pairwise (· < ·)) (hl : ms.length < 64) : sort2D [.list (ms.map intM)] = some (.ol (ms.map intM)) := by
  obtain ⟨ks, kp, kw, ke⟩ := sortN hl
  have kn : ks.Pairwise (· < ·) := by
    have nd : ms.Nodup := h.imp fun h => Nat.ne_of_lt h
    exact (kw.and (kp.nodup_iff.mpr nd)).imp fun ⟨h1, h2⟩ => Nat.lt_of_le_of_ne h1 h2
  have e : ks = ms := kp.eq_of_pairwise (fun a b _ _ h1 h2 => absurd h1 (by omega)) kn h
  rw [e] at ke
  exact ke
end
end K80

/-! KE80: compare and the least proof, whole. -/
namespace K80
open PySem PySem.Spec L2 Gx M10 Sh
open PyProof.Rows hiding St
local macro_rules
  | `(tactic| simp_arith [$as,*] $[$l]?) => `(tactic| simp (disch := first | omega | (simp only [List.length_cons, List.length_nil, List.length_append, List.length_map, List.length_range, List.length_take, List.length_replicate]; omega)) only [dn_comp, rbOf_rt, dn_popAt, popR_ok, popK_0, q_beq1, q_beq2, q_beq3, q_beq4, q_beq5, q_beq6, q_beq7, q_beq8, dn_R1, dn_chain, chR_ok, rvd_fz, rvd_ol, boolOf_b, dn_orE, orER_b, orER_l, dn_sl, dn_on, dn_off, intOf_i, slice_l, slice_t, r_addL, r_addT, r_ixT, r_ixL, opt_map, atI_0, atI_1, atI_2, atI_3, atI_4, atI_5, arP_t, arP_f, List.getD_cons_zero, List.getD_cons_succ, dn_arP, dn_app, dn_arD, dn_bnd, bndR_ok, bndR_ex, dn_lft, dn_ret, dn_dC, dn_seq, seqR_nx, seqR_rt, seqR_bk, seqR_ct, seqR_ex, dn_nx, dn_call, callR_ok, dn_bin, binR_ok, dn_cmpT, boolR_ok, dn_tru, truR_b, truR_i, truR_n, truR_l, truR_t, dn_notT, dn_not, dn_andT, dn_orT, iteR_t, iteR_f, dn_sIf, dn_dIf, dn_and, dn_orD, andR_b, orR_b, dn_sRet, rtR_ok, dn_sDrop, dn_frz, frzR_fz, frzR_ol, dn_ofD, ofR_ok, ofR_ex, frzR_ex, rtR_ex, dn_sSet, dn_put, ifB_t, ifB_f, rven_fz, rven_ol, isBl_no, isBl_fz, isBl_ol, isBl_ow, dn_name, nameR_fz, nameR_ol, dn_move, moveR_fz, moveR_ol, dn_lenP, lenR_some, dn_peek, peekR_ok, itemR_some, seqE_ol, seqE_bl, seqE_t, seqE_l, seqE_sl, seqE_st, dn_item, itmR_at, dn_nil, dn_cons, consR_ok, consK_ok, dn_tup, dn_lst, dn_un, dn_anil, dn_acons, aconsR_fz, aconsR_ol, aconsK_ok, dn_alend, lendR_ol, lendR_bl, lendR_sc, lent_nil, lent_fz, lent_tp, lent_sc, lent_sl, lentS_n, lentB_n, lentB_s, dn_fn, dn_apply, applyR_some, ar_fz, ar_tp, ar_sc, ar_sl, dn_enSl_ol, dn_enSl_bl, retR_ok, retR_sl, putR_ol, putR_bl, dn_sFor, dn_iSeq, seqOf_l, seqOf_t, dn_iRg1, dn_iRg2, dn_iZp, dn_iZ3, dn_iEnB, dn_sAsg, dn_sApp, ownOf_ol, ownOf_bl, appR_ok, updR_ol, updR_bl, updK_ol, updK_bl, appD_ok, dn_sSetIx, dn_setx, setIxD_eq, dn_sParA, dn_parA, parR_ok, dn_sParX, dn_parX, parXR_ok, rvA_fz, rvA_tp, dn_sPar, nmR_some, nmAll_nil, nmAll_cons, dn_hName, dn_hTup, dn_hNil, dn_hCons, arP_t, arP_f, List.getD_cons_zero, List.getD_cons_succ, dn_arP, dn_app, dn_arD, rtOf_rt, rtOf_nx, cond_true, cond_false, List.getElem?_cons_zero, List.getElem?_cons_succ, List.set_cons_zero, List.set_cons_succ, List.map_cons, List.map_nil, Option.isSome_some, Option.bind_some, Nat.beq_eq_true_eq, List.cons_append, List.nil_append, List.append_nil, List.length_cons, List.length_nil, Nat.reduceSub, Nat.reduceAdd, List.replicate_succ, List.replicate_zero, if_true, Nat.reduceLeDiff, okLen_dn, Bool.not_true, Bool.not_false, Bool.false_eq_true, if_false, dn_newD, rven_od, rvd_od, isBl_od, frzR_od, nameR_od, moveR_od, aconsR_od, rvA_td, ar_td, lent_td, lendR_od, lendR_bd, enSl_od, enSl_bd, putR_od, putR_bd, dicE_od, dicE_bd, dicE_fz, ownD_od, ownD_bd, dn_dk, dkK_some, lkR_some, dn_inD, dn_inT, inK_some, inR_f, inR_t, dn_get1, dn_get2, getK_some, getR_s, getR_n, dn_lenD, lenDR_some, dn_updD, updDR_od, updDR_bd, updDK_od, updDK_bd, dn_putdR, dn_putD, dn_delD, dn_setdD, dn_callK, dn_sUpd, Option.isSome_none, n_addI, n_subI, n_ltI, n_gtI, n_leI, n_geI, n_negI, n_eqI, n_neI, n_lenL, n_lenT, n_tupL, n_tupT, n_lstL, n_lstT, n_isN_n, isi_non, isi2_non, isa_non_non, isa_non_bl, isa_non_int, isa_non_str, isa_non_lst, isa_non_tup, isn_non, isnn_non, isi_bl, isi2_bl, isa_bl_non, isa_bl_bl, isa_bl_int, isa_bl_str, isa_bl_lst, isa_bl_tup, isn_bl, isnn_bl, isi_int, isi2_int, isa_int_non, isa_int_bl, isa_int_int, isa_int_str, isa_int_lst, isa_int_tup, isn_int, isnn_int, isi_str, isi2_str, isa_str_non, isa_str_bl, isa_str_int, isa_str_str, isa_str_lst, isa_str_tup, isn_str, isnn_str, isi_lst, isi2_lst, isa_lst_non, isa_lst_bl, isa_lst_int, isa_lst_str, isa_lst_lst, isa_lst_tup, isn_lst, isnn_lst, isi_tup, isi2_tup, isa_tup_non, isa_tup_bl, isa_tup_int, isa_tup_str, isa_tup_lst, isa_tup_tup, isn_tup, isnn_tup, Bool.or_true, Bool.or_false, Bool.true_or, Bool.false_or, Bool.or_self, bq_tt, bq_tf, bq_ft, bq_ff, bn_tt, bn_tf, bn_ft, bn_ff, $as,*] $[$l]?)
section
variable {w d : Nat} {z b : Int} {P Q : List (Nat × Nat)} {bf : Nat → Nat → Bool} {A B C : PyData}
def cmpD (f : List Nat) (n : Nat) : PyData := .tuple [.tuple (f.map intM), intM n]
theorem cE_0 (z b : Int) (P Q : List (Nat × Nat)) (bf : Nat → Nat → Bool) : cE w d z b P Q bf 0 f0 = [.fz (tre w d z b), .fz (row P), .fz (row Q), .ol [.tuple [.int 0, intM (w ^ d)]], .ol [], .fz (.int 0), .no, .no, .no, .no, .no] := by
  unfold cE lvX fX spk sp
  rw [if_pos (Nat.zero_le d), if_pos (Nat.zero_le d)]
  simp [lv, f0, sumT, intM]
theorem cE_1 (z b : Int) (P Q : List (Nat × Nat)) (bf : Nat → Nat → Bool) (o : Nat → En) : cE w d z b P Q bf (d + 1) o = [.fz (tre w d z b), .fz (row P), .fz (row Q), .ol [], .ol ((fnd w d bf).map intM), .fz (intM (sumT (fun k => (lv w bf k).length) (d + 1))), o 0, .no, .no, .no, .no] := by
  unfold cE lvX fX
  rw [if_neg (by omega), if_neg (by omega)]
  rfl
theorem compare_ev (hA : Gv (den_frozen 8) [.fz A] (.fz (tre w d z b))) (hB : Gv (den_frozen 8) [.fz B] (.fz (row P))) (hC : Gv (den_frozen 8) [.fz C] (.fz (row Q))) (hw : w < 100) (w2 : 2 ≤ w) (hd : d ≤ 60) (h64 : w ^ d ≤ 64) (hP : P.length ≤ 1000) (hQ : Q.length ≤ 1000) (z0 : 0 < z) (b0 : 0 ≤ b) (b1 : b < 1000000000000) (hf : (fnd w d (bsF w d z b P Q)).length < 64) :
    Gv den_compare [.fz A, .fz B, .fz C] (.fz (cmpD (fnd w d (bsF w d z b P Q)) (sumT (fun k => (lv w (bsF w d z b P Q) k).length) (d + 1)))) := by
  obtain ⟨o', no', q⟩ := cmp_while hw w2 h64 hP hQ z0 b0 b1 (d + 1) 0 f0 70 (by omega) (by omega) nb0
  rw [cE_0, cE_1] at q
  have so := sort_asc (fnd_sorted (w := w) (d := d) (bsF w d z b P Q)) hf
  refine gv_rt ?_
  unfold b_compare
  simp only [List.cons_append, List.nil_append, Nat.reduceSub, List.replicate_succ, List.replicate_zero]
  simp_arith [retR_gv hA, retR_gv hB, retR_gv hC, retR_gv (pts_ev (w := w) (d := d) (z := z) (b := b) hw (by omega)), q, so]
  rfl
/-! ### the least proof -/
def lE (w d : Nat) (z b : Int) (P Q : List (Nat × Nat)) (k : Nat) (o : Nat → En) : Ev := [.fz (tre w d z b), .fz (row P), .fz (row Q), .fz (intM (sumT (lpF w d (bpF w d P Q)) k)), .ol ((lvX w d (bpF w d P Q) k).map (spk (w ^ (d - k)))), o 0, o 1, .no, .no]
theorem lp_step (hw : w < 100) (w2 : 2 ≤ w) (h64 : w ^ d ≤ 64) (hP : P.length ≤ 1000) (hQ : Q.length ≤ 1000) {k : Nat} (hk : k ≤ d) (o : Nat → En) (no : Nb o) :
    ∃ o', Nb o' ∧ lb_least_proof (lE w d z b P Q k o) = .ok (.nx, lE w d z b P Q (k + 1) o') := by
  have S64 := lvX_len (bf := bpF w d P Q) (k := k) (by omega : 1 ≤ w) h64
  have jb : ∀ j ∈ lvX w d (bpF w d P Q) k, j < 100000 := fun j hj => by
    have := (lvX_lt hj).2
    have := pow_lt' (by omega : 1 ≤ w) h64 hk
    omega
  have s1 := sz_1 w2 hk (d := d)
  have e1 := lvX_s (bf := bpF w d P Q) (w := w) hk
  have e3 : sumT (lpF w d (bpF w d P Q)) k + ((lvX w d (bpF w d P Q) k).length - ((lvX w d (bpF w d P Q) k).filter (bpF w d P Q k)).length + (((lvX w d (bpF w d P Q) k).filter (bpF w d P Q k)).filter fun _ => decide (k = d)).length) = sumT (lpF w d (bpF w d P Q)) (k + 1) := by
    show _ = sumT (lpF w d (bpF w d P Q)) k + lpF w d (bpF w d P Q) k
    unfold lvX lpF
    rw [if_pos hk]
    by_cases h : k = d
    · rw [if_pos h, decide_eq_true h, List.filter_eq_self.mpr fun _ _ => rfl]
    · rw [if_neg h, decide_eq_false h, (List.filter_eq_nil_iff (p := fun _ => false)).mpr fun _ _ => by simp]
      rfl
  unfold lE
  generalize hS : lvX w d (bpF w d P Q) k = S at *
  have UleS : (S.filter (bpF w d P Q k)).length ≤ S.length := List.length_filter_le _ _
  generalize hU : S.filter (bpF w d P Q k) = U at *
  have Ul : U.length ≤ 64 := by omega
  have jU : ∀ j ∈ U, j < 100000 := fun j hj => jb j (by rw [← hU] at hj; exact (List.mem_filter.mp hj).1)
  refine ⟨f2 (.fz (.list (U.map (spk (w ^ (d - k)))))) (.ol ((U.filter fun _ => decide (k = d)).map (spk (w ^ (d - k))))), nb2 rfl rfl, ?_⟩
  unfold lb_least_proof
  simp_arith []
  rw [comp_p (u := spk (w ^ (d - k))) (p := bpF w d P Q k) (g := spk (w ^ (d - k))) rfl (fun j hj => by
    unfold ct_least_proof_2 spk
    simp_arith [retR_gv (pairs_ev hP (j * w ^ (d - k)) (j * w ^ (d - k) + w ^ (d - k))), retR_gv (pairs_ev hQ (j * w ^ (d - k)) (j * w ^ (d - k) + w ^ (d - k))), ne_prs]
    rfl) (fun j _ _ => by
    unfold ce_least_proof
    simp_arith []) (by omega), hU]
  simp_arith [no 0]
  rw [comp_p (u := spk (w ^ (d - k))) (p := fun _ => decide (k = d)) (g := spk (w ^ (d - k))) rfl (fun j hj => by
    unfold ct_least_proof_3
    have sq : seqE (some (.fz (spk (w ^ (d - k)) j))) = some [intM (j * w ^ (d - k)), intM (j * w ^ (d - k) + w ^ (d - k))] := rfl
    simp_arith [sq, subM (show j * w ^ (d - k) ≤ j * w ^ (d - k) + w ^ (d - k) by omega), eqM1]
    rw [show j * w ^ (d - k) + w ^ (d - k) - j * w ^ (d - k) = w ^ (d - k) by omega, s1]) (fun j _ _ => by
    unfold ce_least_proof_2
    simp_arith []) (by omega)]
  generalize hF : (U.filter fun _ => decide (k = d)) = F at *
  have a1 : addD (intM (sumT (lpF w d (bpF w d P Q)) k)) (.int ((S.map (spk (w ^ (d - k)))).length : Int)) = some (.fz (intM (sumT (lpF w d (bpF w d P Q)) k + S.length))) := by
    rw [List.length_map, show (PyData.int (S.length : Int)) = intM S.length from rfl, addM]
  have a2 : subD (intM (sumT (lpF w d (bpF w d P Q)) k + S.length)) (.int ((U.map (spk (w ^ (d - k)))).length : Int)) = some (.fz (intM (sumT (lpF w d (bpF w d P Q)) k + S.length - U.length))) := by
    rw [List.length_map, show (PyData.int (U.length : Int)) = intM U.length from rfl, subM (by omega)]
  have a3 : addD (intM (sumT (lpF w d (bpF w d P Q)) k + S.length - U.length)) (.int ((F.map (spk (w ^ (d - k)))).length : Int)) = some (.fz (intM (sumT (lpF w d (bpF w d P Q)) (k + 1)))) := by
    rw [List.length_map, show (PyData.int (F.length : Int)) = intM F.length from rfl, addM, ← e3]
    rw [show sumT (lpF w d (bpF w d P Q)) k + S.length - U.length + F.length = sumT (lpF w d (bpF w d P Q)) k + (S.length - U.length + F.length) by omega]
  have c2 : ∀ D : PyData, dComp2 (iSeq (dName 5)) (hName 7) yesT (iSeq (frz (dFn (den_parts_of) (aCons (ofD (dName 0)) (aCons (ofD (dName 7)) aNil))))) (hName 8) yesT ce_least_proof_3 [7, 8] [8] [.fz (tre w d z b), .fz (row P), .fz (row Q), .fz (intM (sumT (lpF w d (bpF w d P Q)) (k + 1))), .fz D, .fz (.list (U.map (spk (w ^ (d - k))))), .ol (F.map (spk (w ^ (d - k)))), .no, .no] = .ok (.ol (U.flatMap fun j => (kd w d k j).map (spk (w ^ (d - (k + 1))))), [.fz (tre w d z b), .fz (row P), .fz (row Q), .fz (intM (sumT (lpF w d (bpF w d P Q)) (k + 1))), .fz D, .fz (.list (U.map (spk (w ^ (d - k))))), .ol (F.map (spk (w ^ (d - k)))), .no, .no]) := fun D => comp2_dep (u := spk (w ^ (d - k))) (v := fun _ e => spk (w ^ (d - (k + 1))) e) (B := w) (es := kd w d k) (fun _ e => spk (w ^ (d - (k + 1))) e) (by simp_arith []) (by decide) rfl rfl (kd_len w d k) (fun j hj => by
      simp_arith [retR_gv (parts_k (z := z) (b := b) hw w2 h64 hk (jU j hj))]) (fun j _ e _ => by
      unfold ce_least_proof_3
      simp_arith []) (by
        have : U.length * w ≤ 64 * 100 := Nat.mul_le_mul Ul (by omega)
        omega)
  simp_arith [no 1, a1, a2, a3, c2]
  rw [← List.map_flatMap, e1]
  rfl
theorem lp_while (hw : w < 100) (w2 : 2 ≤ w) (h64 : w ^ d ≤ 64) (hP : P.length ≤ 1000) (hQ : Q.length ≤ 1000) : ∀ (r k : Nat) (o : Nat → En) (f : Nat), k + r = d + 1 → r + 1 ≤ f → Nb o →
    ∃ o', Nb o' ∧ whF ct_least_proof lb_least_proof f (lE w d z b P Q k o) = .ok (.nx, lE w d z b P Q (d + 1) o') := by
  intro r
  induction r with
  | zero =>
    intro k o f hk hf no
    obtain ⟨f, rfl⟩ : ∃ g, f = g + 1 := ⟨f - 1, by omega⟩
    refine ⟨o, no, ?_⟩
    have ek : k = d + 1 := by omega
    rw [ek]
    have nl : lvX w d (bpF w d P Q) (d + 1) = [] := by unfold lvX; rw [if_neg (by omega)]
    have c : ct_least_proof (lE w d z b P Q (d + 1) o) = .ok (false, lE w d z b P Q (d + 1) o) := by
      unfold ct_least_proof lE
      rw [nl]
      simp_arith []
      rfl
    rw [whF]
    simp only [c]
  | succ r ih =>
    intro k o f hk hf no
    obtain ⟨f, rfl⟩ : ∃ g, f = g + 1 := ⟨f - 1, by omega⟩
    by_cases nl : lvX w d (bpF w d P Q) k = []
    · obtain ⟨a1, a2, _, a4⟩ := lv_end (by omega) nl
      refine ⟨o, no, ?_⟩
      have c : ct_least_proof (lE w d z b P Q k o) = .ok (false, lE w d z b P Q k o) := by
        unfold ct_least_proof lE
        rw [nl]
        simp_arith []
        rfl
      rw [whF]
      simp only [c]
      unfold lE
      rw [a4, nl, a2]
      rfl
    · obtain ⟨o1, no1, q⟩ := lp_step (z := z) (b := b) hw w2 h64 hP hQ (k := k) (by omega) o no
      obtain ⟨o2, no2, q2⟩ := ih (k + 1) o1 f (by omega) (by omega) no1
      refine ⟨o2, no2, ?_⟩
      have c : ct_least_proof (lE w d z b P Q k o) = .ok (true, lE w d z b P Q k o) := by
        unfold ct_least_proof lE
        have g : gtD (.int (((lvX w d (bpF w d P Q) k).map (spk (w ^ (d - k)))).length : Int)) (.int 0) = some (.fz (.bool true)) := by
          have := List.length_pos_iff.mpr nl
          rw [n_gtI, List.length_map, decide_eq_true (by omega)]
        simp_arith [g]
      rw [whF]
      simp only [c, q]
      exact q2
theorem lE_0 (z b : Int) (P Q : List (Nat × Nat)) : lE w d z b P Q 0 f0 = [.fz (tre w d z b), .fz (row P), .fz (row Q), .fz (.int 0), .ol [.tuple [.int 0, intM (w ^ d)]], .no, .no, .no, .no] := by
  unfold lE lvX spk sp
  rw [if_pos (Nat.zero_le d)]
  simp [lv, f0, sumT, intM]
theorem least_ev (hA : Gv (den_frozen 8) [.fz A] (.fz (tre w d z b))) (hB : Gv (den_frozen 8) [.fz B] (.fz (row P))) (hC : Gv (den_frozen 8) [.fz C] (.fz (row Q))) (hw : w < 100) (w2 : 2 ≤ w) (hd : d ≤ 60) (h64 : w ^ d ≤ 64) (hP : P.length ≤ 1000) (hQ : Q.length ≤ 1000) :
    Gv den_least_proof [.fz A, .fz B, .fz C] (.fz (intM (sumT (lpF w d (bpF w d P Q)) (d + 1)))) := by
  obtain ⟨o', no', q⟩ := lp_while (z := z) (b := b) hw w2 h64 hP hQ (d + 1) 0 f0 70 (by omega) (by omega) nb0
  rw [lE_0] at q
  unfold lE at q
  refine gv_rt ?_
  unfold b_least_proof
  simp only [List.cons_append, List.nil_append, Nat.reduceSub, List.replicate_succ, List.replicate_zero]
  simp_arith [retR_gv hA, retR_gv hB, retR_gv hC, retR_gv (pts_ev (w := w) (d := d) (z := z) (b := b) hw (by omega)), q]
end
end K80

/-! KF80: the law's table. -/
namespace K80
open PySem PySem.Spec L2 Gx M10 Sh
open PyProof.Rows hiding St
local macro_rules
  | `(tactic| simp_arith [$as,*] $[$l]?) => `(tactic| simp (disch := first | omega | (simp only [List.length_cons, List.length_nil, List.length_append, List.length_map, List.length_range, List.length_take, List.length_replicate]; omega)) only [dn_comp, rbOf_rt, dn_popAt, popR_ok, popK_0, q_beq1, q_beq2, q_beq3, q_beq4, q_beq5, q_beq6, q_beq7, q_beq8, dn_R1, dn_chain, chR_ok, rvd_fz, rvd_ol, boolOf_b, dn_orE, orER_b, orER_l, dn_sl, dn_on, dn_off, intOf_i, slice_l, slice_t, r_addL, r_addT, r_ixT, r_ixL, opt_map, atI_0, atI_1, atI_2, atI_3, atI_4, atI_5, arP_t, arP_f, List.getD_cons_zero, List.getD_cons_succ, dn_arP, dn_app, dn_arD, dn_bnd, bndR_ok, bndR_ex, dn_lft, dn_ret, dn_dC, dn_seq, seqR_nx, seqR_rt, seqR_bk, seqR_ct, seqR_ex, dn_nx, dn_call, callR_ok, dn_bin, binR_ok, dn_cmpT, boolR_ok, dn_tru, truR_b, truR_i, truR_n, truR_l, truR_t, dn_notT, dn_not, dn_andT, dn_orT, iteR_t, iteR_f, dn_sIf, dn_dIf, dn_and, dn_orD, andR_b, orR_b, dn_sRet, rtR_ok, dn_sDrop, dn_frz, frzR_fz, frzR_ol, dn_ofD, ofR_ok, ofR_ex, frzR_ex, rtR_ex, dn_sSet, dn_put, ifB_t, ifB_f, rven_fz, rven_ol, isBl_no, isBl_fz, isBl_ol, isBl_ow, dn_name, nameR_fz, nameR_ol, dn_move, moveR_fz, moveR_ol, dn_lenP, lenR_some, dn_peek, peekR_ok, itemR_some, seqE_ol, seqE_bl, seqE_t, seqE_l, seqE_sl, seqE_st, dn_item, itmR_at, dn_nil, dn_cons, consR_ok, consK_ok, dn_tup, dn_lst, dn_un, dn_anil, dn_acons, aconsR_fz, aconsR_ol, aconsK_ok, dn_alend, lendR_ol, lendR_bl, lendR_sc, lent_nil, lent_fz, lent_tp, lent_sc, lent_sl, lentS_n, lentB_n, lentB_s, dn_fn, dn_apply, applyR_some, ar_fz, ar_tp, ar_sc, ar_sl, dn_enSl_ol, dn_enSl_bl, retR_ok, retR_sl, putR_ol, putR_bl, dn_sFor, dn_iSeq, seqOf_l, seqOf_t, dn_iRg1, dn_iRg2, dn_iZp, dn_iZ3, dn_iEnB, dn_sAsg, dn_sApp, ownOf_ol, ownOf_bl, appR_ok, updR_ol, updR_bl, updK_ol, updK_bl, appD_ok, dn_sSetIx, dn_setx, setIxD_eq, dn_sParA, dn_parA, parR_ok, dn_sParX, dn_parX, parXR_ok, rvA_fz, rvA_tp, dn_sPar, nmR_some, nmAll_nil, nmAll_cons, dn_hName, dn_hTup, dn_hNil, dn_hCons, arP_t, arP_f, List.getD_cons_zero, List.getD_cons_succ, dn_arP, dn_app, dn_arD, rtOf_rt, rtOf_nx, cond_true, cond_false, List.getElem?_cons_zero, List.getElem?_cons_succ, List.set_cons_zero, List.set_cons_succ, List.map_cons, List.map_nil, Option.isSome_some, Option.bind_some, Nat.beq_eq_true_eq, List.cons_append, List.nil_append, List.append_nil, List.length_cons, List.length_nil, Nat.reduceSub, Nat.reduceAdd, List.replicate_succ, List.replicate_zero, if_true, Nat.reduceLeDiff, okLen_dn, Bool.not_true, Bool.not_false, Bool.false_eq_true, if_false, dn_newD, rven_od, rvd_od, isBl_od, frzR_od, nameR_od, moveR_od, aconsR_od, rvA_td, ar_td, lent_td, lendR_od, lendR_bd, enSl_od, enSl_bd, putR_od, putR_bd, dicE_od, dicE_bd, dicE_fz, ownD_od, ownD_bd, dn_dk, dkK_some, lkR_some, dn_inD, dn_inT, inK_some, inR_f, inR_t, dn_get1, dn_get2, getK_some, getR_s, getR_n, dn_lenD, lenDR_some, dn_updD, updDR_od, updDR_bd, updDK_od, updDK_bd, dn_putdR, dn_putD, dn_delD, dn_setdD, dn_callK, dn_sUpd, Option.isSome_none, n_addI, n_subI, n_ltI, n_gtI, n_leI, n_geI, n_negI, n_eqI, n_neI, n_lenL, n_lenT, n_tupL, n_tupT, n_lstL, n_lstT, n_isN_n, isi_non, isi2_non, isa_non_non, isa_non_bl, isa_non_int, isa_non_str, isa_non_lst, isa_non_tup, isn_non, isnn_non, isi_bl, isi2_bl, isa_bl_non, isa_bl_bl, isa_bl_int, isa_bl_str, isa_bl_lst, isa_bl_tup, isn_bl, isnn_bl, isi_int, isi2_int, isa_int_non, isa_int_bl, isa_int_int, isa_int_str, isa_int_lst, isa_int_tup, isn_int, isnn_int, isi_str, isi2_str, isa_str_non, isa_str_bl, isa_str_int, isa_str_str, isa_str_lst, isa_str_tup, isn_str, isnn_str, isi_lst, isi2_lst, isa_lst_non, isa_lst_bl, isa_lst_int, isa_lst_str, isa_lst_lst, isa_lst_tup, isn_lst, isnn_lst, isi_tup, isi2_tup, isa_tup_non, isa_tup_bl, isa_tup_int, isa_tup_str, isa_tup_lst, isa_tup_tup, isn_tup, isnn_tup, Bool.or_true, Bool.or_false, Bool.true_or, Bool.false_or, Bool.or_self, bq_tt, bq_tf, bq_ft, bq_ff, bn_tt, bn_tf, bn_ft, bn_ff, $as,*] $[$l]?)
section
variable {w d : Nat} {z b : Int} {P Q : List (Nat × Nat)} {bs bp : Nat → Nat → Bool}
theorem lpowM {k : Nat} (hw : w < 100) (hk : k < 1000) : Gv den_law_power [.fz (intM w), .fz (intM k)] (.fz (intM (w ^ k))) := by
  have e := lpow_ev (f := (w : Int)) (k := k) (by omega) (by omega) hk
  rw [← Int.natCast_pow] at e
  exact e
def cel (bs bp : Nat → Nat → Bool) (k j : Nat) : PyData := .tuple [.bool (bs k j), .bool (bp k j)]
def rowT (w : Nat) (bs bp : Nat → Nat → Bool) (k : Nat) : PyData := .list ((List.range (w ^ k)).map (cel bs bp k))
def tabD (w d : Nat) (bs bp : Nat → Nat → Bool) : PyData := .list ((List.range (d + 1)).map (rowT w bs bp))
theorem tab_in (hw : w < 100) (hP : P.length ≤ 500) (hQ : Q.length ≤ 500) (pP : ∀ x ∈ P, x.1 < 5000 ∧ x.2 < 5000) (pQ : ∀ x ∈ Q, x.1 < 5000 ∧ x.2 < 5000) (z0 : 0 < z) (b0 : 0 ≤ b) (b1 : b < 1000000000000) {W k : Nat} {F : List PyData} (sb : w ^ (d - k) < 1000) (hk : w ^ k ≤ 1000) (o : Nat → En) (no : Nb o) :
    ∃ o', Nb o' ∧ loopF (hName 7) lb_table ((List.range (w ^ k)).map intM) [.fz (tre w d z b), .fz (row P), .fz (row Q), .fz (intM k), .ol F, .fz (intM W), .fz (intM (w ^ (d - k))), o 0, .fz (intM (w ^ k)), .ol [], o 1, o 2, o 3, o 4, o 5, .no] =
      .ok (.nx, [.fz (tre w d z b), .fz (row P), .fz (row Q), .fz (intM k), .ol F, .fz (intM W), .fz (intM (w ^ (d - k))), o' 0, .fz (intM (w ^ k)), .ol ((List.range (w ^ k)).map (cel (bsF w d z b P Q) (bpF w d P Q) k)), o' 1, o' 2, o' 3, o' 4, o' 5, .no]) := by
  obtain ⟨o', no', q⟩ := loop_w (u := intM) (tg := hName 7) (fb := lb_table) (List.range (w ^ k)) (fun n o => [.fz (tre w d z b), .fz (row P), .fz (row Q), .fz (intM k), .ol F, .fz (intM W), .fz (intM (w ^ (d - k))), o 0, .fz (intM (w ^ k)), .ol ((List.range n).map (cel (bsF w d z b P Q) (bpF w d P Q) k)), o 1, o 2, o 3, o 4, o 5, .no]) (fun n x o hx no => by
    obtain ⟨hn, rfl⟩ := rng_get hx
    have sfP : seqOf (row P) = some (P.map pr) := rfl
    have sfQ : seqOf (row Q) = some (Q.map pr) := rfl
    have m1 : mulD (intM x) (intM (w ^ (d - k))) = some (.fz (intM (x * w ^ (d - k)))) := mulM (by omega)
    have sqp : ∀ y : Nat × Nat, seqE (some (.fz (pr y))) = some [intM y.1, intM y.2] := fun _ => rfl
    refine ⟨_, f6 (.fz (intM x)) (.fz (.list ((sel (x * w ^ (d - k)) (x * w ^ (d - k) + w ^ (d - k)) P).map pr))) (.fz (.list ((sel (x * w ^ (d - k)) (x * w ^ (d - k) + w ^ (d - k)) Q).map pr))) (.fz (.bool (bsF w d z b P Q k x))) (.fz (intM (x * w ^ (d - k)))) (.fz (intM (x * w ^ (d - k) + w ^ (d - k)))), nb6 rfl rfl rfl rfl rfl rfl, tg_name (no 0), ?_⟩
    unfold lb_table
    simp_arith [m1, addM, no 4, no 5, no 1, sfP]
    rw [comp_p (u := pr) (p := fun y : Nat × Nat => decide (x * w ^ (d - k) ≤ y.1) && decide (y.1 < x * w ^ (d - k) + w ^ (d - k))) (g := pr) rfl (fun y hy => by
      unfold ct_table
      cases h : decide (x * w ^ (d - k) ≤ y.1) <;> simp_arith [sqp, leM, ltM, h] <;> rfl) (fun y hy _ => by
      unfold ce_table
      simp_arith []) (by omega)]
    simp_arith [no 1, no 2, sfQ]
    rw [comp_p (u := pr) (p := fun y : Nat × Nat => decide (x * w ^ (d - k) ≤ y.1) && decide (y.1 < x * w ^ (d - k) + w ^ (d - k))) (g := pr) rfl (fun y hy => by
      unfold ct_table_2
      cases h : decide (x * w ^ (d - k) ≤ y.1) <;> simp_arith [sqp, leM, ltM, h] <;> rfl) (fun y hy _ => by
      unfold ce_table_2
      simp_arith []) (by omega)]
    have e1 : P.filter (fun y : Nat × Nat => decide (x * w ^ (d - k) ≤ y.1) && decide (y.1 < x * w ^ (d - k) + w ^ (d - k))) = sel (x * w ^ (d - k)) (x * w ^ (d - k) + w ^ (d - k)) P := rfl
    have e2 : Q.filter (fun y : Nat × Nat => decide (x * w ^ (d - k) ≤ y.1) && decide (y.1 < x * w ^ (d - k) + w ^ (d - k))) = sel (x * w ^ (d - k)) (x * w ^ (d - k) + w ^ (d - k)) Q := rfl
    rw [e1, e2]
    have ok : ((List.range x).map (cel (bsF w d z b P Q) (bpF w d P Q) k)).length + 1 ≤ 16777216 := by rw [List.length_map, List.length_range]; omega
    simp_arith [no 2, no 3, retR_gv (total_ev (w := w) (d := d) (a := x * w ^ (d - k)) (c := x * w ^ (d - k) + w ^ (d - k)) hP pP z0 b0 b1), retR_gv (total_ev (w := w) (d := d) (a := x * w ^ (d - k)) (c := x * w ^ (d - k) + w ^ (d - k)) hQ pQ z0 b0 b1), ne_sm, ne_prs]
    rw [List.range_succ, List.map_append]
    rfl) o no
  simp only [List.length_range] at q
  exact ⟨o', no', q⟩
theorem table_ev (hw : w < 100) (w2 : 2 ≤ w) (hd : d ≤ 60) (h64 : w ^ d ≤ 64) (hP : P.length ≤ 500) (hQ : Q.length ≤ 500) (pP : ∀ x ∈ P, x.1 < 5000 ∧ x.2 < 5000) (pQ : ∀ x ∈ Q, x.1 < 5000 ∧ x.2 < 5000) (z0 : 0 < z) (b0 : 0 ≤ b) (b1 : b < 1000000000000) :
    Gv den_table [.fz (tre w d z b), .fz (row P), .fz (row Q)] (.ol ((List.range (d + 1)).map (rowT w (bsF w d z b P Q) (bpF w d P Q)))) := by
  have wd := width_ev (w := w) (d := d) (z := z) (b := b) hw (by omega)
  have rg : rg1 [intM (d + 1)] = some ((List.range (d + 1)).map intM) := (rg1_n (by omega)).trans (congrArg some (rgD_map (d + 1)))
  obtain ⟨o', no', q⟩ := loop_w (u := intM) (tg := hName 3) (fb := lb_table_2) (List.range (d + 1)) (fun n o => [.fz (tre w d z b), .fz (row P), .fz (row Q), o 0, .ol ((List.range n).map (rowT w (bsF w d z b P Q) (bpF w d P Q))), .fz (intM (w ^ d)), o 1, o 2, o 3, o 4, o 5, o 6, o 7, o 8, o 9, .no]) (fun n x o hx no => by
    obtain ⟨hn, rfl⟩ := rng_get hx
    have k64 := pow_lt' (d := d) (k := x) (by omega : 1 ≤ w) h64 (by omega)
    have s64 := pow_le' (d := d) (k := x) (by omega : 1 ≤ w) h64
    have rg2 : rg1 [intM (w ^ x)] = some ((List.range (w ^ x)).map intM) := (rg1_n (by omega)).trans (congrArg some (rgD_map (w ^ x)))
    have dv : fdivD (intM (w ^ d)) (intM (w ^ x)) = some (.fz (intM (w ^ (d - x)))) := by
      rw [fdivM (Nat.pow_pos (by omega)) (by omega), Nat.pow_div (by omega) (by omega)]
    obtain ⟨o1, no1, q1⟩ := tab_in (z := z) (b := b) (P := P) (Q := Q) (w := w) (d := d) (W := w ^ d) (k := x) (F := (List.range x).map (rowT w (bsF w d z b P Q) (bpF w d P Q))) hw hP hQ pP pQ z0 b0 b1 (by omega) (by omega) (f6 (o 2) (o 5) (o 6) (o 7) (o 8) (o 9)) (nb6 (no 2) (no 5) (no 6) (no 7) (no 8) (no 9))
    simp only [f6] at q1
    refine ⟨[.fz (tre w d z b), .fz (row P), .fz (row Q), .fz (intM x), .ol ((List.range x).map (rowT w (bsF w d z b P Q) (bpF w d P Q))), .fz (intM (w ^ d)), o 1, o 2, o 3, o 4, o 5, o 6, o 7, o 8, o 9, .no], (fun i => match i with | 0 => .fz (intM x) | 1 => .fz (intM (w ^ (d - x))) | 2 => o1 0 | 3 => .fz (intM (w ^ x)) | 4 => .fz (rowT w (bsF w d z b P Q) (bpF w d P Q) x) | 5 => o1 1 | 6 => o1 2 | 7 => o1 3 | 8 => o1 4 | _ => o1 5), (fun i => match i with | 0 => rfl | 1 => rfl | 2 => no1 0 | 3 => rfl | 4 => rfl | 5 => no1 1 | 6 => no1 2 | 7 => no1 3 | 8 => no1 4 | _ + 9 => no1 5), ?_, ?_⟩
    · rw [tg_name (no 0)]
      rfl
    · unfold lb_table_2
      have ok : ((List.range x).map (rowT w (bsF w d z b P Q) (bpF w d P Q))).length + 1 ≤ 16777216 := by rw [List.length_map, List.length_range]; omega
      simp_arith [sq_tre, retR_gv (lpowM (k := x) hw (by omega)), no 1, no 3, no 4, dv, rg2, ↓q1]
      rw [List.range_succ, List.map_append]
      rfl) f0 nb0
  simp only [f0, List.length_range, List.range_zero, List.map_nil] at q
  refine gv_rt ?_
  unfold b_table
  simp_arith [retR_gv wd, sq_tre, adM, rg, ↓q]
/-! ### what lies above -/
theorem itmM (xs : List PyData) (k : Nat) : itmR (some xs) (intM k) = atI xs (k : Int) := (rfl)
theorem at_map {n m : Nat} (u : Nat → PyData) (h : m < n) : atI ((List.range n).map u) (m : Int) = some (u m) := by
  rw [atI_n (by rw [List.length_map, List.length_range]; exact h), List.getElem?_map, List.getElem?_range h]
  rfl
def abv (w : Nat) (bs bp : Nat → Nat → Bool) (k j : Nat) : List PyData := (List.range k).map fun n => cel bs bp n (j / w ^ (k - n))
theorem around_ev (hw : w < 100) (w1 : 1 ≤ w) (hd : d ≤ 60) (h64 : w ^ d ≤ 64) {k j : Nat} (hk : k ≤ d) (hj : j < w ^ k) : Gv den_around [.fz (tre w d z b), .fz (intM k), .fz (intM j), .fz (tabD w d bs bp)] (.ol (abv w bs bp k j)) := by
  have rg : rg1 [intM k] = some ((List.range k).map intM) := (rg1_n (by omega)).trans (congrArg some (rgD_map k))
  refine gv_rt ?_
  unfold b_around
  simp_arith [rg]
  rw [comp_m (u := intM) (g := fun n => cel bs bp n (j / w ^ (k - n))) rfl (fun n hn => by
    have hn := List.mem_range.mp hn
    have p64 := pow_lt' (d := d) (k := k - n) w1 h64 (by omega)
    have sq3 : seqE (some (.fz (tabD w d bs bp))) = some ((List.range (d + 1)).map (rowT w bs bp)) := rfl
    have dv : fdivD (intM j) (intM (w ^ (k - n))) = some (.fz (intM (j / w ^ (k - n)))) := fdivM (Nat.pow_pos (by omega)) (by omega)
    have lt : j / w ^ (k - n) < w ^ n := by
      refine Nat.div_lt_of_lt_mul ?_
      rw [← Nat.pow_add, show k - n + n = k by omega]
      exact hj
    have ix : ixD (rowT w bs bp n) (intM (j / w ^ (k - n))) = some (.fz (cel bs bp n (j / w ^ (k - n)))) := by
      show ixD (.list ((List.range (w ^ n)).map (cel bs bp n))) (.int ((j / w ^ (k - n) : Nat) : Int)) = _
      rw [r_ixL, at_map _ lt]
      rfl
    unfold ce_around
    simp_arith [sq3, sq_tre, itmM, at_map (rowT w bs bp) (show n < d + 1 by omega), subM (show n ≤ k by omega), retR_gv (lpowM (w := w) (k := k - n) hw (by omega)), dv, ix]) (by rw [List.length_range]; omega)]
  simp_arith []
  rfl
end
end K80

/-! KG80: what is due by the table. -/
namespace K80
open PySem PySem.Spec L2 Gx M10 Sh
open PyProof.Rows hiding St
local macro_rules
  | `(tactic| simp_arith [$as,*] $[$l]?) => `(tactic| simp (disch := first | omega | (simp only [List.length_cons, List.length_nil, List.length_append, List.length_map, List.length_range, List.length_take, List.length_replicate]; omega)) only [dn_comp, rbOf_rt, dn_popAt, popR_ok, popK_0, q_beq1, q_beq2, q_beq3, q_beq4, q_beq5, q_beq6, q_beq7, q_beq8, dn_R1, dn_chain, chR_ok, rvd_fz, rvd_ol, boolOf_b, dn_orE, orER_b, orER_l, dn_sl, dn_on, dn_off, intOf_i, slice_l, slice_t, r_addL, r_addT, r_ixT, r_ixL, opt_map, atI_0, atI_1, atI_2, atI_3, atI_4, atI_5, arP_t, arP_f, List.getD_cons_zero, List.getD_cons_succ, dn_arP, dn_app, dn_arD, dn_bnd, bndR_ok, bndR_ex, dn_lft, dn_ret, dn_dC, dn_seq, seqR_nx, seqR_rt, seqR_bk, seqR_ct, seqR_ex, dn_nx, dn_call, callR_ok, dn_bin, binR_ok, dn_cmpT, boolR_ok, dn_tru, truR_b, truR_i, truR_n, truR_l, truR_t, dn_notT, dn_not, dn_andT, dn_orT, iteR_t, iteR_f, dn_sIf, dn_dIf, dn_and, dn_orD, andR_b, orR_b, dn_sRet, rtR_ok, dn_sDrop, dn_frz, frzR_fz, frzR_ol, dn_ofD, ofR_ok, ofR_ex, frzR_ex, rtR_ex, dn_sSet, dn_put, ifB_t, ifB_f, rven_fz, rven_ol, isBl_no, isBl_fz, isBl_ol, isBl_ow, dn_name, nameR_fz, nameR_ol, dn_move, moveR_fz, moveR_ol, dn_lenP, lenR_some, dn_peek, peekR_ok, itemR_some, seqE_ol, seqE_bl, seqE_t, seqE_l, seqE_sl, seqE_st, dn_item, itmR_at, dn_nil, dn_cons, consR_ok, consK_ok, dn_tup, dn_lst, dn_un, dn_anil, dn_acons, aconsR_fz, aconsR_ol, aconsK_ok, dn_alend, lendR_ol, lendR_bl, lendR_sc, lent_nil, lent_fz, lent_tp, lent_sc, lent_sl, lentS_n, lentB_n, lentB_s, dn_fn, dn_apply, applyR_some, ar_fz, ar_tp, ar_sc, ar_sl, dn_enSl_ol, dn_enSl_bl, retR_ok, retR_sl, putR_ol, putR_bl, dn_sFor, dn_iSeq, seqOf_l, seqOf_t, dn_iRg1, dn_iRg2, dn_iZp, dn_iZ3, dn_iEnB, dn_sAsg, dn_sApp, ownOf_ol, ownOf_bl, appR_ok, updR_ol, updR_bl, updK_ol, updK_bl, appD_ok, dn_sSetIx, dn_setx, setIxD_eq, dn_sParA, dn_parA, parR_ok, dn_sParX, dn_parX, parXR_ok, rvA_fz, rvA_tp, dn_sPar, nmR_some, nmAll_nil, nmAll_cons, dn_hName, dn_hTup, dn_hNil, dn_hCons, arP_t, arP_f, List.getD_cons_zero, List.getD_cons_succ, dn_arP, dn_app, dn_arD, rtOf_rt, rtOf_nx, cond_true, cond_false, List.getElem?_cons_zero, List.getElem?_cons_succ, List.set_cons_zero, List.set_cons_succ, List.map_cons, List.map_nil, Option.isSome_some, Option.bind_some, Nat.beq_eq_true_eq, List.cons_append, List.nil_append, List.append_nil, List.length_cons, List.length_nil, Nat.reduceSub, Nat.reduceAdd, List.replicate_succ, List.replicate_zero, if_true, Nat.reduceLeDiff, okLen_dn, Bool.not_true, Bool.not_false, Bool.false_eq_true, if_false, dn_newD, rven_od, rvd_od, isBl_od, frzR_od, nameR_od, moveR_od, aconsR_od, rvA_td, ar_td, lent_td, lendR_od, lendR_bd, enSl_od, enSl_bd, putR_od, putR_bd, dicE_od, dicE_bd, dicE_fz, ownD_od, ownD_bd, dn_dk, dkK_some, lkR_some, dn_inD, dn_inT, inK_some, inR_f, inR_t, dn_get1, dn_get2, getK_some, getR_s, getR_n, dn_lenD, lenDR_some, dn_updD, updDR_od, updDR_bd, updDK_od, updDK_bd, dn_putdR, dn_putD, dn_delD, dn_setdD, dn_callK, dn_sUpd, Option.isSome_none, n_addI, n_subI, n_ltI, n_gtI, n_leI, n_geI, n_negI, n_eqI, n_neI, n_lenL, n_lenT, n_tupL, n_tupT, n_lstL, n_lstT, n_isN_n, isi_non, isi2_non, isa_non_non, isa_non_bl, isa_non_int, isa_non_str, isa_non_lst, isa_non_tup, isn_non, isnn_non, isi_bl, isi2_bl, isa_bl_non, isa_bl_bl, isa_bl_int, isa_bl_str, isa_bl_lst, isa_bl_tup, isn_bl, isnn_bl, isi_int, isi2_int, isa_int_non, isa_int_bl, isa_int_int, isa_int_str, isa_int_lst, isa_int_tup, isn_int, isnn_int, isi_str, isi2_str, isa_str_non, isa_str_bl, isa_str_int, isa_str_str, isa_str_lst, isa_str_tup, isn_str, isnn_str, isi_lst, isi2_lst, isa_lst_non, isa_lst_bl, isa_lst_int, isa_lst_str, isa_lst_lst, isa_lst_tup, isn_lst, isnn_lst, isi_tup, isi2_tup, isa_tup_non, isa_tup_bl, isa_tup_int, isa_tup_str, isa_tup_lst, isa_tup_tup, isn_tup, isnn_tup, Bool.or_true, Bool.or_false, Bool.true_or, Bool.false_or, Bool.or_self, bq_tt, bq_tf, bq_ft, bq_ff, bn_tt, bn_tf, bn_ft, bn_ff, $as,*] $[$l]?)
section
variable {ρ : Ev}
def parX4R (i j l m : Nat) (a b c e : Option Rv) (ρ : Ev) : Rs (Fl × Ev) := match a, b, c, e with
  | some r, some t, some u, some s => if isBl ρ[i]? || (isBl (ρ.set i r.en)[j]? || (isBl ((ρ.set i r.en).set j t.en)[l]? || isBl (((ρ.set i r.en).set j t.en).set l u.en)[m]?)) then .st else .ok (.nx, (((ρ.set i r.en).set j t.en).set l u.en).set m s.en)
  | _, _, _, _ => .st
theorem dn_sParX4 (i j l m : Nat) (f : Dn (List Ar)) : sParX4 i j l m f ρ = bndR (f ρ) (parX4 i j l m) := dn_bnd _ _
theorem dn_parX4 (i j l m : Nat) (a b c e : Ar) : parX4 i j l m [a, b, c, e] ρ = parX4R i j l m (rvA a) (rvA b) (rvA c) (rvA e) ρ := by
  show (match rvA a, rvA b, rvA c, rvA e with | some r, some t, some u, some s => _ | _, _, _, _ => _) = _
  unfold parX4R
  cases rvA a <;> cases rvA b <;> cases rvA c <;> cases rvA e <;> rfl
theorem parX4R_ok (i j l m : Nat) (r t u s : Rv) : parX4R i j l m (some r) (some t) (some u) (some s) ρ = ifB (isBl ρ[i]?) .st (ifB (isBl (ρ.set i r.en)[j]?) .st (ifB (isBl ((ρ.set i r.en).set j t.en)[l]?) .st (ifB (isBl (((ρ.set i r.en).set j t.en).set l u.en)[m]?) .st (.ok (.nx, (((ρ.set i r.en).set j t.en).set l u.en).set m s.en))))) := by
  show (if isBl ρ[i]? || (isBl (ρ.set i r.en)[j]? || (isBl ((ρ.set i r.en).set j t.en)[l]? || isBl (((ρ.set i r.en).set j t.en).set l u.en)[m]?)) then Rs.st else .ok (.nx, (((ρ.set i r.en).set j t.en).set l u.en).set m s.en) : Rs (Fl × Ev)) = _
  unfold ifB
  cases isBl ρ[i]? <;> cases isBl (ρ.set i r.en)[j]? <;> cases isBl ((ρ.set i r.en).set j t.en)[l]? <;> cases isBl (((ρ.set i r.en).set j t.en).set l u.en)[m]? <;> rfl
end
section
variable {w d : Nat} {z b : Int} {bs bp : Nat → Nat → Bool}
def lieT (w : Nat) (bs bp : Nat → Nat → Bool) (k j : Nat) : Bool := anc w bs k j && (bp k j && !bs k j)
def lieK (w : Nat) (bs bp : Nat → Nat → Bool) (n : Nat) : Bool := (List.range n).any fun k => (List.range (w ^ k)).any (lieT w bs bp k)
def foK (w d : Nat) (bs : Nat → Nat → Bool) (k i : Nat) : List Nat := (List.range i).filter fun j => decide (k = d) && (bs k j && anc w bs k j)
def fst1 (n : Nat) (p : Nat → Bool) (i : Nat) : Nat := n + ((List.range i).filter p).length
theorem fst1_s (n : Nat) (p : Nat → Bool) (i : Nat) : fst1 n p (i + 1) = if p i then fst1 n p i + 1 else fst1 n p i := by
  unfold fst1
  rw [List.range_succ, List.filter_append, List.length_append]
  cases h : p i <;> simp [h]
  omega
theorem foK_s (k i : Nat) : foK w d bs k (i + 1) = if decide (k = d) && (bs k i && anc w bs k i) then foK w d bs k i ++ [i] else foK w d bs k i := by
  unfold foK
  rw [List.range_succ, List.filter_append]
  cases h : (decide (k = d) && (bs k i && anc w bs k i)) <;> simp [h]
theorem pd_cel (m k j : Nat) : Pd (m + 1) (cel bs bp k j) := pd_tup (k := m) fun x hx => by
  simp only [List.mem_cons, List.not_mem_nil, or_false] at hx
  rcases hx with rfl | rfl <;> exact pd_bool _
theorem nbl_abv0 (k j : Nat) : eqD (.list (abv w bs bp k j)) (.list []) = some (.fz (.bool (decide (k = 0)))) := by
  have p1 : Pd 60 (.list (abv w bs bp k j)) := pd_lst fun x hx => by
    obtain ⟨n, _, rfl⟩ := List.mem_map.mp hx
    exact pd_cel 58 _ _
  have p2 : Pd 60 (.list []) := pd_lst (k := 59) fun x hx => by cases hx
  rw [eq_pd p1 p2]
  cases k with
  | zero => rfl
  | succ k =>
    have : abv w bs bp (k + 1) j = cel bs bp 0 (j / w ^ (k + 1 - 0)) :: (abv w bs bp (k + 1) j).tail := by
      unfold abv
      rw [List.range_succ_eq_map]
      rfl
    rw [this]
    rfl
theorem abv_lst (k j : Nat) : itmR (some (abv w bs bp (k + 1) j)) (.int (-1)) = some (cel bs bp k (j / w)) := by
  have : abv w bs bp (k + 1) j = ((List.range k).map fun n => cel bs bp n (j / w ^ (k + 1 - n))) ++ [cel bs bp k (j / w)] := by
    unfold abv
    rw [List.range_succ, List.map_append, List.map_cons, List.map_nil, show k + 1 - k = 1 by omega, Nat.pow_one]
  rw [this]
  exact atI_lst
def bd1 : Dn Fl := (sSeq (sSet 3 (dBin addD (dName 3) (dC (.int 1))))
  (sSeq (sSet 5 (dOr (dMove 5) (ofD (dAnd (dPeek 9 (dC (.int 1))) (dNot (dPeek 9 (dC (.int 0))))))))
  (sIf (dAndT (dCmpT eqD (dName 6) (dPeek 0 (dC (.int 1)))) (dTru (dPeek 9 (dC (.int 0))))) (sApp 2 (dName 8)) sNx)))
def bd2 : Dn Fl := (sIf (dOrT (dAndT (dCmpT eqD (dName 6) (dPeek 0 (dC (.int 1)))) (dTru (dPeek 9 (dC (.int 1))))) (dAndT (dNotT (dTru (dPeek 9 (dC (.int 1))))) (dOrT (dCmpT eqD (dName 10) (frz (dLst dNil))) (dTru (frz (dBin ixD (dPeek 10 (dUn negD (dC (.int 1)))) (dC (.int 1)))))))) (sSet 4 (dBin addD (dName 4) (dC (.int 1)))) sNx)
theorem lb_due_eq : lb_due = (sSeq (sSet 10 (dFn (den_around) (aCons (ofD (dName 0)) (aCons (ofD (dName 6)) (aCons (ofD (dName 8)) (aCons (ofD (dName 1)) aNil))))))
  (sSeq (sIf (dTru (frz (dCall allD (dCons (frz (dComp (iSeq (dName 10)) (hName 11) yesT ce_due [11])) dNil)))) bd1 sNx) bd2)) := (rfl)
theorem bd1_ev (G R : PyData) (p o2 : En) (f : List Nat) (a k j : Nat) (l X Y K : Bool) (hk : decide (k = d) = K) (hf : f.length < 1000) :
    bd1 [.fz (tre w d z b), .fz G, .ol (f.map intM), .fz (intM a), p, .fz (.bool l), .fz (intM k), .fz R, .fz (intM j), .fz (.tuple [.bool X, .bool Y]), o2, .no] =
      .ok (.nx, [.fz (tre w d z b), .fz G, .ol ((if K && X then f ++ [j] else f).map intM), .fz (intM (a + 1)), p, .fz (.bool (l || (Y && !X))), .fz (intM k), .fz R, .fz (intM j), .fz (.tuple [.bool X, .bool Y]), o2, .no]) := by
  unfold bd1
  have ok : (f.map intM).length + 1 ≤ 16777216 := by rw [List.length_map]; omega
  have e : f.map intM ++ [intM j] = (f ++ [j]).map intM := by rw [List.map_append]; rfl
  cases K <;> cases l <;> cases X <;> cases Y <;> simp_arith [adM, sq_tre, eqMM, hk] <;> (try rw [e]) <;> rfl
theorem bd2_ev (G R : PyData) (f a l : En) (p k j : Nat) (X Y K pa : Bool) (ab : List PyData) (hk : decide (k = d) = K) (he : eqD (.list ab) (.list []) = some (.fz (.bool (decide (k = 0)))))
    (hl : k ≠ 0 → ∃ x : Bool, itmR (some ab) (.int (-1)) = some (.tuple [.bool x, .bool pa])) (h0 : k = 0 → pa = true) :
    bd2 [.fz (tre w d z b), .fz G, f, a, .fz (intM p), l, .fz (intM k), .fz R, .fz (intM j), .fz (.tuple [.bool X, .bool Y]), .fz (.list ab), .no] =
      .ok (.nx, [.fz (tre w d z b), .fz G, f, a, .fz (intM (if K && Y || (!Y && pa) then p + 1 else p)), l, .fz (intM k), .fz R, .fz (intM j), .fz (.tuple [.bool X, .bool Y]), .fz (.list ab), .no]) := by
  unfold bd2
  have sqc : ∀ x y : Bool, seqE (some (.fz (.tuple [.bool x, .bool y]))) = some [.bool x, .bool y] := fun _ _ => rfl
  have sqa : seqE (some (.fz (.list ab))) = some ab := rfl
  by_cases k0 : k = 0
  · have hp := h0 k0
    subst hp
    cases K <;> cases Y <;> simp_arith [adM, sq_tre, eqMM, hk, he, decide_eq_true k0] <;> rfl
  · obtain ⟨x, hx⟩ := hl k0
    cases K <;> cases Y <;> cases pa <;> simp_arith [adM, sq_tre, eqMM, hk, he, decide_eq_false k0, sqa, hx] <;> rfl
def dE (w d : Nat) (z b : Int) (bs bp : Nat → Nat → Bool) (k : Nat) (A B : Nat) (L : Bool) (i : Nat) (o : Nat → En) : Ev := [.fz (tre w d z b), .fz (tabD w d bs bp), .ol ((foK w d bs k i).map intM), .fz (intM (fst1 A (anc w bs k) i)), .fz (intM (fst1 B (prf w d bp k) i)), .fz (.bool (L || (List.range i).any (lieT w bs bp k))), .fz (intM k), .fz (rowT w bs bp k), o 0, o 1, o 2, .no]
theorem any_s (p : Nat → Bool) (i : Nat) : (List.range (i + 1)).any p = ((List.range i).any p || p i) := by
  rw [List.range_succ, List.any_append]
  simp
theorem due_step (hw : w < 100) (w1 : 1 ≤ w) (hd : d ≤ 60) (h64 : w ^ d ≤ 64) {k A B : Nat} {L : Bool} (hk : k ≤ d) {i : Nat} (hi : i < w ^ k) (o : Nat → En) (no : Nb o) :
    ∃ ρ1 o', Nb o' ∧ hTup 2 (hCons (hName 8) (hCons (hName 9) hNil)) (.tuple [intM i, cel bs bp k i]) (dE w d z b bs bp k A B L i o) = some ρ1 ∧ lb_due ρ1 = .ok (.nx, dE w d z b bs bp k A B L (i + 1) o') := by
  have ar := around_ev (z := z) (b := b) (bs := bs) (bp := bp) hw w1 hd h64 hk hi
  have he := nbl_abv0 (w := w) (bs := bs) (bp := bp) k i
  have hl : k ≠ 0 → ∃ x : Bool, itmR (some (abv w bs bp k i)) (.int (-1)) = some (.tuple [.bool x, .bool (par w bp k i)]) := fun k0 => by
    obtain ⟨m, rfl⟩ : ∃ m, k = m + 1 := ⟨k - 1, by omega⟩
    exact ⟨bs m (i / w), abv_lst m i⟩
  have h0 : k = 0 → par w bp k i = true := fun h => by subst h; rfl
  have al : allD [.list ((List.range k).map fun n => .bool (bs n (i / w ^ (k - n))))] = some (.fz (.bool (anc w bs k i))) := all_b (fun n => bs n (i / w ^ (k - n))) (List.range k)
  have fl : (foK w d bs k i).length < 1000 := by
    have a1 : (foK w d bs k i).length ≤ i := Nat.le_trans (List.length_filter_le _ _) (by rw [List.length_range]; exact Nat.le_refl _)
    have := pow_lt' w1 h64 hk
    omega
  refine ⟨[.fz (tre w d z b), .fz (tabD w d bs bp), .ol ((foK w d bs k i).map intM), .fz (intM (fst1 A (anc w bs k) i)), .fz (intM (fst1 B (prf w d bp k) i)), .fz (.bool (L || (List.range i).any (lieT w bs bp k))), .fz (intM k), .fz (rowT w bs bp k), .fz (intM i), .fz (cel bs bp k i), o 2, .no], f3 (.fz (intM i)) (.fz (cel bs bp k i)) (.fz (.list (abv w bs bp k i))), nb3 rfl rfl rfl, ?_, ?_⟩
  · unfold dE
    simp_arith [no 0, no 1]
  · rw [lb_due_eq]
    have ar : Gv den_around [.fz (tre w d z b), .fz (intM k), .fz (intM i), .fz (tabD w d bs bp)] (.ol ((List.range k).map fun n => cel bs bp n (i / w ^ (k - n)))) := ar
    unfold dE
    rw [fst1_s, fst1_s, foK_s, any_s]
    have lt : lieT w bs bp k i = (anc w bs k i && (bp k i && !bs k i)) := rfl
    have pf : prf w d bp k i = (decide (k = d) && bp k i || (!bp k i && par w bp k i)) := rfl
    rw [lt, pf]
    simp_arith [retR_gv ar, no 2]
    rw [comp_m (u := fun n => cel bs bp n (i / w ^ (k - n))) (g := fun n => .bool (bs n (i / w ^ (k - n)))) rfl (fun n hn => by
      unfold ce_due
      have sqc : seqE (some (.fz (cel bs bp n (i / w ^ (k - n))))) = some [.bool (bs n (i / w ^ (k - n))), .bool (bp n (i / w ^ (k - n)))] := rfl
      simp_arith [sqc]) (by rw [List.length_range]; omega)]
    have q2 := fun (f a l : En) => bd2_ev (w := w) (d := d) (z := z) (b := b) (tabD w d bs bp) (rowT w bs bp k) f a l (fst1 B (prf w d bp k) i) k i (bs k i) (bp k i) (decide (k = d)) (par w bp k i) (abv w bs bp k i) rfl he hl h0
    have q2 : ∀ f a l : En, bd2 [.fz (tre w d z b), .fz (tabD w d bs bp), f, a, .fz (intM (fst1 B (prf w d bp k) i)), l, .fz (intM k), .fz (rowT w bs bp k), .fz (intM i), .fz (cel bs bp k i), .fz (.list ((List.range k).map fun n => cel bs bp n (i / w ^ (k - n)))), .no] = _ := q2
    have q1 := bd1_ev (w := w) (d := d) (z := z) (b := b) (tabD w d bs bp) (rowT w bs bp k) (.fz (intM (fst1 B (prf w d bp k) i))) (.fz (.list ((List.range k).map fun n => cel bs bp n (i / w ^ (k - n))))) (foK w d bs k i) (fst1 A (anc w bs k) i) k i (L || (List.range i).any (lieT w bs bp k)) (bs k i) (bp k i) (decide (k = d)) rfl fl
    have q1 : bd1 [.fz (tre w d z b), .fz (tabD w d bs bp), .ol ((foK w d bs k i).map intM), .fz (intM (fst1 A (anc w bs k) i)), .fz (intM (fst1 B (prf w d bp k) i)), .fz (.bool (L || (List.range i).any (lieT w bs bp k))), .fz (intM k), .fz (rowT w bs bp k), .fz (intM i), .fz (cel bs bp k i), .fz (.list ((List.range k).map fun n => cel bs bp n (i / w ^ (k - n)))), .no] = _ := q1
    cases hn : anc w bs k i with
    | true =>
      rw [hn] at al
      simp_arith [al, ↓q1]
      refine Eq.trans (q2 _ _ _) ?_
      rw [← Bool.or_assoc, Bool.and_true, Bool.true_and]
      rfl
    | false =>
      rw [hn] at al
      simp_arith [al]
      refine Eq.trans (q2 _ _ _) ?_
      simp only [Bool.and_false, Bool.false_and, Bool.or_false, Bool.false_eq_true, if_false]
      rfl
theorem due_in (hw : w < 100) (w1 : 1 ≤ w) (hd : d ≤ 60) (h64 : w ^ d ≤ 64) {k A B : Nat} {L : Bool} (hk : k ≤ d) (o : Nat → En) (no : Nb o) :
    ∃ o', Nb o' ∧ loopF (hTup 2 (hCons (hName 8) (hCons (hName 9) hNil))) lb_due ((List.range (w ^ k)).map fun i => .tuple [intM i, cel bs bp k i]) (dE w d z b bs bp k A B L 0 o) = .ok (.nx, dE w d z b bs bp k A B L (w ^ k) o') := by
  obtain ⟨o', no', q⟩ := loop_w (u := fun i => PyData.tuple [intM i, cel bs bp k i]) (tg := hTup 2 (hCons (hName 8) (hCons (hName 9) hNil))) (fb := lb_due) (List.range (w ^ k)) (fun n o => dE w d z b bs bp k A B L n o) (fun n x o hx no => by
    obtain ⟨hn, rfl⟩ := rng_get hx
    exact due_step hw w1 hd h64 hk hn o no) o no
  rw [List.length_range] at q
  exact ⟨o', no', q⟩
theorem enum_row {α : Type} (u : Nat → α → PyData) (f : Nat → PyData) (n : Nat) : enumOfB [.list ((List.range n).map f)] = some ((List.range n).map fun i => .tuple [intM i, f i]) := by
  show some (enumD 0 ((List.range n).map f)) = _
  rw [enum_rng f 0 (List.range n) 0, List.length_range]
  refine congrArg some (List.map_congr_left fun i hi => ?_)
  have hi := List.mem_range.mp hi
  rw [List.getD_eq_getElem?_getD, List.getElem?_range hi, Nat.zero_add]
  rfl
def fO (w d : Nat) (bs : Nat → Nat → Bool) (k : Nat) : List Nat := if k ≤ d then [] else fnd w d bs
def dO (w d : Nat) (z b : Int) (bs bp : Nat → Nat → Bool) (k : Nat) (o : Nat → En) : Ev := [.fz (tre w d z b), .fz (tabD w d bs bp), .ol ((fO w d bs k).map intM), .fz (intM (sumT (cnt w (anc w bs)) k)), .fz (intM (sumT (cnt w (prf w d bp)) k)), .fz (.bool (lieK w bs bp k)), o 0, o 1, o 2, o 3, o 4, .no]
theorem fO_in {k : Nat} (hk : k ≤ d) : foK w d bs k (w ^ k) = fO w d bs (k + 1) := by
  unfold foK fO
  by_cases h : k = d
  · rw [if_neg (by omega), fnd_eq, h]
    refine filter_cg fun j _ => ?_
    rw [decide_eq_true rfl, Bool.true_and]
  · rw [if_pos (by omega), decide_eq_false h]
    simp
theorem due_ev (hw : w < 100) (w1 : 1 ≤ w) (hd : d ≤ 60) (h64 : w ^ d ≤ 64) : Gv den_due [.fz (tre w d z b), .fz (tabD w d bs bp)] (.fz (.tuple [.list ((fnd w d bs).map intM), intM (sumT (cnt w (anc w bs)) (d + 1)), intM (sumT (cnt w (prf w d bp)) (d + 1)), .bool (lieK w bs bp (d + 1))])) := by
  obtain ⟨o', no', q⟩ := loop_w (u := fun k => PyData.tuple [intM k, rowT w bs bp k]) (tg := hTup 2 (hCons (hName 6) (hCons (hName 7) hNil))) (fb := lb_due_2) (List.range (d + 1)) (fun n o => dO w d z b bs bp n o) (fun n x o hx no => by
    obtain ⟨hn, rfl⟩ := rng_get hx
    obtain ⟨o1, no1, q1⟩ := due_in (z := z) (b := b) (bs := bs) (bp := bp) (w := w) (d := d) (A := sumT (cnt w (anc w bs)) x) (B := sumT (cnt w (prf w d bp)) x) (L := lieK w bs bp x) (k := x) hw w1 hd h64 (by omega) (f3 (o 2) (o 3) (o 4)) (nb3 (no 2) (no 3) (no 4))
    have en : enumOfB [rowT w bs bp x] = some ((List.range (w ^ x)).map fun i => .tuple [intM i, cel bs bp x i]) := enum_row (fun (i : Nat) (a : Nat) => .none) (cel bs bp x) (w ^ x)
    have z1 : foK w d bs x 0 = [] := rfl
    have z2 : fO w d bs x = [] := if_pos (by omega)
    refine ⟨[.fz (tre w d z b), .fz (tabD w d bs bp), .ol ((fO w d bs x).map intM), .fz (intM (sumT (cnt w (anc w bs)) x)), .fz (intM (sumT (cnt w (prf w d bp)) x)), .fz (.bool (lieK w bs bp x)), .fz (intM x), .fz (rowT w bs bp x), o 2, o 3, o 4, .no], f5 (.fz (intM x)) (.fz (rowT w bs bp x)) (o1 0) (o1 1) (o1 2), nb5 rfl rfl (no1 0) (no1 1) (no1 2), ?_, ?_⟩
    · unfold dO
      simp_arith [no 0, no 1]
    · unfold lb_due_2
      have q0 : dE w d z b bs bp x (sumT (cnt w (anc w bs)) x) (sumT (cnt w (prf w d bp)) x) (lieK w bs bp x) 0 (f3 (o 2) (o 3) (o 4)) = [.fz (tre w d z b), .fz (tabD w d bs bp), .ol ((fO w d bs x).map intM), .fz (intM (sumT (cnt w (anc w bs)) x)), .fz (intM (sumT (cnt w (prf w d bp)) x)), .fz (.bool (lieK w bs bp x)), .fz (intM x), .fz (rowT w bs bp x), o 2, o 3, o 4, .no] := by
        unfold dE
        rw [z1, z2]
        simp [fst1, f3]
      rw [q0] at q1
      simp_arith [en, ↓q1]
      unfold dE dO
      rw [fO_in (by omega)]
      have l1 : lieK w bs bp (x + 1) = (lieK w bs bp x || (List.range (w ^ x)).any (lieT w bs bp x)) := any_s _ x
      rw [l1]
      rfl) f0 nb0
  rw [List.length_range] at q
  have q0 : dO w d z b bs bp 0 f0 = [.fz (tre w d z b), .fz (tabD w d bs bp), .ol [], .fz (.int 0), .fz (.int 0), .fz (.bool false), .no, .no, .no, .no, .no, .no] := by
    unfold dO fO
    rw [if_pos (Nat.zero_le d)]
    rfl
  have q3 : dO w d z b bs bp (d + 1) o' = [.fz (tre w d z b), .fz (tabD w d bs bp), .ol ((fnd w d bs).map intM), .fz (intM (sumT (cnt w (anc w bs)) (d + 1))), .fz (intM (sumT (cnt w (prf w d bp)) (d + 1))), .fz (.bool (lieK w bs bp (d + 1))), o' 0, o' 1, o' 2, o' 3, o' 4, .no] := by
    unfold dO fO
    rw [if_neg (by omega)]
  rw [q0, q3] at q
  have en : enumOfB [tabD w d bs bp] = some ((List.range (d + 1)).map fun k => .tuple [intM k, rowT w bs bp k]) := enum_row (fun (i : Nat) (a : Nat) => .none) (rowT w bs bp) (d + 1)
  refine gv_rt ?_
  unfold b_due
  simp_arith [dn_sParX4, dn_parX4, parX4R_ok, en, ↓q]
end
end K80

/-! KH80: rows as dicts: what is turned, what is mended. -/
namespace K80
open PySem PySem.Spec L2 Gx M10 Sh
open PyProof.Rows hiding St
abbrev PR := List (Nat × Nat)
def lk (L : PR) (k : Nat) : Option Nat := (L.find? fun p => p.1 == k).map (·.2)
theorem lk_mem {L : PR} {k v : Nat} (h : lk L k = some v) : (k, v) ∈ L := by
  unfold lk at h
  obtain ⟨p, h1, h2⟩ := Option.map_eq_some_iff.mp h
  have := List.mem_of_find?_eq_some h1
  have e := List.find?_some h1
  simp at e
  subst e; subst h2
  exact this
theorem lk_none {L : PR} {k : Nat} : lk L k = none ↔ k ∉ L.map (·.1) := by
  unfold lk
  rw [Option.map_eq_none_iff, List.find?_eq_none]
  constructor
  · intro h m
    obtain ⟨p, hp, rfl⟩ := List.mem_map.mp m
    exact h p hp (by simp)
  · intro h p hp e
    simp at e
    exact h (List.mem_map.mpr ⟨p, hp, e⟩)
theorem lk_of {L : PR} (nd : (L.map (·.1)).Nodup) {k v : Nat} (h : (k, v) ∈ L) : lk L k = some v := by
  cases e : lk L k with
  | none => exact absurd (List.mem_map.mpr ⟨_, h, rfl⟩) (lk_none.mp e)
  | some u =>
    have m := lk_mem e
    have : ∀ {L : PR}, (L.map (·.1)).Nodup → (k, v) ∈ L → (k, u) ∈ L → v = u := by
      intro L
      induction L with
      | nil => intro _ h; simp at h
      | cons p L ih =>
        intro nd h1 h2
        rw [List.map_cons, List.nodup_cons] at nd
        rcases List.mem_cons.mp h1 with e1 | h1 <;> rcases List.mem_cons.mp h2 with e2 | h2
        · rw [← e1] at e2; injection e2 with _ e2; exact e2.symm
        · exact absurd (List.mem_map.mpr ⟨_, h2, rfl⟩) (by rw [← e1] at nd; exact nd.1)
        · exact absurd (List.mem_map.mpr ⟨_, h1, rfl⟩) (by rw [← e2] at nd; exact nd.1)
        · exact ih nd.2 h1 h2
    rw [this nd h m]
def putN (L : PR) (k v : Nat) : PR := if k ∈ L.map (·.1) then L.map fun x => if x.1 = k then (x.1, v) else x else L ++ [(k, v)]
theorem put_keys {L : PR} {k v : Nat} : (putN L k v).map (·.1) = if k ∈ L.map (·.1) then L.map (·.1) else L.map (·.1) ++ [k] := by
  unfold putN
  by_cases h : k ∈ L.map (·.1)
  · rw [if_pos h, if_pos h, List.map_map]
    refine List.map_congr_left fun x _ => ?_
    show (if x.1 = k then (x.1, v) else x).1 = x.1
    split <;> rfl
  · rw [if_neg h, if_neg h, List.map_append]
    rfl
theorem put_nd {L : PR} {k v : Nat} (nd : (L.map (·.1)).Nodup) : ((putN L k v).map (·.1)).Nodup := by
  rw [put_keys]
  by_cases h : k ∈ L.map (·.1)
  · rw [if_pos h]; exact nd
  · rw [if_neg h]
    exact List.nodup_append.mpr ⟨nd, by simp, fun a ha b hb e => by
      rw [List.mem_singleton.mp hb] at e
      exact h (e ▸ ha)⟩
theorem put_len {L : PR} {k v : Nat} : (putN L k v).length ≤ L.length + 1 := by
  unfold putN
  split <;> simp
theorem put_mem {L : PR} {k v : Nat} {x : Nat × Nat} (h : x ∈ putN L k v) : x ∈ L ∨ x = (k, v) := by
  unfold putN at h
  split at h
  · obtain ⟨y, hy, rfl⟩ := List.mem_map.mp h
    by_cases e : y.1 = k
    · rw [if_pos e, e]; exact .inr rfl
    · rw [if_neg e]; exact .inl hy
  · rcases List.mem_append.mp h with h | h
    · exact .inl h
    · exact .inr (List.mem_singleton.mp h)
theorem lk_put {L : PR} {k v i : Nat} : lk (putN L k v) i = if i = k then some v else lk L i := by
  unfold putN
  by_cases h : k ∈ L.map (·.1)
  · rw [if_pos h]
    have : ∀ {L : PR}, lk (L.map fun x => if x.1 = k then (x.1, v) else x) i = if i = k ∧ k ∈ L.map (·.1) then some v else lk L i := by
      intro L
      induction L with
      | nil => simp [lk]
      | cons p L ih =>
        unfold lk at ih ⊢
        rw [List.map_cons, List.find?_cons, List.find?_cons]
        by_cases e : p.1 = k
        · rw [if_pos e]
          by_cases ei : i = k
          · simp [e, ei]
          · simp only [show (p.1 == i) = false from by simp; omega, ih]
            simp [ei]
        · rw [if_neg e]
          cases e2 : p.1 == i with
          | true =>
            have e2 : p.1 = i := by simpa using e2
            simp [show i ≠ k from fun z => e (e2.trans z)]
          | false =>
            have hk : (k ∈ List.map (·.1) (p :: L)) = (k ∈ L.map (·.1)) := by
              rw [List.map_cons, List.mem_cons]
              exact propext ⟨fun z => z.elim (fun z => absurd z.symm e) id, .inr⟩
            refine Eq.trans ih ?_
            by_cases c : i = k ∧ k ∈ L.map (·.1)
            · rw [if_pos c, if_pos ⟨c.1, hk ▸ c.2⟩]
            · rw [if_neg c, if_neg fun z => c ⟨z.1, hk ▸ z.2⟩]
    rw [this]
    by_cases ei : i = k
    · rw [if_pos ⟨ei, h⟩, if_pos ei]
    · rw [if_neg (fun z => ei z.1), if_neg ei]
  · rw [if_neg h]
    by_cases ei : i = k
    · rw [if_pos ei]
      have := lk_none.mpr h
      unfold lk at this ⊢
      have t2 := Option.map_eq_none_iff.mp this
      rw [ei, List.find?_append, t2]
      simp
    · rw [if_neg ei]
      unfold lk
      rw [List.find?_append]
      have : [(k, v)].find? (fun p => p.1 == i) = none := by simp; omega
      rw [this, Option.or_none]
/-! ### as data -/
def pq (p : Nat × Nat) : PyData × PyData := (intM p.1, intM p.2)
theorem keq_nn (a b : Nat) : keq (intM a) (intM b) = (a == b) := by
  show decide ((a : Int) = (b : Int)) = _
  by_cases h : a = b
  · subst h; simp
  · rw [decide_eq_false (by omega)]; simp [h]
theorem lkP_pq : ∀ (L : PR) (k : Nat), lkP (L.map pq) (intM k) = (lk L k).map intM
  | [], k => rfl
  | p :: L, k => by
    have ih := lkP_pq L k
    unfold lkP lk at ih ⊢
    rw [List.map_cons, List.find?_cons, List.find?_cons]
    show Option.map _ (match keq (intM p.1) (intM k) with | true => some (pq p) | false => _) = _
    rw [keq_nn]
    cases h : p.1 == k with
    | true => rfl
    | false => exact ih
theorem atK_pq (L : PR) (k : Nat) : atK (L.map pq) (intM k) = some ((lk L k).map intM) := by
  show some (lkP (L.map pq) (intM k)) = _
  rw [lkP_pq]
theorem putP_pq (L : PR) (k v : Nat) : putP (L.map pq) (intM k) (intM v) = (putN L k v).map pq := by
  unfold putP putN
  have a : ((L.map pq).any fun p => keq p.1 (intM k)) = decide (k ∈ L.map (·.1)) := by
    rw [Bool.eq_iff_iff, List.any_eq_true, decide_eq_true_iff]
    constructor
    · rintro ⟨p, hp, e⟩
      obtain ⟨x, hx, rfl⟩ := List.mem_map.mp hp
      have e : keq (intM x.1) (intM k) = true := e
      rw [keq_nn] at e
      exact List.mem_map.mpr ⟨x, hx, by simpa using e⟩
    · intro h
      obtain ⟨x, hx, e⟩ := List.mem_map.mp h
      refine ⟨pq x, List.mem_map.mpr ⟨x, hx, rfl⟩, ?_⟩
      show keq (intM x.1) (intM k) = true
      rw [keq_nn]
      simpa using e
  rw [a]
  by_cases h : k ∈ L.map (·.1)
  · rw [if_pos (decide_eq_true h), if_pos h, List.map_map, List.map_map]
    refine List.map_congr_left fun x _ => ?_
    show (if keq (intM x.1) (intM k) = true then (intM x.1, intM v) else pq x) = pq (if x.1 = k then (x.1, v) else x)
    rw [keq_nn]
    by_cases e : x.1 = k
    · rw [if_pos (by simpa using e), if_pos e]; rfl
    · rw [if_neg (by simpa using e), if_neg e]
  · rw [if_neg (by simpa using h), if_neg h, List.map_append]
    rfl
theorem put_pq {L : PR} {k v : Nat} (hl : L.length ≤ 1000) : putD (intM v) (intM k) (L.map pq) = some ((putN L k v).map pq) := by
  show (if okLen ((L.map pq).length + 1) then some (putP (L.map pq) (intM k) (intM v)) else none) = _
  rw [okLen_dn (by rw [List.length_map]; omega), if_pos rfl, putP_pq]
theorem prs_pq : ∀ L : PR, prsOf (L.map pr) = some (L.map pq)
  | [] => rfl
  | p :: L => by
    rw [List.map_cons]
    show (some (Sum.inl (p.1 : Int))).bind (fun _ => (prsOf (L.map pr)).map ((intM p.1, intM p.2) :: ·)) = _
    rw [prs_pq L]
    rfl
theorem merge_pq {L : PR} (nd : (L.map (·.1)).Nodup) : mergeP [] (L.map pq) = L.map pq := by
  have : ∀ (L A : PR), ((A ++ L).map (·.1)).Nodup → mergeP (A.map pq) (L.map pq) = (A ++ L).map pq := by
    intro L
    induction L with
    | nil => intro A _; rw [List.append_nil]; rfl
    | cons p L ih =>
      intro A nd
      rw [List.map_cons]
      show mergeP (putP (A.map pq) (intM p.1) (intM p.2)) (L.map pq) = _
      rw [putP_pq]
      have h : p.1 ∉ A.map (·.1) := fun h => by
        rw [List.map_append, List.map_cons, List.nodup_append] at nd
        exact nd.2.2 _ h _ (List.mem_cons_self ..) rfl
      have e : putN A p.1 p.2 = A ++ [p] := by unfold putN; rw [if_neg h]
      have ih := ih (A ++ [p]) (by rw [List.append_assoc]; exact nd)
      rw [e, ih, List.append_assoc]
      rfl
  have := this L [] nd
  rw [List.nil_append] at this
  exact this
theorem dict_row {L : PR} (nd : (L.map (·.1)).Nodup) : dictD [.list (L.map pr)] = some (.od (L.map pq)) := by
  show (prsOf (L.map pr)).map (fun ps => Rv.od (mergeP [] ps)) = _
  rw [prs_pq, Option.map_some, merge_pq nd]
/-! ### sorted rows -/
theorem pr_le {a b : Nat × Nat} (h : PySem.W.dataLe false id (pr a) (pr b) = true) : a.1 ≤ b.1 := by
  by_cases c : a.1 ≤ b.1
  · exact c
  · exfalso
    have lt : PySem.W.dataLt (pr b) (pr a) = true := by
      unfold pr
      rw [PySem.W.dataLt_tuple, PySem.W.dataLt_all_no rfl (by
        show PyData.eqv (.int (b.1 : Int)) (.int (a.1 : Int)) = false
        simp [PyData.eqv]; omega)]
      show PySem.W.dataLt (.int (b.1 : Int)) (.int (a.1 : Int)) = true
      rw [PySem.W.dataLt_int, decide_eq_true (by omega)]
    have h : (!PySem.W.dataLt (pr b) (pr a)) = true := h
    rw [lt] at h
    cases h
theorem perm_mapx {α : Type} (f : α → PyData) : ∀ {ys xs : List PyData} {F : List α}, ys.Perm xs → xs = F.map f → ∃ F' : List α, F'.Perm F ∧ ys = F'.map f := by
  intro ys xs F h
  induction h generalizing F with
  | nil => intro e; exact ⟨F, .refl _, e⟩
  | cons x h ih =>
    intro e
    cases F with
    | nil => simp at e
    | cons a F =>
      rw [List.map_cons] at e
      injection e with e1 e2
      obtain ⟨F', p, e3⟩ := ih e2
      exact ⟨a :: F', p.cons a, by rw [List.map_cons, e1, e3]⟩
  | swap x y l =>
    intro e
    match F, e with
    | a :: c :: F, e =>
      simp only [List.map_cons] at e
      injection e with e1 e2
      injection e2 with e2 e3
      exact ⟨c :: a :: F, .swap _ _ _, by rw [List.map_cons, List.map_cons, e1, e2, e3]⟩
  | trans h1 h2 ih1 ih2 =>
    intro e
    obtain ⟨F1, p1, e1⟩ := ih2 e
    obtain ⟨F2, p2, e2⟩ := ih1 e1
    exact ⟨F2, p2.trans p1, e2⟩
theorem sort_pr (F : PR) (nd : (F.map (·.1)).Nodup) : ∃ F' : PR, F'.Perm F ∧ F'.Pairwise (fun a b => a.1 < b.1) ∧ sortX [.list (F.map pr)] = some (.ol (F'.map pr)) := by
  have pm : (srtX (F.map pr)).Perm (F.map pr) := List.mergeSort_perm _ _
  obtain ⟨F', p, e⟩ := perm_mapx pr pm rfl
  refine ⟨F', p, ?_, ?_⟩
  · have s : (srtX (F.map pr)).Pairwise fun a b => PySem.W.dataLe false id a b = true := PySem.W.sort_pairwise (PySem.W.sortLe_total _ _ _) _
    rw [e, List.pairwise_map] at s
    have nd' : (F'.map (·.1)).Nodup := (p.map _).nodup_iff.mpr nd
    unfold List.Nodup at nd'
    rw [List.pairwise_map] at nd'
    exact (s.and nd').imp fun ⟨h1, h2⟩ => Nat.lt_of_le_of_ne (pr_le h1) h2
  · have a1 : alikeB (F.map pr) = true := by
      unfold alikeB
      rw [Bool.and_eq_true, List.all_eq_true, List.all_eq_true]
      refine ⟨fun a ha => ?_, fun a ha => ?_⟩
      · rw [List.all_eq_true]
        intro b hb
        obtain ⟨i, _, rfl⟩ := List.mem_map.mp ha
        obtain ⟨j, _, rfl⟩ := List.mem_map.mp hb
        rfl
      · obtain ⟨i, _, rfl⟩ := List.mem_map.mp ha
        rfl
    obtain ⟨a2, _, a3⟩ := pds_all (k := 2) (xs := F.map pr) (fun x hx => by
      obtain ⟨q, _, rfl⟩ := List.mem_map.mp hx
      exact pd_pr 1 q)
    have ok : okAlike (F.map pr) = true := by
      unfold okAlike
      rw [a1, a2, decide_eq_true (Nat.le_trans a3 (by decide))]
      rfl
    have so : sorB (F.map pr) = true := by
      unfold sorB
      rw [Bool.or_eq_true]
      refine .inl (List.all_eq_true.mpr fun x hx => ?_)
      obtain ⟨q, _, rfl⟩ := List.mem_map.mp hx
      rfl
    show (if okAlike (F.map pr) && sorB (F.map pr) then some (Rv.ol (srtX (F.map pr))) else none) = _
    rw [ok, so, e]
    rfl
end K80

/-! S8: x in a list of one's own, by rewriting. -/
namespace Gx
open PySem PySem.Spec L2
open PyProof.Rows hiding St
section
variable {ρ : Ev}
def liK (neg : Bool) (o : Option (List PyData)) (d : PyData) (ρ : Ev) : Rs (PyData × Ev) := match o.bind fun xs => inB d (.list xs) with
  | some b => .ok (.bool (if neg then !b else b), ρ)
  | none => .st
def liR (neg : Bool) (o : Option Bool) (ρ : Ev) : Rs (PyData × Ev) := match o with
  | some b => .ok (.bool (if neg then !b else b), ρ)
  | none => .st
end
end Gx

/-! S9: ranges kept, rows from their end, by rewriting. -/
namespace Gx
open PySem PySem.Spec L2
open PyProof.Rows hiding St
section
variable {ρ : Ev}
end
end Gx

/-! S10: two names in a target, told by their slots. -/
namespace Gx
open PySem PySem.Spec L2
open PyProof.Rows hiding St
section
variable {ρ : Ev} {ι : Type} {i j : Nat} {a b : ι → PyData}
theorem tup2_tg {x y : PyData} (hb : isBl ρ[i]? = false) (hbj : isBl (ρ.set i (.fz x))[j]? = false) : hTup 2 (hCons (hName i) (hCons (hName j) hNil)) (.tuple [x, y]) ρ = some ((ρ.set i (.fz x)).set j (.fz y)) := by
  show (if [x, y].length = 2 then hCons (hName i) (hCons (hName j) hNil) [x, y] ρ else none) = _
  rw [if_pos (show [x, y].length = 2 from rfl)]
  show (hName i x ρ).bind (hCons (hName j) hNil [y]) = _
  rw [show hName i x ρ = some (ρ.set i (.fz x)) by unfold hName; rw [hb]; rfl]
  show (hName j y (ρ.set i (.fz x))).bind (hNil []) = _
  rw [show hName j y (ρ.set i (.fz x)) = some ((ρ.set i (.fz x)).set j (.fz y)) by unfold hName; rw [hbj]; rfl]
  rfl
theorem comp_pr {ft : Dn Bool} {fe : Dn PyData} {xs : List ι} (hij : i ≠ j) (hb : isBl ρ[i]? = false) (hbj : isBl ρ[j]? = false) (p : ι → Bool) (g : ι → PyData)
    (ht : ∀ x ∈ xs, ft ((ρ.set i (.fz (a x))).set j (.fz (b x))) = .ok (p x, (ρ.set i (.fz (a x))).set j (.fz (b x)))) (he : ∀ x ∈ xs, p x = true → fe ((ρ.set i (.fz (a x))).set j (.fz (b x))) = .ok (g x, (ρ.set i (.fz (a x))).set j (.fz (b x)))) (hl : xs.length ≤ 16777216) :
    compRun (hTup 2 (hCons (hName i) (hCons (hName j) hNil))) ft fe [i, j] (xs.map fun x => .tuple [a x, b x]) ρ = .ok (.ol ((xs.filter p).map g), ρ) := by
  have li := (isBl_f hb).2
  have lj := (isBl_f hbj).2
  have ew : wipeE ρ [i, j] = (ρ.set j .no).set i .no := rfl
  refine comp_t (u := fun x => PyData.tuple [a x, b x]) (fun x => (ρ.set i (.fz (a x))).set j (.fz (b x))) p g ?_ (fun x => ?_) (fun x => ?_) ?_ ht he hl
  · simp [hb, hbj]
  · rw [ew]
    have h1 : isBl ((ρ.set j .no).set i .no)[i]? = false := by rw [List.getElem?_set_self (by simpa using li)]; rfl
    have h2 : isBl (((ρ.set j .no).set i .no).set i (.fz (a x)))[j]? = false := by
      rw [set_twice, List.getElem?_set_ne hij, List.getElem?_set_self lj]; rfl
    rw [tup2_tg h1 h2, set_twice, List.set_comm _ _ (Ne.symm hij), set_twice]
  · show wipeE ((ρ.set i (.fz (a x))).set j (.fz (b x))) [i, j] = _
    rw [ew]
    show ((((ρ.set i (.fz (a x))).set j (.fz (b x))).set j .no).set i .no) = _
    rw [set_twice, List.set_comm _ _ hij, set_twice, List.set_comm _ _ (Ne.symm hij)]
  · rw [ew]; exact rest2 hij li lj
end
end Gx

/-! KI80: turned, mended. -/
namespace K80
open PySem PySem.Spec L2 Gx M10 Sh
open PyProof.Rows hiding St
local macro_rules
  | `(tactic| simp_arith [$as,*] $[$l]?) => `(tactic| simp (disch := first | omega | (simp only [List.length_cons, List.length_nil, List.length_append, List.length_map, List.length_range, List.length_take, List.length_replicate]; omega)) only [dn_comp, rbOf_rt, dn_popAt, popR_ok, popK_0, q_beq1, q_beq2, q_beq3, q_beq4, q_beq5, q_beq6, q_beq7, q_beq8, dn_R1, dn_chain, chR_ok, rvd_fz, rvd_ol, boolOf_b, dn_orE, orER_b, orER_l, dn_sl, dn_on, dn_off, intOf_i, slice_l, slice_t, r_addL, r_addT, r_ixT, r_ixL, opt_map, atI_0, atI_1, atI_2, atI_3, atI_4, atI_5, arP_t, arP_f, List.getD_cons_zero, List.getD_cons_succ, dn_arP, dn_app, dn_arD, dn_bnd, bndR_ok, bndR_ex, dn_lft, dn_ret, dn_dC, dn_seq, seqR_nx, seqR_rt, seqR_bk, seqR_ct, seqR_ex, dn_nx, dn_call, callR_ok, dn_bin, binR_ok, dn_cmpT, boolR_ok, dn_tru, truR_b, truR_i, truR_n, truR_l, truR_t, dn_notT, dn_not, dn_andT, dn_orT, iteR_t, iteR_f, dn_sIf, dn_dIf, dn_and, dn_orD, andR_b, orR_b, dn_sRet, rtR_ok, dn_sDrop, dn_frz, frzR_fz, frzR_ol, dn_ofD, ofR_ok, ofR_ex, frzR_ex, rtR_ex, dn_sSet, dn_put, ifB_t, ifB_f, rven_fz, rven_ol, isBl_no, isBl_fz, isBl_ol, isBl_ow, dn_name, nameR_fz, nameR_ol, dn_move, moveR_fz, moveR_ol, dn_lenP, lenR_some, dn_peek, peekR_ok, itemR_some, seqE_ol, seqE_bl, seqE_t, seqE_l, seqE_sl, seqE_st, dn_item, itmR_at, dn_nil, dn_cons, consR_ok, consK_ok, dn_tup, dn_lst, dn_un, dn_anil, dn_acons, aconsR_fz, aconsR_ol, aconsK_ok, dn_alend, lendR_ol, lendR_bl, lendR_sc, lent_nil, lent_fz, lent_tp, lent_sc, lent_sl, lentS_n, lentB_n, lentB_s, dn_fn, dn_apply, applyR_some, ar_fz, ar_tp, ar_sc, ar_sl, dn_enSl_ol, dn_enSl_bl, retR_ok, retR_sl, putR_ol, putR_bl, dn_sFor, dn_iSeq, seqOf_l, seqOf_t, dn_iRg1, dn_iRg2, dn_iZp, dn_iZ3, dn_iEnB, dn_sAsg, dn_sApp, ownOf_ol, ownOf_bl, appR_ok, updR_ol, updR_bl, updK_ol, updK_bl, appD_ok, dn_sSetIx, dn_setx, setIxD_eq, dn_sParA, dn_parA, parR_ok, dn_sParX, dn_parX, parXR_ok, rvA_fz, rvA_tp, dn_sPar, nmR_some, nmAll_nil, nmAll_cons, dn_hName, dn_hTup, dn_hNil, dn_hCons, arP_t, arP_f, List.getD_cons_zero, List.getD_cons_succ, dn_arP, dn_app, dn_arD, rtOf_rt, rtOf_nx, cond_true, cond_false, List.getElem?_cons_zero, List.getElem?_cons_succ, List.set_cons_zero, List.set_cons_succ, List.map_cons, List.map_nil, Option.isSome_some, Option.bind_some, Nat.beq_eq_true_eq, List.cons_append, List.nil_append, List.append_nil, List.length_cons, List.length_nil, Nat.reduceSub, Nat.reduceAdd, List.replicate_succ, List.replicate_zero, if_true, Nat.reduceLeDiff, okLen_dn, Bool.not_true, Bool.not_false, Bool.false_eq_true, if_false, dn_newD, rven_od, rvd_od, isBl_od, frzR_od, nameR_od, moveR_od, aconsR_od, rvA_td, ar_td, lent_td, lendR_od, lendR_bd, enSl_od, enSl_bd, putR_od, putR_bd, dicE_od, dicE_bd, dicE_fz, ownD_od, ownD_bd, dn_dk, dkK_some, lkR_some, dn_inD, dn_inT, inK_some, inR_f, inR_t, dn_get1, dn_get2, getK_some, getR_s, getR_n, dn_lenD, lenDR_some, dn_updD, updDR_od, updDR_bd, updDK_od, updDK_bd, dn_putdR, dn_putD, dn_delD, dn_setdD, dn_callK, dn_sUpd, Option.isSome_none, n_addI, n_subI, n_ltI, n_gtI, n_leI, n_geI, n_negI, n_eqI, n_neI, n_lenL, n_lenT, n_tupL, n_tupT, n_lstL, n_lstT, n_isN_n, isi_non, isi2_non, isa_non_non, isa_non_bl, isa_non_int, isa_non_str, isa_non_lst, isa_non_tup, isn_non, isnn_non, isi_bl, isi2_bl, isa_bl_non, isa_bl_bl, isa_bl_int, isa_bl_str, isa_bl_lst, isa_bl_tup, isn_bl, isnn_bl, isi_int, isi2_int, isa_int_non, isa_int_bl, isa_int_int, isa_int_str, isa_int_lst, isa_int_tup, isn_int, isnn_int, isi_str, isi2_str, isa_str_non, isa_str_bl, isa_str_int, isa_str_str, isa_str_lst, isa_str_tup, isn_str, isnn_str, isi_lst, isi2_lst, isa_lst_non, isa_lst_bl, isa_lst_int, isa_lst_str, isa_lst_lst, isa_lst_tup, isn_lst, isnn_lst, isi_tup, isi2_tup, isa_tup_non, isa_tup_bl, isa_tup_int, isa_tup_str, isa_tup_lst, isa_tup_tup, isn_tup, isnn_tup, Bool.or_true, Bool.or_false, Bool.true_or, Bool.false_or, Bool.or_self, bq_tt, bq_tf, bq_ft, bq_ff, bn_tt, bn_tf, bn_ft, bn_ff, $as,*] $[$l]?)
section
variable {ρ : Ev}
def itmsR (o : Option Ps) (ρ : Ev) : Rs (Rv × Ev) := match o with
  | some ps => .ok (.ol (ps.map Gx.prD), ρ)
  | none => .st
theorem dn_itemsL (i : Nat) : dItemsL i ρ = itmsR (dicE ρ[i]?) ρ := by
  unfold dItemsL itmsR
  cases dicE ρ[i]? <;> rfl
theorem itmsR_some (ps : Ps) : itmsR (some ps) ρ = .ok (.ol (ps.map Gx.prD), ρ) := (rfl)
def twoR (i j : Nat) (fk fl : Dn PyData) : PyData → Dn Fl := fun d => match d with
  | .tuple [a, b] => fun ρ => if (ownOfD ρ[i]?).isSome then bnd fk (fun k => bnd (updD i (putD a k)) fun _ ρ => if (ownOfD ρ[j]?).isSome then bnd fl (fun l => updD j (putD b l)) ρ else .st) ρ else .st
  | _ => fun _ => .st
theorem dn_sTwoP (i j : Nat) (fk fl f : Dn PyData) : sTwoP i j fk fl f ρ = bndR (f ρ) (twoR i j fk fl) := dn_bnd _ _
theorem twoR_t (i j : Nat) (fk fl : Dn PyData) (a b : PyData) : twoR i j fk fl (.tuple [a, b]) ρ = if (ownOfD ρ[i]?).isSome then bndR (fk ρ) (fun k ρ => bndR (updD i (putD a k) ρ) fun _ ρ => if (ownOfD ρ[j]?).isSome then bndR (fl ρ) (fun l => updD j (putD b l)) else .st) else .st := by
  show (if (ownOfD ρ[i]?).isSome then bnd fk (fun k => bnd (updD i (putD a k)) fun _ ρ => if (ownOfD ρ[j]?).isSome then bnd fl (fun l => updD j (putD b l)) ρ else .st) ρ else .st) = _
  simp only [dn_bnd]
  have e : (fun k => bnd (updD i (putD a k)) fun (_ : Fl) ρ => if (ownOfD ρ[j]?).isSome = true then bndR (fl ρ) (fun l => updD j (putD b l)) else .st) = (fun k ρ => bndR (updD i (putD a k) ρ) fun (_ : Fl) ρ => if (ownOfD ρ[j]?).isSome = true then bndR (fl ρ) (fun l => updD j (putD b l)) else .st) := by
    funext k ρ
    exact dn_bnd _ _
  rw [e]
end
theorem max_nn (a b : Nat) : max2D [intM a, intM b] = some (.fz (intM (max a b))) := by
  show some (Rv.fz (.int (if (b : Int) > (a : Int) then (b : Int) else (a : Int)))) = some (.fz (.int ((max a b : Nat) : Int)))
  congr 3
  split <;> omega
/-! ### mended -/
def mm' (S : PR × PR) (k : Nat) : Nat := max ((lk S.1 k).getD 0) ((lk S.2 k).getD 0)
def mst (S : PR × PR) (k : Nat) : PR × PR := (putN S.1 k (mm' S k), putN S.2 k (mm' S k))
theorem items_pq (L : PR) : (L.map pq).map Gx.prD = L.map pr := by rw [List.map_map]; rfl
theorem mst_inv (F : List Nat) : ∀ S : PR × PR, (S.1.map (·.1)).Nodup → (S.2.map (·.1)).Nodup → ((F.foldl mst S).1.map (·.1)).Nodup ∧ ((F.foldl mst S).2.map (·.1)).Nodup ∧ (F.foldl mst S).1.length ≤ S.1.length + F.length ∧ (F.foldl mst S).2.length ≤ S.2.length + F.length := by
  induction F with
  | nil => intro S h1 h2; exact ⟨h1, h2, Nat.le_refl _, Nat.le_refl _⟩
  | cons k F ih =>
    intro S h1 h2
    obtain ⟨a1, a2, a3, a4⟩ := ih (mst S k) (put_nd h1) (put_nd h2)
    have b1 : (mst S k).1.length ≤ S.1.length + 1 := put_len
    have b2 : (mst S k).2.length ≤ S.2.length + 1 := put_len
    rw [List.length_cons]
    exact ⟨a1, a2, Nat.le_trans a3 (by omega), Nat.le_trans a4 (by omega)⟩
theorem mst_lk (F : List Nat) : ∀ (S : PR × PR) (i : Nat), (i ∉ F → lk (F.foldl mst S).1 i = lk S.1 i ∧ lk (F.foldl mst S).2 i = lk S.2 i) ∧ (i ∈ F → lk (F.foldl mst S).1 i = lk (F.foldl mst S).2 i) := by
  induction F with
  | nil => intro S i; exact ⟨fun _ => ⟨rfl, rfl⟩, fun h => by cases h⟩
  | cons k F ih =>
    intro S i
    obtain ⟨a1, a2⟩ := ih (mst S k) i
    have l1 : lk (mst S k).1 i = if i = k then some (mm' S k) else lk S.1 i := lk_put
    have l2 : lk (mst S k).2 i = if i = k then some (mm' S k) else lk S.2 i := lk_put
    refine ⟨fun h => ?_, fun h => ?_⟩
    · rw [List.mem_cons, not_or] at h
      obtain ⟨b1, b2⟩ := a1 h.2
      rw [if_neg h.1] at l1 l2
      exact ⟨b1.trans l1, b2.trans l2⟩
    · by_cases hF : i ∈ F
      · exact a2 hF
      · obtain ⟨b1, b2⟩ := a1 hF
        have e : i = k := (List.mem_cons.mp h).resolve_right hF
        rw [if_pos e] at l1 l2
        exact (b1.trans l1).trans (b2.trans l2).symm
theorem mended_ev {P Q : PR} {F : List Nat} (nP : (P.map (·.1)).Nodup) (nQ : (Q.map (·.1)).Nodup) (hP : P.length ≤ 100) (hQ : Q.length ≤ 100) (hF : F.length ≤ 100) :
    ∃ P' Q' : PR, P'.Perm (F.foldl mst (P, Q)).1 ∧ Q'.Perm (F.foldl mst (P, Q)).2 ∧ P'.Pairwise (fun a b => a.1 < b.1) ∧ Q'.Pairwise (fun a b => a.1 < b.1) ∧
      Gv den_law_mended [.fz (row P), .fz (row Q), .fz (.list (F.map intM))] (.fz (.tuple [row P', row Q'])) := by
  obtain ⟨i1, i2, i3, i4⟩ := mst_inv F (P, Q) nP nQ
  obtain ⟨P', p1, p2, p3⟩ := sort_pr _ i1
  obtain ⟨Q', q1, q2, q3⟩ := sort_pr _ i2
  refine ⟨P', Q', p1, q1, p2, q2, ?_⟩
  obtain ⟨o', no', q⟩ := loop_w (u := intM) (tg := hName 3) (fb := lb_law_mended) F (fun n o => [.fz (row P), .fz (row Q), .fz (.list (F.map intM)), o 0, .od (((F.take n).foldl mst (P, Q)).1.map pq), .od (((F.take n).foldl mst (P, Q)).2.map pq), o 1]) (fun n x o hx no => by
    obtain ⟨j1, j2, j3, j4⟩ := mst_inv (F.take n) (P, Q) nP nQ
    have hn : (F.take n).length ≤ F.length := by rw [List.length_take]; omega
    have e : (F.take (n + 1)).foldl mst (P, Q) = mst ((F.take n).foldl mst (P, Q)) x := by
      rw [List.take_succ, hx, List.foldl_append]
      rfl
    rw [e]
    have j3 : ((F.take n).foldl mst (P, Q)).1.length ≤ 1000 := Nat.le_trans j3 (by show P.length + _ ≤ 1000; omega)
    have j4 : ((F.take n).foldl mst (P, Q)).2.length ≤ 1000 := Nat.le_trans j4 (by show Q.length + _ ≤ 1000; omega)
    generalize (F.take n).foldl mst (P, Q) = S at *
    have g1 : ∀ ρ, getR (.int 0) (some ((lk S.1 x).map intM)) ρ = .ok (intM ((lk S.1 x).getD 0), ρ) := fun ρ => by cases lk S.1 x <;> rfl
    have g2 : ∀ ρ, getR (.int 0) (some ((lk S.2 x).map intM)) ρ = .ok (intM ((lk S.2 x).getD 0), ρ) := fun ρ => by cases lk S.2 x <;> rfl
    have mx : max2D [intM ((lk S.1 x).getD 0), intM ((lk S.2 x).getD 0)] = some (.fz (intM (mm' S x))) := max_nn _ _
    have u1 : putD (intM (mm' S x)) (intM x) (S.1.map pq) = some ((putN S.1 x (mm' S x)).map pq) := put_pq j3
    have u2 : putD (intM (mm' S x)) (intM x) (S.2.map pq) = some ((putN S.2 x (mm' S x)).map pq) := put_pq j4
    refine ⟨_, f2 (.fz (intM x)) (.fz (intM (mm' S x))), nb2 rfl rfl, tg_name (no 0), ?_⟩
    unfold lb_law_mended
    simp_arith [atK_pq, g1, g2, mx, no 1, dn_sTwoP, twoR_t, u1, u2]
    rfl) f0 nb0
  rw [List.take_length] at q
  simp only [f0, List.take_zero, List.foldl_nil] at q
  have lP : listD [row P] = some (.ol (P.map pr)) := rfl
  have lQ : listD [row Q] = some (.ol (Q.map pr)) := rfl
  have d1 := dict_row nP
  have d2 := dict_row nQ
  have t1 : tupleD [.list (P'.map pr)] = some (.fz (row P')) := rfl
  have t2 : tupleD [.list (Q'.map pr)] = some (.fz (row Q')) := rfl
  refine gv_rt ?_
  unfold b_law_mended
  simp_arith [lP, lQ, d1, d2, ↓q, dn_itemsL, itmsR_some, items_pq, p3, q3, t1, t2]
/-! ### turned -/
section
variable {w d : Nat} {z b : Int} {P : PR}
def OkL (W m : Nat) (L : PR) : Prop := (L.map (·.1)).Nodup ∧ (∀ x ∈ L, x.1 < W ∧ 1 ≤ x.2 ∧ x.2 < 2000) ∧ L.length ≤ m
theorem okL_put {W m k v : Nat} {L : PR} (h : OkL W m L) (hk : k < W) (v1 : 1 ≤ v) (v2 : v < 2000) : OkL W (m + 1) (putN L k v) := ⟨put_nd h.1, fun x hx => by
  rcases put_mem hx with hx | rfl
  · exact h.2.1 x hx
  · exact ⟨hk, v1, v2⟩, Nat.le_trans put_len (by have := h.2.2; omega)⟩
theorem okL_up {W m : Nat} {L : PR} (h : OkL W m L) : OkL W (m + 1) L := ⟨h.1, h.2.1, Nat.le_trans h.2.2 (Nat.le_succ _)⟩
theorem turned_ev {n : Nat} {t : List PyData} (hw : w < 100) (hd : d < 1000) (h64 : w ^ d ≤ 64) (h : TinOk n t) (hn : n < 700000) (hP : P.length ≤ 9) (pP : ∀ x ∈ P, x.1 < w ^ d ∧ 1 ≤ x.2 ∧ x.2 < 1000) :
    ∃ (Q : PR) (t' : List PyData) (es : List En), Q.length ≤ 12 ∧ (∀ x ∈ Q, x.1 < w ^ d ∧ 1 ≤ x.2 ∧ x.2 < 2000) ∧ (Q.map (·.1)).Pairwise (· < ·) ∧ TinOk (n + 400) t' ∧ den_turned [.bl t, .fz (tre w d z b), .fz (row P)] = .ok (.fz (row Q), .bl t' :: es) := by
  obtain ⟨⟨t1, L1⟩, o1, ⟨ht1, ok1⟩, no1, q1⟩ := loop_i (u := pr) (tg := hTup 2 (hCons (hName 4) (hCons (hName 5) hNil))) (fb := lb_turned) (fun m (S : List PyData × PR) => TinOk (n + 2 * m) S.1 ∧ OkL (w ^ d) m S.2) (fun S o => [.bl S.1, .fz (tre w d z b), .fz (row P), .od (S.2.map pq), o 0, o 1, o 2]) P (fun m x S o hx ⟨hT, ok⟩ no => by
    obtain ⟨s, L⟩ := S
    have hx' := pP x (List.mem_of_getElem? hx)
    have hm : m < P.length := (List.getElem?_eq_some_iff.mp hx).1
    obtain ⟨c, s1, hc, hT1, e1⟩ := take_n (b := 8) hT (by omega) (by decide) (by decide)
    have e1 : den_take [.bl s, .fz (.int 8)] = .ok (.fz (intM c), [.bl s1, .fz (.int 8)]) := e1
    have gt0 : gtD (intM c) (.int 0) = some (.fz (.bool (decide (0 < c)))) := by
      show gtD (.int (c : Int)) (.int 0) = _
      rw [n_gtI, show decide ((0 : Int) < (c : Int)) = decide (0 < c) from decide_eq_decide.mpr (by omega)]
    have lt3 : ltD (intM c) (.int 3) = some (.fz (.bool (decide (c < 3)))) := ltM c 3
    by_cases c0 : 0 < c
    · obtain ⟨j, s2, hj, hT2, e2⟩ := take_n (b := 4) hT1 (by omega) (by decide) (by decide)
      have e2 : den_take [.bl s1, .fz (.int 4)] = .ok (.fz (intM j), [.bl s2, .fz (.int 4)]) := e2
      have a1 : addD (.int 1) (intM j) = some (.fz (intM (1 + j))) := addM 1 j
      have hL : L.length ≤ 1000 := by
        have : L.length ≤ _ := ok.2.2
        omega
      refine ⟨_, (s2, putN L x.1 (x.2 + (if c < 3 then 1 + j else 0))), f3 (.fz (intM x.1)) (.fz (intM x.2)) (.fz (intM c)), ⟨hT2.mono (by omega), okL_put ok hx'.1 (by omega) (by split <;> omega)⟩, nb3 rfl rfl rfl, tup2_tg (by exact no 0) (by exact no 1), ?_⟩
      have u1 : putD (intM (x.2 + (if c < 3 then 1 + j else 0))) (intM x.1) (L.map pq) = some ((putN L x.1 (x.2 + (if c < 3 then 1 + j else 0))).map pq) := put_pq hL
      unfold lb_turned
      by_cases c3 : c < 3
      · have i1 : intD [.bool true] = some (.fz (.int 1)) := rfl
        have m1 : mulD (.int 1) (intM (1 + j)) = some (.fz (intM (1 + j))) := by
          rw [show mulD (.int 1) (intM (1 + j)) = _ from mulD_l (by decide), Int.one_mul]; rfl
        rw [if_pos c3] at u1 ⊢
        simp_arith [e1, no 2, gt0, decide_eq_true c0, lt3, decide_eq_true c3, i1, e2, a1, m1, addM, u1]
        rfl
      · have i1 : intD [.bool false] = some (.fz (.int 0)) := rfl
        have m1 : mulD (.int 0) (intM (1 + j)) = some (.fz (intM 0)) := by
          rw [show mulD (.int 0) (intM (1 + j)) = _ from mulD_l (by decide), Int.zero_mul]; rfl
        rw [if_neg c3] at u1 ⊢
        simp_arith [e1, no 2, gt0, decide_eq_true c0, lt3, decide_eq_false c3, i1, e2, a1, m1, addM, u1]
        rfl
    · refine ⟨_, (s1, L), f3 (.fz (intM x.1)) (.fz (intM x.2)) (.fz (intM c)), ⟨hT1.mono (by omega), okL_up ok⟩, nb3 rfl rfl rfl, tup2_tg (by exact no 0) (by exact no 1), ?_⟩
      unfold lb_turned
      simp_arith [e1, no 2, gt0, decide_eq_false c0]
      rfl) (t, []) f0 ⟨by simpa using h, by simp [OkL]⟩ nb0
  obtain ⟨R, t2, es2, Rl, Rb, Ra, ht2, e2⟩ := leaves_ev (w := w) (d := d) (z := z) (b := b) hw hd h64 ht1 (by omega)
  obtain ⟨⟨t3, L3⟩, o3, ⟨ht3, ok3⟩, no3, q3⟩ := loop_i (u := pr) (tg := hTup 2 (hCons (hName 4) (hCons (hName 5) hNil))) (fb := lb_turned_2) (fun m (S : List PyData × PR) => TinOk (n + 2 * P.length + 300 + m) S.1 ∧ OkL (w ^ d) (9 + m) S.2) (fun S o => [.bl S.1, .fz (tre w d z b), .fz (row P), .od (S.2.map pq), o 0, o 1, o 2]) (R.take 3) (fun m x S o hx ⟨hT, ok⟩ no => by
    obtain ⟨s, L⟩ := S
    have hx' := Rb x (List.mem_of_mem_take (List.mem_of_getElem? hx))
    have hm : m < 3 := by
      have := (List.getElem?_eq_some_iff.mp hx).1
      rw [List.length_take] at this
      omega
    obtain ⟨c, s1, hc, hT1, e1⟩ := take_n (b := 2) hT (by omega) (by decide) (by decide)
    have e1 : den_take [.bl s, .fz (.int 2)] = .ok (.fz (intM c), [.bl s1, .fz (.int 2)]) := e1
    have eq0 : eqD (intM c) (.int 0) = some (.fz (.bool (decide (c = 0)))) := eqMM c 0
    have hL : L.length ≤ 1000 := by
        have : L.length ≤ _ := ok.2.2
        omega
    by_cases c0 : c = 0
    · refine ⟨_, (s1, putN L x.1 x.2), f3 (.fz (intM x.1)) (.fz (intM x.2)) (o 2), ⟨hT1.mono (by omega), okL_put ok hx'.1 hx'.2.1 (by omega)⟩, nb3 rfl rfl (no 2), tup2_tg (by exact no 0) (by exact no 1), ?_⟩
      have u1 : putD (intM x.2) (intM x.1) (L.map pq) = some ((putN L x.1 x.2).map pq) := put_pq hL
      unfold lb_turned_2
      simp_arith [e1, eq0, decide_eq_true c0, u1]
      rfl
    · refine ⟨_, (s1, L), f3 (.fz (intM x.1)) (.fz (intM x.2)) (o 2), ⟨hT1.mono (by omega), okL_up ok⟩, nb3 rfl rfl (no 2), tup2_tg (by exact no 0) (by exact no 1), ?_⟩
      unfold lb_turned_2
      simp_arith [e1, eq0, decide_eq_false c0]
      rfl) (t2, L1) o1 ⟨by simpa using ht2, ⟨ok1.1, ok1.2.1, Nat.le_trans ok1.2.2 (by omega)⟩⟩ no1
  have hl3 : L3.length ≤ 12 := by
    have : L3.length ≤ 9 + (R.take 3).length := ok3.2.2
    rw [List.length_take] at this
    omega
  obtain ⟨ks, kp, kw, ke⟩ := sortN (ms := L3.map (·.1)) (by rw [List.length_map]; omega)
  have ka : ks.Pairwise (· < ·) := (kw.and (kp.nodup_iff.mpr ok3.1)).imp fun ⟨h1, h2⟩ => Nat.lt_of_le_of_ne h1 h2
  have kl : ks.length ≤ 12 := by rw [kp.length_eq, List.length_map]; exact hl3
  have kin : ∀ k ∈ ks, ∃ v, lk L3 k = some v := fun k hk => by
    cases e : lk L3 k with
    | none => exact absurd (kp.mem_iff.mp hk) (lk_none.mp e)
    | some v => exact ⟨v, rfl⟩
  have sl : cutD (R.map pr) none (some (3 : Int)) = (R.take 3).map pr := by rw [List.map_take]; exact cut_tk (n := 3)
  have sq : seqOf (row (R.take 3)) = some ((R.take 3).map pr) := rfl
  have s2 : sliceD (row R) none (some 3) = some (.fz (row (R.take 3))) := by
    show sliceD (.tuple (R.map pr)) none (some 3) = _
    rw [slice_t, sl]
    rfl
  have kd' : listDX [dicD (L3.map pq)] = some (.ol ((L3.map (·.1)).map intM)) := by
    show some (Rv.ol ((L3.map pq).map (·.1))) = _
    rw [List.map_map, List.map_map]
    rfl
  refine ⟨ks.map fun k => (k, (lk L3 k).getD 0), t3, ?_⟩
  have q1 : loopF (hTup 2 (hCons (hName 4) (hCons (hName 5) hNil))) lb_turned (P.map pr) [.bl t, .fz (tre w d z b), .fz (row P), .od [], .no, .no, .no] = _ := q1
  have sqP : seqOf (row P) = some (P.map pr) := rfl
  obtain ⟨es, e⟩ := gv_rb (n := 3) (N := 7) (f := b_turned) (t := t) (t' := t3) (as := [.fz (tre w d z b), .fz (row P)]) (r := .fz (row (ks.map fun k => (k, (lk L3 k).getD 0)))) (by
    unfold b_turned
    simp only [List.cons_append, List.nil_append, Nat.reduceSub, List.replicate_succ, List.replicate_zero]
    simp_arith [sqP, ↓q1, e2, sq, s2, ↓q3, kd', ke]
    rw [comp_m (u := intM) (g := fun k => pr (k, (lk L3 k).getD 0)) (by exact no3 0) (fun k hk => by
      obtain ⟨v, hv⟩ := kin k hk
      have av : atK (L3.map pq) (intM k) = some (some (intM v)) := by rw [atK_pq, hv]; rfl
      unfold ce_turned
      simp_arith [av]
      rw [hv]
      rfl) (by omega)]
    simp_arith []
    unfold row
    rw [List.map_map]
    rfl)
  refine ⟨es, by rw [List.length_map]; exact kl, fun x hx => ?_, ?_, ht3.mono (by
    have : (R.take 3).length ≤ 3 := by rw [List.length_take]; omega
    omega), e⟩
  · obtain ⟨k, hk, rfl⟩ := List.mem_map.mp hx
    obtain ⟨v, hv⟩ := kin k hk
    have := ok3.2.1 _ (lk_mem hv)
    show k < w ^ d ∧ 1 ≤ (lk L3 k).getD 0 ∧ (lk L3 k).getD 0 < 2000
    rw [hv]
    exact this
  · rw [List.map_map]
    exact (List.map_id ks).symm ▸ ka
end
end K80

/-! KJ80: what the mending does to the table (pure). -/
namespace K80
open PySem PySem.Spec L2 Gx M10 Sh
open PyProof.Rows hiding St
theorem asc_ext {α : Type} {R : α → α → Prop} (irr : ∀ a, ¬ R a a) (asym : ∀ a b, R a b → ¬ R b a) : ∀ {X Y : List α}, X.Pairwise R → Y.Pairwise R → (∀ x, x ∈ X ↔ x ∈ Y) → X = Y
  | [], [], _, _, _ => rfl
  | [], y :: Y, _, _, h => by have := (h y).mpr (by simp); cases this
  | x :: X, [], _, _, h => by have := (h x).mp (by simp); cases this
  | x :: X, y :: Y, hx, hy, h => by
    rw [List.pairwise_cons] at hx hy
    have e : x = y := by
      rcases List.mem_cons.mp ((h x).mp (by simp)) with e | m1
      · exact e
      · rcases List.mem_cons.mp ((h y).mpr (by simp)) with e | m2
        · exact e.symm
        · exact absurd (hx.1 y m2) (asym _ _ (hy.1 x m1))
    subst e
    congr 1
    refine asc_ext irr asym hx.2 hy.2 fun z => ⟨fun hz => ?_, fun hz => ?_⟩
    · rcases List.mem_cons.mp ((h z).mp (by simp [hz])) with e | m
      · subst e; exact absurd (hx.1 _ hz) (irr _)
      · exact m
    · rcases List.mem_cons.mp ((h z).mpr (by simp [hz])) with e | m
      · subst e; exact absurd (hy.1 _ hz) (irr _)
      · exact m
section
variable {w d : Nat} {z b : Int} {P Q : PR}
theorem sb_F : ∀ k j : Nat, bsF w d z b P Q k j = true → bpF w d P Q k j = true := fun k j h => by
  unfold bpF
  by_cases e : sel (j * w ^ (d - k)) (j * w ^ (d - k) + w ^ (d - k)) P = sel (j * w ^ (d - k)) (j * w ^ (d - k) + w ^ (d - k)) Q
  · unfold bsF at h
    rw [e, eqB_self] at h
    cases h
  · rw [decide_eq_false e]; rfl
theorem sel_sel {a c a' c' : Nat} (h1 : a ≤ a') (h2 : c' ≤ c) (P : PR) : sel a' c' (sel a c P) = sel a' c' P := by
  unfold sel
  rw [List.filter_filter]
  refine filter_cg fun x _ => ?_
  by_cases k1 : a' ≤ x.1 <;> by_cases k2 : x.1 < c' <;> simp [k1, k2]
  omega
theorem up_F (hw : 0 < w) : Up w d (bpF w d P Q) := fun k j hk h => by
  unfold bpF at h ⊢
  by_cases e : sel (j / w * w ^ (d - k)) (j / w * w ^ (d - k) + w ^ (d - k)) P = sel (j / w * w ^ (d - k)) (j / w * w ^ (d - k) + w ^ (d - k)) Q
  · exfalso
    rw [pow_s hk] at e
    generalize w ^ (d - (k + 1)) = s at e h
    have d1 : w * (j / w) + j % w = j := Nat.div_add_mod j w
    have d2 := Nat.mod_lt j hw
    have m1 : j / w * (s * w) ≤ j * s := by
      have : (w * (j / w)) * s ≤ j * s := Nat.mul_le_mul_right s (by omega)
      calc j / w * (s * w) = (w * (j / w)) * s := by rw [Nat.mul_comm w, Nat.mul_assoc, Nat.mul_comm w s]
        _ ≤ j * s := this
    have m2 : j * s + s ≤ j / w * (s * w) + s * w := by
      have : (j + 1) * s ≤ (w * (j / w) + w) * s := Nat.mul_le_mul_right s (by omega)
      calc j * s + s = (j + 1) * s := by rw [Nat.succ_mul]
        _ ≤ (w * (j / w) + w) * s := this
        _ = j / w * (s * w) + s * w := by rw [Nat.add_mul, Nat.mul_comm w (j / w), Nat.mul_assoc, Nat.mul_comm w s]
    have e2 : sel (j * s) (j * s + s) P = sel (j * s) (j * s + s) Q := by rw [← sel_sel m1 m2 P, e, sel_sel m1 m2 Q]
    rw [e2, decide_eq_true rfl] at h
    cases h
  · rw [decide_eq_false e]; rfl
theorem bs_symm : bsF w d z b P Q = bsF w d z b Q P := by
  funext k j
  unfold bsF
  congr 1
  cases e : eqB (sm z b (sel (j * w ^ (d - k)) (j * w ^ (d - k) + w ^ (d - k)) P)) (sm z b (sel (j * w ^ (d - k)) (j * w ^ (d - k) + w ^ (d - k)) Q)) with
  | true => rw [eqB_iff.mpr (eqB_iff.mp e).symm]
  | false =>
    cases e2 : eqB (sm z b (sel (j * w ^ (d - k)) (j * w ^ (d - k) + w ^ (d - k)) Q)) (sm z b (sel (j * w ^ (d - k)) (j * w ^ (d - k) + w ^ (d - k)) P)) with
    | false => rfl
    | true => rw [eqB_iff.mpr (eqB_iff.mp e2).symm] at e; cases e
theorem bp_symm : bpF w d P Q = bpF w d Q P := by
  funext k j
  unfold bpF
  congr 1
  exact decide_eq_decide.mpr eq_comm
theorem sel1_mem {P : PR} {j : Nat} {x : Nat × Nat} : x ∈ sel (j * w ^ (d - d)) (j * w ^ (d - d) + w ^ (d - d)) P ↔ x ∈ P ∧ x.1 = j := by
  rw [Nat.sub_self, Nat.pow_zero, Nat.mul_one]
  unfold sel
  rw [List.mem_filter, Bool.and_eq_true, decide_eq_true_iff, decide_eq_true_iff]
  constructor
  · rintro ⟨h1, h2, h3⟩; exact ⟨h1, by omega⟩
  · rintro ⟨h1, h2⟩; exact ⟨h1, by omega, by omega⟩
theorem bp_key {j : Nat} (h : bpF w d P Q d j = true) : j ∈ P.map (·.1) ∨ j ∈ Q.map (·.1) := by
  by_cases h1 : j ∈ P.map (·.1)
  · exact .inl h1
  · by_cases h2 : j ∈ Q.map (·.1)
    · exact .inr h2
    · exfalso
      have n : ∀ {L : PR}, j ∉ L.map (·.1) → sel (j * w ^ (d - d)) (j * w ^ (d - d) + w ^ (d - d)) L = [] := fun {L} hn => by
        rw [List.eq_nil_iff_forall_not_mem]
        intro x hx
        obtain ⟨a1, a2⟩ := sel1_mem.mp hx
        exact hn (List.mem_map.mpr ⟨x, a1, a2⟩)
      unfold bpF at h
      rw [n h1, n h2, decide_eq_true rfl] at h
      cases h
theorem fnd_card : (fnd w d (bsF w d z b P Q)).length ≤ P.length + Q.length := by
  have nd : (fnd w d (bsF w d z b P Q)).Nodup := (fnd_sorted _).imp fun h => Nat.ne_of_lt h
  have := List.Nodup.length_le_of_subset nd (l₂ := P.map (·.1) ++ Q.map (·.1)) (fun j hj => by
    have hj : j ∈ fnd w d (bsF w d z b P Q) := hj
    exact List.mem_append.mpr (bp_key (fnd_sub sb_F hj).2))
  rw [List.length_append, List.length_map, List.length_map] at this
  exact this
abbrev Asc (P : PR) : Prop := P.Pairwise fun a b => a.1 < b.1
theorem asc_nd {P : PR} (h : Asc P) : (P.map (·.1)).Nodup := by
  unfold List.Nodup
  rw [List.pairwise_map]
  exact h.imp fun h => Nat.ne_of_lt h
theorem row_ext {X Y : PR} (hx : Asc X) (hy : Asc Y) (h : ∀ i, lk X i = lk Y i) : X = Y := by
  refine asc_ext (R := fun a b : Nat × Nat => a.1 < b.1) (fun a => Nat.lt_irrefl _) (fun a b h1 h2 => by omega) hx hy fun x => ?_
  constructor
  · intro hm
    exact lk_mem ((h x.1).symm.trans (lk_of (asc_nd hx) hm))
  · intro hm
    exact lk_mem ((h x.1).trans (lk_of (asc_nd hy) hm))
theorem lk_perm {X Y : PR} (p : X.Perm Y) (nd : (Y.map (·.1)).Nodup) (i : Nat) : lk X i = lk Y i := by
  have ndx : (X.map (·.1)).Nodup := (p.map _).nodup_iff.mpr nd
  cases e : lk Y i with
  | some v => exact lk_of ndx (p.mem_iff.mpr (lk_mem e))
  | none =>
    exact lk_none.mpr fun hm => lk_none.mp e ((p.map _).mem_iff.mp hm)
theorem asc_sel {X : PR} (h : Asc X) (a c : Nat) : Asc (sel a c X) := h.filter _
theorem sel_lk {X Y : PR} (hx : Asc X) (hy : Asc Y) {j : Nat} (h : lk X j = lk Y j) : bpF w d X Y d j = false := by
  have e : sel (j * w ^ (d - d)) (j * w ^ (d - d) + w ^ (d - d)) X = sel (j * w ^ (d - d)) (j * w ^ (d - d) + w ^ (d - d)) Y := by
    refine asc_ext (R := fun a b : Nat × Nat => a.1 < b.1) (fun a => Nat.lt_irrefl _) (fun a b h1 h2 => by omega) (asc_sel hx _ _) (asc_sel hy _ _) fun x => ?_
    rw [sel1_mem, sel1_mem]
    constructor
    · rintro ⟨h1, h2⟩
      exact ⟨lk_mem (by rw [h2, ← h, ← h2]; exact lk_of (asc_nd hx) h1), h2⟩
    · rintro ⟨h1, h2⟩
      exact ⟨lk_mem (by rw [h2, h, ← h2]; exact lk_of (asc_nd hy) h1), h2⟩
  unfold bpF
  rw [e, decide_eq_true rfl]
  rfl
theorem lk_sel {X Y : PR} (hx : Asc X) (hy : Asc Y) {j : Nat} (h : bpF w d X Y d j = false) : lk X j = lk Y j := by
  have e : sel (j * w ^ (d - d)) (j * w ^ (d - d) + w ^ (d - d)) X = sel (j * w ^ (d - d)) (j * w ^ (d - d) + w ^ (d - d)) Y := by
    unfold bpF at h
    simpa using h
  have f : ∀ {A B : PR}, Asc A → Asc B → sel (j * w ^ (d - d)) (j * w ^ (d - d) + w ^ (d - d)) A = sel (j * w ^ (d - d)) (j * w ^ (d - d) + w ^ (d - d)) B → ∀ v, lk A j = some v → lk B j = some v := fun {A B} _ hb e v hv => by
    have m : ((j, v) : Nat × Nat) ∈ sel (j * w ^ (d - d)) (j * w ^ (d - d) + w ^ (d - d)) A := sel1_mem.mpr ⟨lk_mem hv, rfl⟩
    rw [e] at m
    exact lk_of (asc_nd hb) (sel1_mem.mp m).1
  cases e1 : lk X j with
  | some v => exact (f hx hy e v e1).symm
  | none =>
    cases e2 : lk Y j with
    | none => rfl
    | some v => rw [f hy hx e.symm v e2] at e1; cases e1
theorem mended_at {F : List Nat} {P' Q' : PR} (nP : (P.map (·.1)).Nodup) (nQ : (Q.map (·.1)).Nodup) (p : P'.Perm (F.foldl mst (P, Q)).1) (q : Q'.Perm (F.foldl mst (P, Q)).2) (aP : Asc P') (aQ : Asc Q') {j : Nat} (hj : j ∈ F) : bpF w d P' Q' d j = false := by
  obtain ⟨n1, n2, _, _⟩ := mst_inv F (P, Q) nP nQ
  refine sel_lk aP aQ ?_
  rw [lk_perm p n1, lk_perm q n2]
  exact (mst_lk F (P, Q) j).2 hj
theorem mended_all {F : List Nat} {P' Q' : PR} (hP : Asc P) (hQ : Asc Q) (bP : ∀ x ∈ P, x.1 < w ^ d) (bQ : ∀ x ∈ Q, x.1 < w ^ d) (p : P'.Perm (F.foldl mst (P, Q)).1) (q : Q'.Perm (F.foldl mst (P, Q)).2) (aP : Asc P') (aQ : Asc Q')
    (hF : F = (List.range (w ^ d)).filter (bpF w d P Q d)) : P' = Q' := by
  obtain ⟨n1, n2, _, _⟩ := mst_inv F (P, Q) (asc_nd hP) (asc_nd hQ)
  refine row_ext aP aQ fun i => ?_
  rw [lk_perm p n1, lk_perm q n2]
  by_cases h : i ∈ F
  · exact (mst_lk F (P, Q) i).2 h
  · obtain ⟨e1, e2⟩ := (mst_lk F (P, Q) i).1 h
    rw [e1, e2]
    show lk P i = lk Q i
    by_cases hi : i < w ^ d
    · refine lk_sel (w := w) (d := d) hP hQ ?_
      cases e : bpF w d P Q d i with
      | false => rfl
      | true => exact absurd (by rw [hF]; exact List.mem_filter.mpr ⟨List.mem_range.mpr hi, e⟩) h
    · have nn : ∀ {L : PR}, (∀ x ∈ L, x.1 < w ^ d) → lk L i = none := fun {L} hb => lk_none.mpr fun hm => by
        obtain ⟨x, hx, e⟩ := List.mem_map.mp hm
        have := hb x hx
        omega
      rw [nn bP, nn bQ]
theorem bs_self : bsF w d z b P P = fun _ _ => false := by
  funext k j
  unfold bsF
  rw [eqB_self]
  rfl
theorem bp_self : bpF w d P P = fun _ _ => false := by
  funext k j
  unfold bpF
  rw [decide_eq_true rfl]
  rfl
theorem lv_f : ∀ k : Nat, lv w (fun _ _ => false) (k + 1) = []
  | 0 => rfl
  | k + 1 => by
    show ((lv w (fun _ _ => false) (k + 1)).filter _).flatMap (kid w) = []
    rw [lv_f k]
    rfl
theorem fnd_f : fnd w d (fun _ _ => false) = [] := by
  unfold fnd
  exact List.filter_eq_nil_iff.mpr fun _ _ => by simp
theorem sum_f {f : Nat → Nat} (h0 : f 0 = 1) (h : ∀ k, f (k + 1) = 0) : ∀ n : Nat, sumT f (n + 1) = 1
  | 0 => by show 0 + f 0 = 1; omega
  | n + 1 => by
    show sumT f (n + 1) + f (n + 1) = 1
    rw [sum_f h0 h n, h]
theorem asked_f : sumT (fun k => (lv w (fun _ _ => false) k).length) (d + 1) = 1 := sum_f rfl (fun k => by rw [lv_f]; rfl) d
theorem least_f : sumT (lpF w d fun _ _ => false) (d + 1) = 1 := by
  refine sum_f ?_ (fun k => ?_) d
  · unfold lpF
    show 1 - 0 + (if 0 = d then 0 else 0) = 1
    split <;> rfl
  · unfold lpF
    rw [lv_f]
    show 0 - 0 + (if k + 1 = d then 0 else 0) = 0
    split <;> rfl
theorem nl_of {bs bp : Nat → Nat → Bool} (h : lieK w bs bp (d + 1) = false) : NL w d bs bp := fun k j hk hj ha hp => by
  cases e : bs k j with
  | true => rfl
  | false =>
    exfalso
    have : lieK w bs bp (d + 1) = true := by
      unfold lieK
      rw [List.any_eq_true]
      refine ⟨k, List.mem_range.mpr (by omega), ?_⟩
      rw [List.any_eq_true]
      refine ⟨j, List.mem_range.mpr hj, ?_⟩
      unfold lieT
      rw [ha, hp, e]
      rfl
    rw [h] at this
    cases this
end
end K80

/-! KK80: a case, and the law. -/
namespace K80
open PySem PySem.Spec L2 Gx M10 Sh
open PyProof.Rows hiding St
local macro_rules
  | `(tactic| simp_arith [$as,*] $[$l]?) => `(tactic| simp (disch := first | omega | (simp only [List.length_cons, List.length_nil, List.length_append, List.length_map, List.length_range, List.length_take, List.length_replicate]; omega)) only [dn_comp, rbOf_rt, dn_popAt, popR_ok, popK_0, q_beq1, q_beq2, q_beq3, q_beq4, q_beq5, q_beq6, q_beq7, q_beq8, dn_R1, dn_chain, chR_ok, rvd_fz, rvd_ol, boolOf_b, dn_orE, orER_b, orER_l, dn_sl, dn_on, dn_off, intOf_i, slice_l, slice_t, r_addL, r_addT, r_ixT, r_ixL, opt_map, atI_0, atI_1, atI_2, atI_3, atI_4, atI_5, arP_t, arP_f, List.getD_cons_zero, List.getD_cons_succ, dn_arP, dn_app, dn_arD, dn_bnd, bndR_ok, bndR_ex, dn_lft, dn_ret, dn_dC, dn_seq, seqR_nx, seqR_rt, seqR_bk, seqR_ct, seqR_ex, dn_nx, dn_call, callR_ok, dn_bin, binR_ok, dn_cmpT, boolR_ok, dn_tru, truR_b, truR_i, truR_n, truR_l, truR_t, dn_notT, dn_not, dn_andT, dn_orT, iteR_t, iteR_f, dn_sIf, dn_dIf, dn_and, dn_orD, andR_b, orR_b, dn_sRet, rtR_ok, dn_sDrop, dn_frz, frzR_fz, frzR_ol, dn_ofD, ofR_ok, ofR_ex, frzR_ex, rtR_ex, dn_sSet, dn_put, ifB_t, ifB_f, rven_fz, rven_ol, isBl_no, isBl_fz, isBl_ol, isBl_ow, dn_name, nameR_fz, nameR_ol, dn_move, moveR_fz, moveR_ol, dn_lenP, lenR_some, dn_peek, peekR_ok, itemR_some, seqE_ol, seqE_bl, seqE_t, seqE_l, seqE_sl, seqE_st, dn_item, itmR_at, dn_nil, dn_cons, consR_ok, consK_ok, dn_tup, dn_lst, dn_un, dn_anil, dn_acons, aconsR_fz, aconsR_ol, aconsK_ok, dn_alend, lendR_ol, lendR_bl, lendR_sc, lent_nil, lent_fz, lent_tp, lent_sc, lent_sl, lentS_n, lentB_n, lentB_s, dn_fn, dn_apply, applyR_some, ar_fz, ar_tp, ar_sc, ar_sl, dn_enSl_ol, dn_enSl_bl, retR_ok, retR_sl, putR_ol, putR_bl, dn_sFor, dn_iSeq, seqOf_l, seqOf_t, dn_iRg1, dn_iRg2, dn_iZp, dn_iZ3, dn_iEnB, dn_sAsg, dn_sApp, ownOf_ol, ownOf_bl, appR_ok, updR_ol, updR_bl, updK_ol, updK_bl, appD_ok, dn_sSetIx, dn_setx, setIxD_eq, dn_sParA, dn_parA, parR_ok, dn_sParX, dn_parX, parXR_ok, rvA_fz, rvA_tp, dn_sPar, nmR_some, nmAll_nil, nmAll_cons, dn_hName, dn_hTup, dn_hNil, dn_hCons, arP_t, arP_f, List.getD_cons_zero, List.getD_cons_succ, dn_arP, dn_app, dn_arD, rtOf_rt, rtOf_nx, cond_true, cond_false, List.getElem?_cons_zero, List.getElem?_cons_succ, List.set_cons_zero, List.set_cons_succ, List.map_cons, List.map_nil, Option.isSome_some, Option.bind_some, Nat.beq_eq_true_eq, List.cons_append, List.nil_append, List.append_nil, List.length_cons, List.length_nil, Nat.reduceSub, Nat.reduceAdd, List.replicate_succ, List.replicate_zero, if_true, Nat.reduceLeDiff, okLen_dn, Bool.not_true, Bool.not_false, Bool.false_eq_true, if_false, dn_newD, rven_od, rvd_od, isBl_od, frzR_od, nameR_od, moveR_od, aconsR_od, rvA_td, ar_td, lent_td, lendR_od, lendR_bd, enSl_od, enSl_bd, putR_od, putR_bd, dicE_od, dicE_bd, dicE_fz, ownD_od, ownD_bd, dn_dk, dkK_some, lkR_some, dn_inD, dn_inT, inK_some, inR_f, inR_t, dn_get1, dn_get2, getK_some, getR_s, getR_n, dn_lenD, lenDR_some, dn_updD, updDR_od, updDR_bd, updDK_od, updDK_bd, dn_putdR, dn_putD, dn_delD, dn_setdD, dn_callK, dn_sUpd, Option.isSome_none, n_addI, n_subI, n_ltI, n_gtI, n_leI, n_geI, n_negI, n_eqI, n_neI, n_lenL, n_lenT, n_tupL, n_tupT, n_lstL, n_lstT, n_isN_n, isi_non, isi2_non, isa_non_non, isa_non_bl, isa_non_int, isa_non_str, isa_non_lst, isa_non_tup, isn_non, isnn_non, isi_bl, isi2_bl, isa_bl_non, isa_bl_bl, isa_bl_int, isa_bl_str, isa_bl_lst, isa_bl_tup, isn_bl, isnn_bl, isi_int, isi2_int, isa_int_non, isa_int_bl, isa_int_int, isa_int_str, isa_int_lst, isa_int_tup, isn_int, isnn_int, isi_str, isi2_str, isa_str_non, isa_str_bl, isa_str_int, isa_str_str, isa_str_lst, isa_str_tup, isn_str, isnn_str, isi_lst, isi2_lst, isa_lst_non, isa_lst_bl, isa_lst_int, isa_lst_str, isa_lst_lst, isa_lst_tup, isn_lst, isnn_lst, isi_tup, isi2_tup, isa_tup_non, isa_tup_bl, isa_tup_int, isa_tup_str, isa_tup_lst, isa_tup_tup, isn_tup, isnn_tup, Bool.or_true, Bool.or_false, Bool.true_or, Bool.false_or, Bool.or_self, bq_tt, bq_tf, bq_ft, bq_ff, bn_tt, bn_tf, bn_ft, bn_ff, $as,*] $[$l]?)
theorem any_eqv (x : Nat) : ∀ l : List Nat, ((l.map intM).any fun z => PyData.eqv z (intM x)) = decide (x ∈ l)
  | [] => rfl
  | y :: l => by
    rw [List.map_cons, List.any_cons, any_eqv x l]
    have e : PyData.eqv (intM y) (intM x) = decide (y = x) := by
      show PyData.eqv (.int (y : Int)) (.int (x : Int)) = _
      rw [eqv_ii]
      exact decide_eq_decide.mpr (by omega)
    rw [e, Bool.eq_iff_iff]
    simp
    constructor
    · rintro (h | h)
      · exact .inl h.symm
      · exact .inr h
    · rintro (h | h)
      · exact .inl h.symm
      · exact .inr h
theorem inB_n (x : Nat) (l : List Nat) : inB (intM x) (.list (l.map intM)) = some (decide (x ∈ l)) := by
  rw [inB_pd (d := intM x) (pd_int _) (fun y hy => by
    obtain ⟨p, _, rfl⟩ := List.mem_map.mp hy
    exact pd_int _), any_eqv]
theorem in_nl (x : Nat) (l : List Nat) : inD (intM x) (.list (l.map intM)) = some (.fz (.bool (decide (x ∈ l)))) := by
  unfold inD
  rw [inB_n]
  rfl
theorem nin_nl (x : Nat) (l : List Nat) : notInD (intM x) (.list (l.map intM)) = some (.fz (.bool (!decide (x ∈ l)))) := by
  unfold notInD
  rw [inB_n]
  rfl
section
variable {w d : Nat} {z b : Int} {P Q : PR}
theorem prm210 (x y u : PyData) : prm [2, 1, 0] [x, y, u] = [u, y, x] := (rfl)
theorem prm201 (x y u : PyData) : prm [2, 0, 1] [x, y, u] = [u, x, y] := (rfl)
theorem du_int {k : Nat} (i : Int) : Du k (.int i) := by
  cases k with
  | zero => exact ⟨pd_int _, fun xs h => (by cases h), fun xs h => (by cases h)⟩
  | succ k => exact pd_int _
theorem du_bool {k : Nat} (i : Bool) : Du k (.bool i) := by
  cases k with
  | zero => exact ⟨pd_bool _, fun xs h => (by cases h), fun xs h => (by cases h)⟩
  | succ k => exact pd_bool _
theorem du_cmp {k : Nat} {f : List Nat} {n : Nat} (hf : f.length ≤ 1000) : Du (k + 2) (cmpD f n) := by
  refine ⟨by simp, fun x hx => ?_⟩
  simp only [List.mem_cons, List.not_mem_nil, or_false] at hx
  rcases hx with rfl | rfl
  · refine ⟨by rw [List.length_map]; omega, fun y hy => ?_⟩
    obtain ⟨m, _, rfl⟩ := List.mem_map.mp hy
    exact du_int _
  · exact du_int _
theorem pd_cmp {k : Nat} {f : List Nat} {n : Nat} : Pd (k + 2) (cmpD f n) := pd_tup fun x hx => by
  simp only [List.mem_cons, List.not_mem_nil, or_false] at hx
  rcases hx with rfl | rfl
  · exact pd_tup fun y hy => by
      obtain ⟨m, _, rfl⟩ := List.mem_map.mp hy
      exact pd_int _
  · exact pd_int _
theorem same4 {f : List Nat} {n p : Nat} (hf : f.length ≤ 1000) : Gv (den_same 10) [.fz (.list [cmpD f n, cmpD f n, intM p, intM p]), .fz (.list [cmpD f n, cmpD f n, intM p, intM p])] (.fz (.bool true)) := by
  have e := same_at (k := 9) (due := .list [cmpD f n, cmpD f n, intM p, intM p]) (got := .list [cmpD f n, cmpD f n, intM p, intM p]) ⟨by simp, fun x hx => by
    simp only [List.mem_cons, List.not_mem_nil, or_false] at hx
    rcases hx with rfl | rfl | rfl | rfl
    all_goals first | exact du_cmp hf | exact du_int _⟩ (pd_lst (k := 59) fun x hx => by
    simp only [List.mem_cons, List.not_mem_nil, or_false] at hx
    rcases hx with rfl | rfl | rfl | rfl
    all_goals first | exact pd_cmp | exact pd_int _)
  rw [eqB_self] at e
  exact e
theorem same3 : Gv (den_same 10) [.fz (.list [.bool true, cmpD [] 1, intM 1]), .fz (.list [.bool true, cmpD [] 1, intM 1])] (.fz (.bool true)) := by
  have e := same_at (k := 9) (due := .list [.bool true, cmpD [] 1, intM 1]) (got := .list [.bool true, cmpD [] 1, intM 1]) ⟨by simp, fun x hx => by
    simp only [List.mem_cons, List.not_mem_nil, or_false] at hx
    rcases hx with rfl | rfl | rfl
    all_goals first | exact du_bool _ | exact du_cmp (by simp) | exact du_int _⟩ (pd_lst (k := 59) fun x hx => by
    simp only [List.mem_cons, List.not_mem_nil, or_false] at hx
    rcases hx with rfl | rfl | rfl
    all_goals first | exact pd_bool _ | exact pd_cmp | exact pd_int _)
  rw [eqB_self] at e
  exact e
theorem tpl_tre : tpl 7 (tre w d z b) = true := by simp [tre, tpl, intM]
theorem tpl_row (hl : P.length ≤ 1000) : tpl 7 (row P) = true := by
  unfold row tpl
  rw [Bool.and_eq_true, List.all_map, List.all_eq_true]
  exact ⟨decide_eq_true (by rw [List.length_map]; omega), fun x _ => by simp [pr, tpl, intM]⟩
theorem eq_row : eqD (row P) (row P) = some (.fz (.bool true)) := by
  have p : Pd 60 (row P) := pd_tup (k := 59) fun x hx => by
    obtain ⟨y, _, rfl⟩ := List.mem_map.mp hx
    exact pd_pr 58 y
  have n : nbl (row P) = true := nbl_tup fun x hx => by
    obtain ⟨y, _, rfl⟩ := List.mem_map.mp hx
    exact nbl_pr y
  rw [eq_pd p p, eqv_eqB n n, eqB_self]
theorem ne_nl (l : List Nat) : neD (.list (l.map intM)) (.list (l.map intM)) = some (.fz (.bool false)) := by
  have p : Pd 60 (.list (l.map intM)) := pd_lst (k := 59) fun x hx => by
    obtain ⟨y, _, rfl⟩ := List.mem_map.mp hx
    exact pd_int _
  have n : nbl (.list (l.map intM)) = true := nbl_lst fun x hx => by
    obtain ⟨y, _, rfl⟩ := List.mem_map.mp hx
    rfl
  rw [ne_pd p p, eqv_eqB n n, eqB_self]
  rfl
theorem ne_00 : neD (.list []) (.list []) = some (.fz (.bool false)) := ne_nl []
theorem eq_00 : eqD (.list []) (.list []) = some (.fz (.bool true)) := by kernel_rfl
theorem case_ev (w2 : 2 ≤ w) (w4 : w ≤ 4) (d6 : d ≤ 6) (h64 : w ^ d ≤ 64) (b1 : 1 ≤ b) (bz : b < z) (z1 : z ≤ 1000000000) (lP : P.length ≤ 9) (lQ : Q.length ≤ 12) (pP : ∀ x ∈ P, x.1 < w ^ d ∧ 1 ≤ x.2 ∧ x.2 < 1000) (pQ : ∀ x ∈ Q, x.1 < w ^ d ∧ 1 ≤ x.2 ∧ x.2 < 2000) (aP : Asc P) (aQ : Asc Q) :
    Gv den_case_right [.fz (tre w d z b), .fz (row P), .fz (row Q)] (.fz (.bool true)) := by
  have hw : w < 100 := by omega
  have w0 : 0 < w := by omega
  have fT := frz_id 7 _ (tpl_tre (w := w) (d := d) (z := z) (b := b))
  have gT := frz_lis 7 _ (tpl_tre (w := w) (d := d) (z := z) (b := b))
  have fR : ∀ {L : PR}, L.length ≤ 1000 → Gv (den_frozen 8) [.fz (row L)] (.fz (row L)) := fun h => frz_id 7 _ (tpl_row h)
  have gR : ∀ {L : PR}, L.length ≤ 1000 → Gv (den_frozen 8) [.fz (lis 7 (row L))] (.fz (row L)) := fun h => frz_lis 7 _ (tpl_row h)
  have gT' : Gv (den_frozen 8) [.fz (.list [intM w, intM d, .int z, .int b])] (.fz (tre w d z b)) := gT
  have liP := lis_ev 7 _ (tpl_row (P := P) (by omega))
  have liQ := lis_ev 7 _ (tpl_row (P := Q) (by omega))
  have lT : listD [tre w d z b] = some (.ol [intM w, intM d, .int z, .int b]) := rfl
  have sb := sb_F (w := w) (d := d) (z := z) (b := b) (P := P) (Q := Q)
  have up := up_F (w := w) (d := d) (P := P) (Q := Q) w0
  have cP := fnd_card (w := w) (d := d) (z := z) (b := b) (P := P) (Q := Q)
  have tab := table_ev (w := w) (d := d) (z := z) (b := b) (P := P) (Q := Q) hw w2 (by omega) h64 (by omega) (by omega) (fun x hx => by have := pP x hx; omega) (fun x hx => by have := pQ x hx; omega) (by omega) (by omega) (by omega)
  have due := due_ev (w := w) (d := d) (z := z) (b := b) (bs := bsF w d z b P Q) (bp := bpF w d P Q) hw (by omega) (by omega) h64
  have due : Gv den_due [.fz (tre w d z b), .fz (.list ((List.range (d + 1)).map (rowT w (bsF w d z b P Q) (bpF w d P Q))))] _ := due
  have c1 := compare_ev (P := P) (Q := Q) fT (fR (by omega)) (fR (by omega)) hw w2 (by omega) h64 (by omega) (by omega) (by omega) (by omega) (by omega) (by omega)
  have c2 := compare_ev (P := Q) (Q := P) gT' (gR (by omega)) (gR (by omega)) hw w2 (by omega) h64 (by omega) (by omega) (by omega) (by omega) (by omega) (by rw [← bs_symm (P := P) (Q := Q)]; omega)
  rw [← bs_symm (P := P) (Q := Q)] at c2
  have c3 := least_ev (z := z) (b := b) (P := P) (Q := Q) fT (fR (by omega)) (fR (by omega)) hw w2 (by omega) h64 (by omega) (by omega)
  have c4 := least_ev (z := z) (b := b) (P := Q) (Q := P) fT (fR (by omega)) (gR (by omega)) hw w2 (by omega) h64 (by omega) (by omega)
  rw [← bp_symm (P := P) (Q := Q)] at c4
  rw [lp_sum w0 up] at c3 c4
  rw [lv_cnt] at c1 c2
  have ask := fun nl => asked_ge w0 up (bs := bsF w d z b P Q) nl sb
  have fall := fun nl => fnd_all w0 up (bs := bsF w d z b P Q) nl sb
  have fsub : ∀ j ∈ fnd w d (bsF w d z b P Q), j < w ^ d ∧ bpF w d P Q d j = true := fun j hj => fnd_sub sb hj
  have nlo := nl_of (w := w) (d := d) (bs := bsF w d z b P Q) (bp := bpF w d P Q)
  obtain ⟨P', Q', pp, pq', aP', aQ', me⟩ := mended_ev (F := fnd w d (bsF w d z b P Q)) (asc_nd aP) (asc_nd aQ) (by omega) (by omega) (by omega)
  obtain ⟨_, _, l1, l2⟩ := mst_inv (fnd w d (bsF w d z b P Q)) (P, Q) (asc_nd aP) (asc_nd aQ)
  have l1 : P'.length ≤ 30 := by
    have : (List.foldl mst (P, Q) (fnd w d (bsF w d z b P Q))).1.length ≤ P.length + (fnd w d (bsF w d z b P Q)).length := l1
    rw [pp.length_eq]; omega
  have l2 : Q'.length ≤ 33 := by
    have : (List.foldl mst (P, Q) (fnd w d (bsF w d z b P Q))).2.length ≤ Q.length + (fnd w d (bsF w d z b P Q)).length := l2
    rw [pq'.length_eq]; omega
  have mat : ∀ j ∈ fnd w d (bsF w d z b P Q), bpF w d P' Q' d j = false := fun j hj => mended_at (asc_nd aP) (asc_nd aQ) pp pq' aP' aQ' hj
  have mall := fun hF => mended_all (w := w) (d := d) aP aQ (fun x hx => (pP x hx).1) (fun x hx => (pQ x hx).1) pp pq' aP' aQ' hF
  have c5 := compare_ev (P := P') (Q := Q') (z := z) (b := b) (w := w) (d := d) fT (fR (by omega)) (fR (by omega)) hw w2 (by omega) h64 (by omega) (by omega) (by omega) (by omega) (by omega) (by
    have := fnd_card (w := w) (d := d) (z := z) (b := b) (P := P') (Q := Q')
    omega)
  have c6 := least_ev (z := z) (b := b) (P := P') (Q := Q') (w := w) (d := d) fT (fR (by omega)) (fR (by omega)) hw w2 (by omega) h64 (by omega) (by omega)
  have f5 : ∀ j ∈ fnd w d (bsF w d z b P' Q'), bpF w d P' Q' d j = true := fun j hj => (fnd_sub sb_F hj).2
  have n5 : (fnd w d (bsF w d z b P' Q')).length < 64 := by
    have := fnd_card (w := w) (d := d) (z := z) (b := b) (P := P') (Q := Q')
    omega
  have lst : itmR (some ((List.range (d + 1)).map (rowT w (bsF w d z b P Q) (bpF w d P Q)))) (.int (-1)) = some (rowT w (bsF w d z b P Q) (bpF w d P Q) d) := by
    rw [List.range_succ, List.map_append]
    exact atI_lst
  have en : enumOfB [rowT w (bsF w d z b P Q) (bpF w d P Q) d] = some ((List.range (w ^ d)).map fun i => .tuple [intM i, cel (bsF w d z b P Q) (bpF w d P Q) d i]) := enum_row (fun (i : Nat) (a : Nat) => .none) (cel (bsF w d z b P Q) (bpF w d P Q) d) (w ^ d)
  have s4 := same4 (f := fnd w d (bsF w d z b P Q)) (n := sumT (cnt w (anc w (bsF w d z b P Q))) (d + 1)) (p := sumT (cnt w (prf w d (bpF w d P Q))) (d + 1)) (by omega)
  have sqc : ∀ x y : Bool, seqE (some (.fz (.tuple [.bool x, .bool y]))) = some [.bool x, .bool y] := fun _ _ => rfl
  have tf : tupleD [.list ((fnd w d (bsF w d z b P Q)).map intM)] = some (.fz (.tuple ((fnd w d (bsF w d z b P Q)).map intM))) := rfl
  have sqT : seqE (some (.fz (.list ((List.range (d + 1)).map (rowT w (bsF w d z b P Q) (bpF w d P Q)))))) = some ((List.range (d + 1)).map (rowT w (bsF w d z b P Q) (bpF w d P Q))) := rfl
  unfold cmpD at c1 c2 s4
  generalize hF : fnd w d (bsF w d z b P Q) = F at *
  generalize hA : sumT (cnt w (anc w (bsF w d z b P Q))) (d + 1) = A at *
  generalize hB : sumT (cnt w (prf w d (bpF w d P Q))) (d + 1) = B at *
  generalize hL : lieK w (bsF w d z b P Q) (bpF w d P Q) (d + 1) = L at *
  refine gv_rt ?_
  unfold b_case_right
  simp only [List.cons_append, List.nil_append, Nat.reduceSub, List.replicate_succ, List.replicate_zero]
  simp_arith [retR_gv tab, retR_gv due, tf, retR_gv c1, retR_gv liP, retR_gv liQ, lT, prm210, retR_gv c2, retR_gv c3, prm201, retR_gv c4, retR_gv s4, sqT, lst, en]
  have sqd : ∀ i : Nat, seqE (some (.fz (cel (bsF w d z b P Q) (bpF w d P Q) d i))) = some [.bool (bsF w d z b P Q d i), .bool (bpF w d P Q d i)] := fun _ => rfl
  rw [comp_pr (i := 13) (j := 14) (a := intM) (b := cel (bsF w d z b P Q) (bpF w d P Q) d) (by decide) rfl rfl (bpF w d P Q d) intM (fun j hj => by
    unfold ct_case_right
    simp_arith [sqd]) (fun j hj _ => by
    unfold ce_case_right
    simp_arith []) (by rw [List.length_range]; omega)]
  have inU : ∀ j ∈ F, j ∈ (List.range (w ^ d)).filter (bpF w d P Q d) := fun j hj => List.mem_filter.mpr ⟨List.mem_range.mpr (fsub j hj).1, (fsub j hj).2⟩
  generalize hU : (List.range (w ^ d)).filter (bpF w d P Q d) = U at *
  simp_arith []
  rw [comp_p (u := intM) (p := fun _ => false) (g := intM) rfl (fun j hj => by
    unfold ct_case_right_2
    simp_arith [nin_nl, decide_eq_true (inU j hj)]) (fun j hj h => by cases h) (by omega)]
  have ff : ∀ G : List Nat, (G.filter fun _ => false).map intM = [] := fun G => by
    rw [(List.filter_eq_nil_iff (p := fun _ => false)).mpr fun _ _ => by simp]
    rfl
  rw [ff]
  unfold cmpD at c5
  cases hl : L with
  | true =>
    generalize hF5 : fnd w d (bsF w d z b P' Q') = F5 at *
    have nin : ∀ j ∈ F5, j ∉ F := fun j hj h => by
      have e1 := f5 j hj
      rw [mat j h] at e1
      cases e1
    simp_arith [ne_00, retR_gv me, retR_gv c5]
    rw [comp_p (u := intM) (p := fun _ => false) (g := intM) rfl (fun j hj => by
      unfold ct_case_right_3
      simp_arith [in_nl, decide_eq_false (nin j hj)]) (fun j hj h => by cases h) (by omega)]
    rw [ff]
    simp_arith [eq_00]
  | false =>
    have nl := nlo hl
    have eU : F = U := fall nl
    have eP : P' = Q' := mall eU
    have le := ask nl
    rw [eP] at c5 c6 me
    rw [bs_self, fnd_f, asked_f] at c5
    rw [bp_self, least_f] at c6
    have s3 := same3
    unfold cmpD at s3
    rw [← eU]
    have c5 : Gv den_compare [.fz (tre w d z b), .fz (row Q'), .fz (row Q')] (.fz (.tuple [.tuple [], intM 1])) := c5
    have s3 : Gv (den_same 10) [.fz (.list [.bool true, .tuple [.tuple [], intM 1], intM 1]), .fz (.list [.bool true, .tuple [.tuple [], .int 1], .int 1])] (.fz (.bool true)) := s3
    simp_arith [ne_00, ne_nl, ltM, decide_eq_false (show ¬ A < B by omega), retR_gv me, eq_row, retR_gv c5, retR_gv c6, retR_gv s3]
end
/-! ### the law -/
theorem right_ev {t : List PyData} (hT : TinT t) : Gv den_right [.bl t] (.fz (.bool true)) := by
  have hT := hT.ok
  obtain ⟨w, d, zn, bn, t1, es1, ⟨w2, w4, d6, h64⟩, ⟨b1, bz, z1⟩, ht1, e1⟩ := grove_ev hT (by decide)
  obtain ⟨P, t2, es2, Pl, Pb, Pa, ht2, e2⟩ := leaves_ev (w := w) (d := d) (z := zn) (b := bn) (by omega) (by omega) h64 ht1 (by omega)
  obtain ⟨Q, t3, es3, Ql, Qb, Qa, ht3, e3⟩ := turned_ev (w := w) (d := d) (z := zn) (b := bn) (P := P) (by omega) (by omega) h64 ht2 (by omega) Pl Pb
  rw [List.pairwise_map] at Pa Qa
  have cs := case_ev (w := w) (d := d) (z := zn) (b := bn) (P := P) (Q := Q) w2 w4 d6 h64 (by omega) (by omega) (by omega) Pl Ql Pb Qb Pa Qa
  refine gv_rt ?_
  unfold b_right
  simp only [List.cons_append, List.nil_append, Nat.reduceSub, List.replicate_succ, List.replicate_zero]
  simp_arith [e1, e2, e3, retR_gv cs]
theorem hand_ev : isG (den_by_hand_right []) (.fz (.bool true)) = true := by kernel_rfl
theorem law_ev (ns : List Int) (hl : ns.length ≤ 63) : den_law [.sc (.l ns)] = .ok (.fz (.bool true), [.sc (.l ns)]) := law2_sat 1940080 (isG_ok hand_ev) (fun t => right_ev) ns hl
end K80

set_option maxHeartbeats 0
namespace K80
open PySem PySem.Spec L2 Gx Sh
open PyProof.Rows hiding St
def noneB (K : PySem.W.Frag) (x : Str) : Bool := decide (PySem.W.nsIn K mainGlobals x = some none)
abbrev nms : List Str := ["abs", "all", "bool", "dict", "enumerate", "int", "isinstance", "len", "list", "max", "min", "range", "sorted", "str", "tuple", "zip"]
def chk (K : PySem.W.Frag) : Bool := nms.all (noneB K)
theorem def_mk {K : PySem.W.Frag} {h : Heap} {mg : Str → Option Value} {x : Str} {st : Stmt} {ps : List Str} {f : Addr} {od an : Option Addr} {sl : Array (Option Value)} {oc kV dc pm cd ct : Value} (X : K.In h) (G : h.Ns mainGlobals mg) (a : PySem.W.nsIn K mainGlobals x = some (some (.ref f)))
    (l : K.lookup f = some ⟨oc, od, .func (PySem.W.fnOf x x (defArgs st) (defBody st) (defScope st) .none kV dc pm an cd ct), sl⟩) (c : PySem.W.codeIn K cd x = true) (k : PySem.W.keepIn K (.ref f) = true)
    (hb : ∀ (kV doc pm : Value) (an : Option Addr) (cdv ct : Value) (us : List Value), us.length = ps.length → bindArgs (PySem.W.fnOf x x (defArgs st) (defBody st) (defScope st) Value.none kV doc pm an cdv ct) { pos := us } = pure (ps.zip us)) : DefAt K mg x st ps :=
  have F := fun_mk l c k
  ⟨f, _, F, PySem.W.mg_of X G a, F.binds hb⟩
theorem txt_mk {K : PySem.W.Frag} {h : Heap} {mg : Str → Option Value} (X : K.In h) (G : h.Ns mainGlobals mg) (c : chk K = true)
    (ad_frozen : DefAt K mg "frozen" s_frozen ["value"]) (ad_points_of : DefAt K mg "points_of" s_points_of ["tree"]) (ad_pairs_in : DefAt K mg "pairs_in" s_pairs_in ["rows", "span"]) (ad_sum_in : DefAt K mg "sum_in" s_sum_in ["tree", "rows", "span"]) (ad_parts_of : DefAt K mg "parts_of" s_parts_of ["tree", "span"]) (ad_compare : DefAt K mg "compare" s_compare ["tree", "left", "right"]) (ad_least_proof : DefAt K mg "least_proof" s_least_proof ["tree", "left", "right"]) (ad_box : DefAt K mg "_law_box" s_box ["script", "k"]) (ad_take : DefAt K mg "_law_take" s_take ["tin", "below_so"]) (ad_law_cells : DefAt K mg "_law_cells" s_law_cells ["script", "most_so"]) (ad_of : DefAt K mg "_law_of" s_of ["tin", "goods_so"]) (ad_pick : DefAt K mg "_law_pick" s_pick ["tin", "goods_so", "count_so"]) (ad_lists : DefAt K mg "_law_lists" s_lists ["matter"]) (ad_same : DefAt K mg "_law_same" s_same ["got", "due"]) (ad_law_power : DefAt K mg "_law_power" s_law_power ["foot_so", "count_so"]) (ad_total : DefAt K mg "_law_total" s_total ["grove_so", "page_so", "from_so", "to_so"]) (ad_width : DefAt K mg "_law_width" s_width ["grove_so"]) (ad_grove : DefAt K mg "_law_grove" s_grove ["tin"]) (ad_leaves : DefAt K mg "_law_leaves" s_leaves ["tin", "grove_so"]) (ad_turned : DefAt K mg "_law_turned" s_turned ["tin", "grove_so", "page_so"]) (ad_table : DefAt K mg "_law_table" s_table ["grove_so", "own_so", "far_so"]) (ad_around : DefAt K mg "_law_around" s_around ["grove_so", "k", "j", "goods_so"]) (ad_due : DefAt K mg "_law_due" s_due ["grove_so", "goods_so"]) (ad_law_mended : DefAt K mg "_law_mended" s_law_mended ["own_so", "far_so", "spots_so"]) (ad_case_right : DefAt K mg "_law_case_right" s_case_right ["grove_so", "own_so", "far_so"]) (ad_by_hand_right : DefAt K mg "_law_by_hand_right" s_by_hand_right []) (ad_right : DefAt K mg "_law_right" s_right ["tin"]) (ad_law : DefAt K mg "law" s_law ["script"]) : Txt K mg := by
  unfold chk at c
  have c0 := c
  have nn : ∀ x ∈ nms, mg x = none := fun x hx => PySem.W.mg_none_of X G (of_decide_eq_true (List.all_eq_true.mp c0 x hx))
  exact {
    bt := ⟨nn "abs" (by simp), nn "all" (by simp), nn "bool" (by simp), nn "dict" (by simp), nn "enumerate" (by simp), nn "int" (by simp), nn "isinstance" (by simp), nn "len" (by simp), nn "list" (by simp), nn "max" (by simp), nn "min" (by simp), nn "range" (by simp), nn "sorted" (by simp), nn "str" (by simp), nn "tuple" (by simp), nn "zip" (by simp)⟩
    d_frozen := ad_frozen
    d_points_of := ad_points_of
    d_pairs_in := ad_pairs_in
    d_sum_in := ad_sum_in
    d_parts_of := ad_parts_of
    d_compare := ad_compare
    d_least_proof := ad_least_proof
    d_box := ad_box
    d_take := ad_take
    d_law_cells := ad_law_cells
    d_of := ad_of
    d_pick := ad_pick
    d_lists := ad_lists
    d_same := ad_same
    d_law_power := ad_law_power
    d_total := ad_total
    d_width := ad_width
    d_grove := ad_grove
    d_leaves := ad_leaves
    d_turned := ad_turned
    d_table := ad_table
    d_around := ad_around
    d_due := ad_due
    d_law_mended := ad_law_mended
    d_case_right := ad_case_right
    d_by_hand_right := ad_by_hand_right
    d_right := ad_right
    d_law := ad_law
  }
def spLaw (K : PySem.W.Frag) : Sp := fun vs H Q _ => ∃ (a : Addr) (ns : List Int), vs = [.ref a] ∧ SqL K H a (ns.map V.int) ∧ ns.length ≤ 63 ∧ ∀ H', Q (.bl true) H'
theorem law_sp {K : PySem.W.Frag} {mg : Str → Option Value} (vs : List V) (H : Hp) (Q : VK) (E : XK) (h : spLaw K vs H Q E) : spD K mg 1 den_law vs H Q E := by
  obtain ⟨a, ns, rfl, hs, hl, q⟩ := h
  refine ⟨rfl, [.sc (.l ns)], H, ⟨Same.refl H, fun i d e => ?_, fun i xs e => ?_, fun i ms e => ?_, fun i j p hi => ?_, rfl⟩, fun i xs e => ?_, ?_⟩
  · cases i <;> simp at e
  · cases i <;> simp at e
  · cases i with
    | zero => simp at e; subst e; exact ⟨a, rfl, hs⟩
    | succ i => simp at e
  · rcases hi with ⟨xs, e⟩ | ⟨xs, e⟩ <;> (cases i <;> simp at e)
  · cases i <;> simp at e
  · rw [law_ev ns hl]
    intro v F' H' S ro
    have ro' : Dq F' v (.bool true) := ro
    cases ro' with
    | bl _ => exact q H'
theorem fin {P : Program} {w : World} {K : PySem.W.Frag} {mg : Str → Option Value} {fa : Addr} (T : Txt K mg) (hfa : mg "law" = some (.ref fa)) : ∃ fd : FuncData, (∀ (s : Shared) (v : Value), BindsTo s fd ⟨[v], []⟩ [("script", v)]) ∧ ∀ base : Heap, FnOk P w K mg base (L2.CX P w) 18 fa fd ["script"] (spLaw K) := by
  obtain ⟨f, fd, Fn, hm, hb⟩ := T.d_law.ex
  have e := hfa.symm.trans hm
  cases e
  refine ⟨fd, fun s v => ?_, fun base => ?_⟩
  · obtain ⟨oc, od, kV, doc, pm, an, cdv, ct, osl, e, _, _⟩ := Fn.ex
    subst e
    exact .of_eq rfl
  · have F1 : FnOk P w K mg base (L2.CX P w) 18 fa fd ["script"] (spD K mg 1 den_law) := ok_law T fa fd Fn
    exact ⟨fun vs H Q E h => (by obtain ⟨a, ns, rfl, _⟩ := h; rfl), fun A outer s H args us vs Q E hr e hb hv h => F1.run A outer s H args us vs Q E hr e hb hv (law_sp vs H Q E h)⟩
end K80
open PySem PySem.W PyProof.Rows
theorem PySem.Challenge.cw_hintring_k80_whole_ranges_compared_and_m_holds : PySem.Challenge.rw_hintring_k80_whole_ranges_compared_and_m.Holds := by
  w_on; o_law; k_head; (case hw => w_witness2)
  k_fill
  refine L2.walk_of (l := PySem.Challenge.rw_hintring_k80_whole_ranges_compared_and_m) (n := 63) (k := 18) (x := "script") (CX := fun w => L2.CX PySem.Challenge.rw_hintring_k80_whole_ranges_compared_and_m.prog w) (sp := fun w => K80.spLaw _) rfl (by decide) rfl ⟨rfl, by decide, by decide⟩ (fun w h Y => PySem.W.kIn_of Y) ?F (fun _ _ a ns hl _ hS => ⟨a, ns, rfl, hS, hl, fun _ => rfl⟩) (fun _ _ _ _ _ ⟨_, _, _, _, _, _, _, _, _, _, _, _, z⟩ => z)
  case F =>
    intro w mg fa h KX G hmg
    have T := @K80.txt_mk _ _ _ KX G (by kernel_rfl)
      (by refine' K80.def_mk KX G ?za ?zl ?zc ?zk (fun _ _ _ _ _ _ us hl => match us, hl with | [_], _ => rfl); (case za => k_is); (case zl => k_is); (case zc => k_is); (case zk => k_is))
      (by refine' K80.def_mk KX G ?za ?zl ?zc ?zk (fun _ _ _ _ _ _ us hl => match us, hl with | [_], _ => rfl); (case za => k_is); (case zl => k_is); (case zc => k_is); (case zk => k_is))
      (by refine' K80.def_mk KX G ?za ?zl ?zc ?zk (fun _ _ _ _ _ _ us hl => match us, hl with | [_, _], _ => rfl); (case za => k_is); (case zl => k_is); (case zc => k_is); (case zk => k_is))
      (by refine' K80.def_mk KX G ?za ?zl ?zc ?zk (fun _ _ _ _ _ _ us hl => match us, hl with | [_, _, _], _ => rfl); (case za => k_is); (case zl => k_is); (case zc => k_is); (case zk => k_is))
      (by refine' K80.def_mk KX G ?za ?zl ?zc ?zk (fun _ _ _ _ _ _ us hl => match us, hl with | [_, _], _ => rfl); (case za => k_is); (case zl => k_is); (case zc => k_is); (case zk => k_is))
      (by refine' K80.def_mk KX G ?za ?zl ?zc ?zk (fun _ _ _ _ _ _ us hl => match us, hl with | [_, _, _], _ => rfl); (case za => k_is); (case zl => k_is); (case zc => k_is); (case zk => k_is))
      (by refine' K80.def_mk KX G ?za ?zl ?zc ?zk (fun _ _ _ _ _ _ us hl => match us, hl with | [_, _, _], _ => rfl); (case za => k_is); (case zl => k_is); (case zc => k_is); (case zk => k_is))
      (by refine' K80.def_mk KX G ?za ?zl ?zc ?zk (fun _ _ _ _ _ _ us hl => match us, hl with | [_, _], _ => rfl); (case za => k_is); (case zl => k_is); (case zc => k_is); (case zk => k_is))
      (by refine' K80.def_mk KX G ?za ?zl ?zc ?zk (fun _ _ _ _ _ _ us hl => match us, hl with | [_, _], _ => rfl); (case za => k_is); (case zl => k_is); (case zc => k_is); (case zk => k_is))
      (by refine' K80.def_mk KX G ?za ?zl ?zc ?zk (fun _ _ _ _ _ _ us hl => match us, hl with | [_, _], _ => rfl); (case za => k_is); (case zl => k_is); (case zc => k_is); (case zk => k_is))
      (by refine' K80.def_mk KX G ?za ?zl ?zc ?zk (fun _ _ _ _ _ _ us hl => match us, hl with | [_, _], _ => rfl); (case za => k_is); (case zl => k_is); (case zc => k_is); (case zk => k_is))
      (by refine' K80.def_mk KX G ?za ?zl ?zc ?zk (fun _ _ _ _ _ _ us hl => match us, hl with | [_, _, _], _ => rfl); (case za => k_is); (case zl => k_is); (case zc => k_is); (case zk => k_is))
      (by refine' K80.def_mk KX G ?za ?zl ?zc ?zk (fun _ _ _ _ _ _ us hl => match us, hl with | [_], _ => rfl); (case za => k_is); (case zl => k_is); (case zc => k_is); (case zk => k_is))
      (by refine' K80.def_mk KX G ?za ?zl ?zc ?zk (fun _ _ _ _ _ _ us hl => match us, hl with | [_, _], _ => rfl); (case za => k_is); (case zl => k_is); (case zc => k_is); (case zk => k_is))
      (by refine' K80.def_mk KX G ?za ?zl ?zc ?zk (fun _ _ _ _ _ _ us hl => match us, hl with | [_, _], _ => rfl); (case za => k_is); (case zl => k_is); (case zc => k_is); (case zk => k_is))
      (by refine' K80.def_mk KX G ?za ?zl ?zc ?zk (fun _ _ _ _ _ _ us hl => match us, hl with | [_, _, _, _], _ => rfl); (case za => k_is); (case zl => k_is); (case zc => k_is); (case zk => k_is))
      (by refine' K80.def_mk KX G ?za ?zl ?zc ?zk (fun _ _ _ _ _ _ us hl => match us, hl with | [_], _ => rfl); (case za => k_is); (case zl => k_is); (case zc => k_is); (case zk => k_is))
      (by refine' K80.def_mk KX G ?za ?zl ?zc ?zk (fun _ _ _ _ _ _ us hl => match us, hl with | [_], _ => rfl); (case za => k_is); (case zl => k_is); (case zc => k_is); (case zk => k_is))
      (by refine' K80.def_mk KX G ?za ?zl ?zc ?zk (fun _ _ _ _ _ _ us hl => match us, hl with | [_, _], _ => rfl); (case za => k_is); (case zl => k_is); (case zc => k_is); (case zk => k_is))
      (by refine' K80.def_mk KX G ?za ?zl ?zc ?zk (fun _ _ _ _ _ _ us hl => match us, hl with | [_, _, _], _ => rfl); (case za => k_is); (case zl => k_is); (case zc => k_is); (case zk => k_is))
      (by refine' K80.def_mk KX G ?za ?zl ?zc ?zk (fun _ _ _ _ _ _ us hl => match us, hl with | [_, _, _], _ => rfl); (case za => k_is); (case zl => k_is); (case zc => k_is); (case zk => k_is))
      (by refine' K80.def_mk KX G ?za ?zl ?zc ?zk (fun _ _ _ _ _ _ us hl => match us, hl with | [_, _, _, _], _ => rfl); (case za => k_is); (case zl => k_is); (case zc => k_is); (case zk => k_is))
      (by refine' K80.def_mk KX G ?za ?zl ?zc ?zk (fun _ _ _ _ _ _ us hl => match us, hl with | [_, _], _ => rfl); (case za => k_is); (case zl => k_is); (case zc => k_is); (case zk => k_is))
      (by refine' K80.def_mk KX G ?za ?zl ?zc ?zk (fun _ _ _ _ _ _ us hl => match us, hl with | [_, _, _], _ => rfl); (case za => k_is); (case zl => k_is); (case zc => k_is); (case zk => k_is))
      (by refine' K80.def_mk KX G ?za ?zl ?zc ?zk (fun _ _ _ _ _ _ us hl => match us, hl with | [_, _, _], _ => rfl); (case za => k_is); (case zl => k_is); (case zc => k_is); (case zk => k_is))
      (by refine' K80.def_mk KX G ?za ?zl ?zc ?zk (fun _ _ _ _ _ _ us hl => match us, hl with | [], _ => rfl); (case za => k_is); (case zl => k_is); (case zc => k_is); (case zk => k_is))
      (by refine' K80.def_mk KX G ?za ?zl ?zc ?zk (fun _ _ _ _ _ _ us hl => match us, hl with | [_], _ => rfl); (case za => k_is); (case zl => k_is); (case zc => k_is); (case zk => k_is))
      (by refine' K80.def_mk KX G ?za ?zl ?zc ?zk (fun _ _ _ _ _ _ us hl => match us, hl with | [_], _ => rfl); (case za => k_is); (case zl => k_is); (case zc => k_is); (case zk => k_is))
    obtain ⟨fd, b, ok⟩ := K80.fin (P := PySem.Challenge.rw_hintring_k80_whole_ranges_compared_and_m.prog) (w := w) T hmg
    exact ⟨fd, b, fun base _ _ => ok base⟩
