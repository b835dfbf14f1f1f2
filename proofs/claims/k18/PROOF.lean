import PyProof.Rows.All
import Wide.All
import OpenK.AllK
import Wide.FinOn
import HandS.ForMost
import HandS.Zip
import HandS.Wide
import HandS.Style
import HandS.Conv
import HandS.IsInst
import HandS.TupAny
import HandS.SetFor
import HandS.SortInts
import HandS.Iter
import KE.GoesEnum
import HandS.TryOnly
import HandS.List
import HandS.TupMul
import HandS.SetBool
import HandS.Strs
import HandS.Dict
import HandS.DictComp
import HandS.Defaults
import HandS.MakeKwOnly
import HandS.Deep
import KE.KMathGC
import HandS.SortKw
import PySem.Challenge.RW_onemore_k18_whole_asks_exchanged
set_option Elab.async false
set_option linter.all false
set_option maxRecDepth 100000
namespace Kb
open PySem PySem.Spec PyProof.Rows L2

/-! ### heaps: what stands in one stands in the other -/
def Le (G H : Hp) : Prop := ∀ a o, G a = some o → H a = some o
theorem Le.rfl' {G : Hp} : Le G G := fun _ _ h => h
theorem Le.tr {G H J : Hp} (x : Le G H) (y : Le H J) : Le G J := fun a o h => y a o (x a o h)
theorem le_new {H : Hp} {p : Addr} {o : HO} (n : H p = none) : Le H (upd H p o) := fun a u e => by
  have : a ≠ p := fun z => by rw [z, n] at e; cases e
  rw [upd_ne this]; exact e
theorem rd_le {G H : Hp} {a : Addr} {u : HO} (l : Le G H) (r : Rd G a u) : Rd H a u :=
  r.elim (fun q => .inl (l _ _ q)) fun ⟨o, q⟩ => .inr ⟨o, l _ _ q⟩
theorem sql_le {K : PySem.W.Frag} {G H : Hp} {a : Addr} {xs : List V} (l : Le G H) (r : SqL K G a xs) : SqL K H a xs :=
  r.elim (fun q => .inl (rd_le l q)) .inr
theorem sqt_le {K : PySem.W.Frag} {G H : Hp} {a : Addr} {xs : List V} (l : Le G H) (r : SqT K G a xs) : SqT K H a xs :=
  r.elim (fun q => .inl (rd_le l q)) .inr
mutual
theorem dp_le {K : PySem.W.Frag} {G H : Hp} (l : Le G H) : ∀ {v : V} {d : PyData}, Dp K G v d → Dp K H v d
  | _, _, .non => .non
  | _, _, .bl b => .bl b
  | _, _, .int i => .int i
  | _, _, .str x => .str x
  | _, _, .lst h a => .lst (sql_le l h) (dpa_le l a)
  | _, _, .tup h a => .tup (sqt_le l h) (dpa_le l a)
theorem dpa_le {K : PySem.W.Frag} {G H : Hp} (l : Le G H) : ∀ {vs : List V} {ds : List PyData}, DpAll K G vs ds → DpAll K H vs ds
  | _, _, .nil => .nil
  | _, _, .cons h t => .cons (dp_le l h) (dpa_le l t)
end
section
variable {K : PySem.W.Frag} {G H : Hp}
theorem dpa_len : ∀ {vs : List V} {ds : List PyData}, DpAll K G vs ds → vs.length = ds.length
  | _, _, .nil => rfl
  | _, _, .cons _ t => by rw [List.length_cons, List.length_cons, dpa_len t]
theorem dpa_app : ∀ {vs us : List V} {ds es : List PyData}, DpAll K G vs ds → DpAll K G us es → DpAll K G (vs ++ us) (ds ++ es)
  | _, _, _, _, .nil, q => q
  | _, _, _, _, .cons h t, q => .cons h (dpa_app t q)
theorem dpa_get : ∀ {vs : List V} {ds : List PyData} {i : Nat} {d : PyData}, DpAll K G vs ds → ds[i]? = some d → ∃ v, vs[i]? = some v ∧ Dp K G v d
  | _, _, _, _, .nil, h => by simp at h
  | _, _, 0, _, .cons h t, e => by
    simp only [List.getElem?_cons_zero, Option.some.injEq] at e
    subst e; exact ⟨_, by simp, h⟩
  | _, _, i + 1, _, .cons h t, e => by
    obtain ⟨v, a, b⟩ := dpa_get (i := i) t (by simpa using e)
    exact ⟨v, by simpa using a, b⟩
theorem dpa_get' : ∀ {vs : List V} {ds : List PyData} {i : Nat} {v : V}, DpAll K G vs ds → vs[i]? = some v → ∃ d, ds[i]? = some d ∧ Dp K G v d
  | _, _, _, _, .nil, h => by simp at h
  | _, _, 0, _, .cons h t, e => by
    simp only [List.getElem?_cons_zero, Option.some.injEq] at e
    subst e; exact ⟨_, by simp, h⟩
  | _, _, i + 1, _, .cons h t, e => by
    obtain ⟨v, a, b⟩ := dpa_get' (i := i) t (by simpa using e)
    exact ⟨v, by simpa using a, b⟩
theorem dpa_set : ∀ {vs : List V} {ds : List PyData} {i : Nat} {v : V} {d : PyData}, DpAll K G vs ds → Dp K G v d → DpAll K G (vs.set i v) (ds.set i d)
  | _, _, _, _, _, .nil, _ => .nil
  | _, _, 0, _, _, .cons h t, q => .cons q t
  | _, _, i + 1, _, _, .cons h t, q => .cons h (dpa_set t q)
theorem dpa_drop : ∀ {vs : List V} {ds : List PyData} (n : Nat), DpAll K G vs ds → DpAll K G (vs.drop n) (ds.drop n)
  | _, _, 0, h => h
  | _, _, n + 1, .nil => .nil
  | _, _, n + 1, .cons h t => by simpa using dpa_drop n t
theorem dpa_take : ∀ {vs : List V} {ds : List PyData} (n : Nat), DpAll K G vs ds → DpAll K G (vs.take n) (ds.take n)
  | _, _, 0, h => .nil
  | _, _, n + 1, .nil => .nil
  | _, _, n + 1, .cons h t => by simpa using DpAll.cons h (dpa_take n t)
theorem dpa_rev : ∀ {vs : List V} {ds : List PyData}, DpAll K G vs ds → DpAll K G vs.reverse ds.reverse
  | _, _, .nil => .nil
  | _, _, .cons h t => by
    rw [List.reverse_cons, List.reverse_cons]
    exact dpa_app (dpa_rev t) (.cons h .nil)
theorem dpa_erase : ∀ {vs : List V} {ds : List PyData} (n : Nat), DpAll K G vs ds → DpAll K G (vs.eraseIdx n) (ds.eraseIdx n)
  | _, _, 0, .nil => .nil
  | _, _, n + 1, .nil => .nil
  | _, _, 0, .cons h t => t
  | _, _, n + 1, .cons h t => .cons h (dpa_erase n t)
theorem dpa_ints : ∀ {vs : List V} {ns : List Int}, DpAll K G vs (ns.map .int) → vs = ns.map V.int
  | _, [], .nil => rfl
  | _, n :: ns, .cons h t => by
    cases h
    rw [List.map_cons, dpa_ints t]
theorem dpa_of_ints : ∀ (ns : List Int), DpAll K G (ns.map V.int) (ns.map .int)
  | [] => .nil
  | n :: ns => .cons (.int n) (dpa_of_ints ns)
theorem dpa_of_bools : ∀ (ns : List Bool), DpAll K G (ns.map V.bl) (ns.map .bool)
  | [] => .nil
  | n :: ns => .cons (.bl n) (dpa_of_bools ns)
theorem dpa_bools : ∀ {vs : List V} {ns : List Bool}, DpAll K G vs (ns.map .bool) → vs = ns.map V.bl
  | _, [], .nil => rfl
  | _, n :: ns, .cons h t => by
    cases h
    rw [List.map_cons, dpa_bools t]
end

/-! ### values of a state: data, an own list, a tuple of such -/
inductive DV where
  | data (d : PyData)
  | olist (ds : List PyData)
  | otup (vs : List DV)
  | odict (kvs : List (List Int × PyData))
  | sdict (kvs : List (List Int × PyData))
/-- no dict -/
def DV.nd : DV → Bool
  | .data _ => true
  | .olist _ => true
  | .otup _ => true
  | .odict _ => false
  | .sdict _ => false
def nds : List DV → Bool
  | [] => true
  | v :: vs => if v.nd = true then nds vs else false
theorem nds_cons {v : DV} {vs : List DV} (h : nds (v :: vs) = true) : v.nd = true ∧ nds vs = true := by
  unfold nds at h
  split at h
  · rename_i e; exact ⟨e, h⟩
  · cases h
mutual
def DV.dat : DV → PyData
  | .data d => d
  | .olist ds => .list ds
  | .otup vs => .tuple (dats vs)
  | .odict _ => .dict []
  | .sdict _ => .dict []
def dats : List DV → List PyData
  | [] => []
  | v :: vs => v.dat :: dats vs
end
abbrev Ev := List (Option DV)

/-! #### dicts whose keys are tuples of numbers -/
def tHash (ks : List Int) : Int := reduceHash (Builtin.Tuple.tupleHashOf (ks.map hashInt))
/-- the dict's own object -/
def dO (a : Addr) (o : Obj) : HO := .ext fun h => h.get? a = some o
structure DOk (a : Addr) (o : Obj) (es : List DictEntry) : Prop where
  ne : (a == sysModules) = false
  ex : o.ExactDict
  da : ∃ xs ep, o.data = .dict xs ep ∧ xs.toList = es
/-- its entries: keys and what they stand for -/
inductive DEnt (K : PySem.W.Frag) (G : Hp) : List DictEntry → List (List Int × PyData) → Prop
  | nil : DEnt K G [] []
  | cons {b : Addr} {k : List Int} {u : Value} {v : V} {d : PyData} {es : List DictEntry} {kvs : List (List Int × PyData)} : SqT K G b (k.map V.int) → RelV v u → Dp K G v d → DEnt K G es kvs → DEnt K G (⟨tHash k, .ref b, u⟩ :: es) ((k, d) :: kvs)
theorem dent_le {K : PySem.W.Frag} {G H : Hp} (l : Le G H) : ∀ {es : List DictEntry} {kvs : List (List Int × PyData)}, DEnt K G es kvs → DEnt K H es kvs
  | _, _, .nil => .nil
  | _, _, .cons a b c t => .cons (sqt_le l a) b (dp_le l c) (dent_le l t)
mutual
inductive OwnV (K : PySem.W.Frag) (G H : Hp) : (Addr → Prop) → V → DV → Prop
  | data {B : Addr → Prop} {v : V} {d : PyData} : Dp K G v d → OwnV K G H B v (.data d)
  | olist {B : Addr → Prop} {p : Addr} {vs : List V} {ds : List PyData} : B p → H p = some (.lst vs) → DpAll K G vs ds → OwnV K G H B (.ref p) (.olist ds)
  | otup {B : Addr → Prop} {t : Addr} {vs : List V} {dvs : List DV} : SqT K G t vs → OwnVs K G H B vs dvs → nds dvs = true → OwnV K G H B (.ref t) (.otup dvs)
  | odict {B : Addr → Prop} {p : Addr} {o : Obj} {es : List DictEntry} {kvs : List (List Int × PyData)} : B p → H p = some (dO p o) → DOk p o es → DEnt K G es kvs → (kvs.map Prod.fst).Nodup ∧ kvs.length ≤ 16000000 → OwnV K G H B (.ref p) (.odict kvs)
  | sdict {B : Addr → Prop} {p : Addr} {o : Obj} {es : List DictEntry} {kvs : List (List Int × PyData)} : G p = some (dO p o) → DOk p o es → DEnt K G es kvs → (kvs.map Prod.fst).Nodup ∧ kvs.length ≤ 16000000 → OwnV K G H B (.ref p) (.sdict kvs)
inductive OwnVs (K : PySem.W.Frag) (G H : Hp) : (Addr → Prop) → List V → List DV → Prop
  | nil {B : Addr → Prop} : OwnVs K G H B [] []
  | cons {B B1 B2 : Addr → Prop} {v : V} {dv : DV} {vs : List V} {dvs : List DV} : (∀ a, B1 a → B a) → (∀ a, B2 a → B a) → (∀ a, B1 a → ¬ B2 a) → OwnV K G H B1 v dv → OwnVs K G H B2 vs dvs → OwnVs K G H B (v :: vs) (dv :: dvs)
end
inductive OwnE (K : PySem.W.Frag) (G H : Hp) : (Addr → Prop) → L2.St → Ev → Prop
  | nil {B : Addr → Prop} : OwnE K G H B [] []
  | dead {B : Addr → Prop} {o : Option V} {σ : L2.St} {env : Ev} : OwnE K G H B σ env → OwnE K G H B (o :: σ) (none :: env)
  | live {B B1 B2 : Addr → Prop} {v : V} {dv : DV} {σ : L2.St} {env : Ev} : (∀ a, B1 a → B a) → (∀ a, B2 a → B a) → (∀ a, B1 a → ¬ B2 a) → OwnV K G H B1 v dv → OwnE K G H B2 σ env → OwnE K G H B (some v :: σ) (some dv :: env)

section
variable {K : PySem.W.Frag} {G G' H H' : Hp} {B B' C : Addr → Prop} {σ : L2.St} {env : Ev}
mutual
theorem OwnV.mono {B B' : Addr → Prop} (l : Le G G') (f : ∀ a o, B a → H a = some o → H' a = some o) (s : ∀ a, B a → B' a) : ∀ {v : V} {dv : DV}, OwnV K G H B v dv → OwnV K G' H' B' v dv
  | _, _, .data h => .data (dp_le l h)
  | _, _, .olist b h t => .olist (s _ b) (f _ _ b h) (dpa_le l t)
  | _, _, .otup h t n => .otup (sqt_le l h) (OwnVs.mono l f s t) n
  | _, _, .odict b h k t z => .odict (s _ b) (f _ _ b h) k (dent_le l t) z
  | _, _, .sdict h k t z => .sdict (l _ _ h) k (dent_le l t) z
theorem OwnVs.mono {B B' : Addr → Prop} (l : Le G G') (f : ∀ a o, B a → H a = some o → H' a = some o) (s : ∀ a, B a → B' a) : ∀ {vs : List V} {dvs : List DV}, OwnVs K G H B vs dvs → OwnVs K G' H' B' vs dvs
  | _, _, .nil => .nil
  | _, _, .cons s1 s2 d h t => .cons (fun a q => s a (s1 a q)) (fun a q => s a (s2 a q)) d (OwnV.mono l (fun a o q => f a o (s1 a q)) (fun _ q => q) h) (OwnVs.mono l (fun a o q => f a o (s2 a q)) (fun _ q => q) t)
end
mutual
theorem OwnV.freeze {B : Addr → Prop} (l : Le G G') (f : ∀ a o, B a → H a = some o → G' a = some o) : ∀ {v : V} {dv : DV}, OwnV K G H B v dv → dv.nd = true → Dp K G' v dv.dat
  | _, _, .data h, _ => dp_le l h
  | _, _, .olist b h t, _ => .lst (.inl (.inl (f _ _ b h))) (dpa_le l t)
  | _, _, .otup h t n, _ => .tup (sqt_le l h) (OwnVs.freeze l f t n)
  | _, _, .odict _ _ _ _ _, h => Bool.noConfusion h
  | _, _, .sdict _ _ _ _, h => Bool.noConfusion h
theorem OwnVs.freeze {B : Addr → Prop} (l : Le G G') (f : ∀ a o, B a → H a = some o → G' a = some o) : ∀ {vs : List V} {dvs : List DV}, OwnVs K G H B vs dvs → nds dvs = true → DpAll K G' vs (dats dvs)
  | _, _, .nil, _ => .nil
  | _, _, .cons s1 s2 _ h t, n => .cons (OwnV.freeze l (fun a o q => f a o (s1 a q)) h (nds_cons n).1) (OwnVs.freeze l (fun a o q => f a o (s2 a q)) t (nds_cons n).2)
end
theorem OwnV.deep (l : Le G H) {v : V} {dv : DV} (h : OwnV K G H B v dv) (n : dv.nd = true) : Dp K H v dv.dat := h.freeze l (fun _ _ _ q => q) n
theorem OwnE.mono (l : Le G G') : ∀ {B B' : Addr → Prop} {σ : L2.St} {env : Ev}, OwnE K G H B σ env → (∀ a o, B a → H a = some o → H' a = some o) → (∀ a, B a → B' a) → OwnE K G' H' B' σ env
  | _, _, _, _, .nil, _, _ => .nil
  | _, _, _, _, .dead t, f, s => .dead (OwnE.mono l t f s)
  | _, _, _, _, .live s1 s2 d h t, f, s => .live (fun a q => s a (s1 a q)) (fun a q => s a (s2 a q)) d (h.mono l (fun a o q => f a o (s1 a q)) fun _ q => q) (OwnE.mono l t (fun a o q => f a o (s2 a q)) fun _ q => q)
theorem OwnE.len : ∀ {B : Addr → Prop} {σ : L2.St} {env : Ev}, OwnE K G H B σ env → σ.length = env.length
  | _, _, _, .nil => rfl
  | _, _, _, .dead t => by rw [List.length_cons, List.length_cons, t.len]
  | _, _, _, .live _ _ _ _ t => by rw [List.length_cons, List.length_cons, t.len]
theorem OwnE.look : ∀ {B : Addr → Prop} {σ : L2.St} {env : Ev} {i : Nat} {dv : DV}, OwnE K G H B σ env → env[i]? = some (some dv) → ∃ v, σ[i]? = some (some v) ∧ OwnV K G H B v dv
  | _, _, _, _, _, .nil, e => by simp at e
  | _, _, _, 0, _, .dead t, e => by simp at e
  | _, _, _, i + 1, _, .dead t, e => by
    obtain ⟨v, a, b⟩ := OwnE.look (i := i) t (by simpa using e)
    exact ⟨v, by simpa using a, b⟩
  | _, _, _, 0, _, .live s1 s2 d h t, e => by
    simp only [List.getElem?_cons_zero, Option.some.injEq] at e
    subst e
    exact ⟨_, by simp, h.mono Le.rfl' (fun _ _ _ q => q) s1⟩
  | _, _, _, i + 1, _, .live s1 s2 d h t, e => by
    obtain ⟨v, a, b⟩ := OwnE.look (i := i) t (by simpa using e)
    exact ⟨v, by simpa using a, b.mono Le.rfl' (fun _ _ _ q => q) s2⟩
/-- a slot's value is taken out: it has its own addresses -/
theorem OwnE.take : ∀ {B : Addr → Prop} {σ : L2.St} {env : Ev} {i : Nat} {dv : DV}, OwnE K G H B σ env → env[i]? = some (some dv) →
    ∃ (v : V) (C B' : Addr → Prop), σ[i]? = some (some v) ∧ OwnV K G H C v dv ∧ OwnE K G H B' σ (env.set i none) ∧ (∀ a, C a → B a) ∧ (∀ a, B' a → B a) ∧ ∀ a, C a → ¬ B' a
  | _, _, _, _, _, .nil, e => by simp at e
  | _, _, _, 0, _, .dead t, e => by simp at e
  | _, _, _, i + 1, _, .dead t, e => by
    obtain ⟨v, C, B', a, h, q, c1, c2, c3⟩ := OwnE.take (i := i) t (by simpa using e)
    exact ⟨v, C, B', by simpa using a, h, .dead q, c1, c2, c3⟩
  | _, _, _, 0, _, .live (B1 := B1) (B2 := B2) s1 s2 d h t, e => by
    simp only [List.getElem?_cons_zero, Option.some.injEq] at e
    subst e
    exact ⟨_, B1, B2, by simp, h, .dead t, s1, s2, d⟩
  | _, _, _, i + 1, _, .live (B := B) (B1 := B1) (B2 := B2) s1 s2 d h t, e => by
    obtain ⟨v, C, B', a, h', q, c1, c2, c3⟩ := OwnE.take (i := i) t (by simpa using e)
    refine ⟨v, C, fun a => B1 a ∨ B' a, by simpa using a, h', .live (fun _ z => .inl z) (fun _ z => .inr z) (fun a z y => d a z (c2 a y)) h q, fun a z => s2 a (c1 a z), fun a z => z.elim (s1 a) fun y => s2 a (c2 a y), fun a z y => ?_⟩
    rcases y with y | y
    · exact d a y (c1 a z)
    · exact c3 a z y
theorem OwnE.put : ∀ {B C : Addr → Prop} {σ : L2.St} {env : Ev} {v : V} {dv : DV} (i : Nat), OwnE K G H B σ env → OwnV K G H C v dv → (∀ a, C a → ¬ B a) → OwnE K G H (fun a => B a ∨ C a) (σ.set i (some v)) (env.set i (some dv))
  | _, _, _, _, _, _, _, .nil, _, _ => .nil
  | _, _, _, _, _, _, 0, .dead t, h, d => .live (fun _ z => .inr z) (fun _ z => .inl z) d h t
  | _, _, _, _, _, _, i + 1, .dead t, h, d => .dead (OwnE.put i t h d)
  | _, _, _, _, _, _, 0, .live s1 s2 d1 h1 t, h, d => .live (fun _ z => .inr z) (fun a z => .inl (s2 a z)) (fun a z y => d a z (s2 a y)) h t
  | _, _, _, _, _, _, i + 1, .live s1 s2 d1 h1 t, h, d => by
    refine .live (fun a z => .inl (s1 a z)) (fun a z => ?_) (fun a z y => ?_) h1 (OwnE.put i t h fun a z y => d a z (s2 a y))
    · exact z.elim (fun y => .inl (s2 a y)) .inr
    · rcases y with y | y
      · exact d1 a z y
      · exact d a y (s1 a z)
theorem OwnE.kill : ∀ {B : Addr → Prop} {σ : L2.St} {env : Ev} (i : Nat), OwnE K G H B σ env → OwnE K G H B σ (env.set i none)
  | _, _, _, _, .nil => .nil
  | _, _, _, 0, .dead t => .dead t
  | _, _, _, i + 1, .dead t => .dead (OwnE.kill i t)
  | _, _, _, 0, .live s1 s2 d h t => .dead (t.mono Le.rfl' (fun _ _ _ q => q) s2)
  | _, _, _, i + 1, .live s1 s2 d h t => .live s1 s2 d h (OwnE.kill i t)
/-- only the slots that live count -/
theorem OwnE.other : ∀ {B : Addr → Prop} {σ σ' : L2.St} {env : Ev}, OwnE K G H B σ env → σ'.length = σ.length → (∀ (i : Nat) (dv : DV), env[i]? = some (some dv) → σ'[i]? = σ[i]?) → OwnE K G H B σ' env
  | _, [], [], _, .nil, _, _ => .nil
  | _, _ :: _, _ :: _, _, .dead t, l, f => .dead (OwnE.other t (by simpa using l) fun i dv e => by simpa using f (i + 1) dv (by simpa using e))
  | _, _ :: _, o :: _, _, .live s1 s2 d h t, l, f => by
    have e0 := f 0 _ rfl
    simp only [List.getElem?_cons_zero, Option.some.injEq] at e0
    subst e0
    exact .live s1 s2 d h (OwnE.other t (by simpa using l) fun i dv e => by simpa using f (i + 1) dv (by simpa using e))
end
def Fr0 (B : Addr → Prop) (G H : Hp) : Prop := ∀ a, B a → G a = none ∧ H a ≠ none
structure Conc (K : PySem.W.Frag) (H G : Hp) (B : Addr → Prop) (σ : L2.St) (env : Ev) : Prop where
  le : Le G H
  fr : Fr0 B G H
  own : OwnE K G H B σ env
/-- from (H, G), B owned, to (H', G'), B' owned -/
structure Step (H G : Hp) (B : Addr → Prop) (H' G' : Hp) (B' : Addr → Prop) : Prop where
  g : Le G G'
  own : ∀ a, B' a → B a ∨ H a = none
  fr : ∀ a, H a ≠ none → ¬ B a → H' a = H a ∧ G' a = G a
  th : ∀ a, H a ≠ none → H' a ≠ none
section
variable {H G H1 G1 H2 G2 : Hp} {B B1 B2 C : Addr → Prop}
theorem Step.refl : Step H G B H G B := ⟨Le.rfl', fun _ z => .inl z, fun _ _ _ => ⟨rfl, rfl⟩, fun _ z => z⟩
theorem Step.less (s : Step H G B H1 G1 B1) (w : ∀ a, B2 a → B1 a) : Step H G B H1 G1 B2 := ⟨s.g, fun a z => s.own a (w a z), s.fr, s.th⟩
theorem Step.tr (s : Step H G B H1 G1 B1) (t : Step H1 G1 B1 H2 G2 B2) : Step H G B H2 G2 B2 where
  g := s.g.tr t.g
  own := fun a z => (t.own a z).elim (s.own a) fun n => by
    by_cases h : H a = none
    · exact .inr h
    · exact absurd n (s.th a h)
  fr := fun a h n => by
    obtain ⟨e1, e2⟩ := s.fr a h n
    have n1 : ¬ B1 a := fun z => (s.own a z).elim n h
    obtain ⟨e3, e4⟩ := t.fr a (s.th a h) n1
    exact ⟨e3.trans e1, e4.trans e2⟩
  th := fun a h => t.th a (s.th a h)
/-- a step that does not own C: C stays, and may be owned behind -/
theorem Step.wide (s : Step H G B H1 G1 B1) (C : Addr → Prop) : Step H G (fun a => B a ∨ C a) H1 G1 (fun a => B1 a ∨ C a) where
  g := s.g
  own := fun a z => z.elim (fun q => (s.own a q).elim (fun y => .inl (.inl y)) .inr) fun q => .inl (.inr q)
  fr := fun a h n => s.fr a h fun z => n (.inl z)
  th := s.th
/-- what is owned elsewhere stays -/
theorem Step.hold (s : Step H G B H1 G1 B1) (f : Fr0 C G H) (d : ∀ a, C a → ¬ B a) : Fr0 C G1 H1 := fun a z => by
  obtain ⟨g, h⟩ := f a z
  obtain ⟨e1, e2⟩ := s.fr a h (d a z)
  exact ⟨e2.trans g, by rw [e1]; exact h⟩
theorem Step.keep (s : Step H G B H1 G1 B1) (f : Fr0 C G H) (d : ∀ a, C a → ¬ B a) : ∀ a o, C a → H a = some o → H1 a = some o := fun a o z e => by
  rw [(s.fr a (f a z).2 (d a z)).1]; exact e
theorem Step.dis (s : Step H G B H1 G1 B1) (f : Fr0 C G H) (d : ∀ a, C a → ¬ B a) : ∀ a, C a → ¬ B1 a := fun a z y =>
  (s.own a y).elim (d a z) (f a z).2
end
end Kb
namespace Kb
open PySem PySem.Spec PyProof.Rows L2

/-! ### contracts of defs, while no container is being shown -/
structure FnG (P : Program) (w : World) (K : PySem.W.Frag) (mg : Str → Option Value) (base : Heap) (k : Nat) (f : Addr) (fd : FuncData) (ps : List Str) (sp : Sp) : Prop where
  len : ∀ vs H Q E, sp vs H Q E → vs.length = ps.length
  go : ∀ (A : Around) (outer : List Env) (s : Shared) (H : Hp) (args : Args) (us : List Value) (vs : List V) (Q : VK) (E : XK), Room k A → A.guards = some [] → Env0 P w K mg base A outer s H →
    BindsTo s fd args (ps.zip us) → Vals vs us → sp vs H Q E → codeAny (model P w) A (.call (.ref f) args) (CR CX0 outer P w H s Q E) s

section
variable {X : Cx} {k : Nat} {f : Addr} {fd : FuncData} {ps : List Str} {sp : Sp} {E : XK} {x : Str} {p pos : Pos} {e : Expr} {es : List Expr} {t : TA}
theorem fin_call {pins : List (Addr × Obj)} {σ : L2.St} {H : Hp} {s : Shared} {Q : VK} (I : Inv X pins σ H s) {a : Addr} {args : Args}
    (h : codeAny (model X.prog X.w) X.A (.call (.ref a) args) (CR CX0 X.stack X.prog X.w H s Q E) s) :
    codeAny (model X.prog X.w) X.A (.call (.ref a) args) (fun r s' => match r with
      | .ok (.ret u) => EP X pins σ Q u s'
      | _ => False) s := by
  refine codeAny_mono h fun r s' hq => ?_
  match r, hq with
  | .ok (.ret u), hq => exact I.after hq
  | .ok .next, hq => exact hq
  | .ok .brk, hq => exact hq
  | .ok .cont, hq => exact hq
  | .error _, hq => exact hq
theorem run_g {pins : List (Addr × Obj)} {σ : L2.St} {H : Hp} {s : Shared} {Q : VK} {args us : List Value} {kw : List (Str × Value)} {vs : List V} (F : FnG X.prog X.w X.K X.mg X.base k f fd ps sp) (hr : Room k X.A) (hg : X.A.guards = some [])
    (hb : BindsTo s fd ⟨args, kw⟩ (ps.zip us)) (I : Inv X pins σ H s) (r : Vals vs us) (h : sp vs H Q E) : wpAny (model X.prog X.w) X.A (call (.ref f) args kw) (EP X pins σ Q) X.xe s := by
  refine wpAny_call (codeAny_mono (fin_call (pins := pins) (σ := σ) I (F.go X.A X.stack s H ⟨args, kw⟩ us vs Q E hr hg I.env0 hb r h)) fun r s' hq => ?_)
  match r, hq with
  | .ok (.ret u), hq => exact hq
  | .ok .next, hq => exact hq.elim
  | .ok .brk, hq => exact hq.elim
  | .ok .cont, hq => exact hq.elim
  | .error _, hq => exact hq.elim
theorem pe_callG (F : FnG X.prog X.w X.K X.mg X.base k f fd ps sp) (hr : Room k X.A) (hgu : X.A.guards = some []) (hg : Gl X x) (hm : X.mg x = some (.ref f)) (hk : PySem.W.keepIn X.K (.ref f) = true) (hb : Binds X.K fd ps [])
    (ha : PA X (e :: es) t) (hdb : (x == ("__debug__" : Str)) = false := by decide) (he : starEach (e :: es) X.env = (false, eval e X.env) :: starEach es X.env := by rfl)
    (hpl : (backTo pos (starEach es X.env)).any (·.1) = false := by rfl) : PE X (.Call (.Name x p) (e :: es) [] pos) (tCall sp [] E0 t) := by
  constructor
  intro pins s σ H Q I h
  apply wpAny_Call_Name_kw
  apply ld_glob I hg hm _ hdb
  refine PySem.W.callWith_K (h₀ := X.base) I.ok.mod.kin hk (thn (ha.run pos pins s σ H _ I h) ?_) he hpl
  rintro us s1 ⟨vs, H1, I1, r, q⟩
  rw [List.append_nil] at q
  have hl : (us ++ []).length = ps.length := by rw [List.append_nil, ← r.length]; exact F.len _ _ _ _ q
  have hb' := hb s1 us I1.kIn hl
  rw [List.append_nil] at hb'
  exact ⟨I1.kIn, run_g F hr hgu hb' I1 r q⟩
theorem pe_callG0 (F : FnG X.prog X.w X.K X.mg X.base k f fd ps sp) (hr : Room k X.A) (hgu : X.A.guards = some []) (hg : Gl X x) (hm : X.mg x = some (.ref f)) (hk : PySem.W.keepIn X.K (.ref f) = true) (hb : Binds X.K fd ps [])
    (hdb : (x == ("__debug__" : Str)) = false := by decide) : PE X (.Call (.Name x p) [] [] pos) (tCall sp [] E0 tNil) := by
  constructor
  intro pins s σ H Q I h
  have q : sp [] H Q E0 := h
  apply wpAny_Call_Name_kw
  apply ld_glob I hg hm _ hdb
  have hl : (([] : List Value) ++ []).length = ps.length := by
    have := F.len _ _ _ _ q
    simpa using this
  exact PySem.W.callWith_K0 I.kIn hk (run_g F hr hgu (hb s [] I.kIn hl) I .nil q)
end

/-- a def's body -/
theorem fn_g {P : Program} {w : World} {K : PySem.W.Frag} {mg : Str → Option Value} {base : Heap} {x qual : Str} {st : Stmt} {f : Addr} {fd : FuncData} {N ps : List Str} {k : Nat} {sp : Sp} (F : Fun K x qual st f fd) (S : FnScope N ps (defScope st))
    (len : ∀ vs H Q E, sp vs H Q E → vs.length = ps.length)
    (hbody : ∀ (cdv : Value) (A : Around) (outer : List Env) (s : Shared) (H : Hp) (vs : List V) (Q : VK) (E : XK), Room k (A.deeper (envOfC qual (defScope st) s.heap.objs.size f cdv)) → A.guards = some [] → sp vs H Q E →
      ∃ t, PSs (cxOf CX0 P w K mg base N qual (defScope st) f cdv A outer s H E).nox (defBody st) t ∧ t { nx := fun _ H' => Q .non H', rt := Q } (start N vs) H) : FnG P w K mg base (k + 1) f fd ps sp := by
  obtain ⟨oc, od, kV, doc, pm, an, cdv, ct, osl, rfl, lk, hcd⟩ := F.ex
  constructor
  · exact len
  intro A outer s H args us vs Q E hr hgu e0 hb r hsp
  -- the rule of the layer, for this one way of being called
  let sp1 : Sp := fun vs' H' Q' E' => vs'.length = ps.length ∧ ∀ (cdv : Value) (A' : Around) (outer' : List Env) (s' : Shared), Room k (A'.deeper (envOfC qual (defScope st) s'.heap.objs.size f cdv)) →
      ∃ t, PSs (cxOf CX0 P w K mg base N qual (defScope st) f cdv A' outer' s' H' E').nox (defBody st) t ∧ t { nx := fun _ H'' => Q' .non H'', rt := Q' } (start N vs') H'
  have hkind : ∀ y ∈ ps.zip us, (defScope st).names.lookup y.1 = some .local ∨ ((defScope st).names.lookup y.1 = some .cell ∧ ((cellsFrom (s.heap.objs.size + 1) (defScope st).names []).lookup y.1).isSome = true) := by
    rintro ⟨n, v⟩ hy
    exact (S.par n (List.of_mem_zip hy).1).imp id fun q => ⟨q, PySem.W.cellsFrom_some _ _ _ (.inl q)⟩
  have KX : K.In s.heap := e0.mod.kin.keeps fun b o e => (e0.bs b o e).1
  have lim : s.heap.NoLimit := e0.mod.nolimit.keeps fun b o e => (e0.bs b o e).1
  apply codeAny_call_function hr.depth (KX _ _ lk) rfl S.co S.gen rfl (PySem.W.codeRec_of KX hcd)
  apply hb
  apply wpAny_newFunctionEnv_cells S.kind hkind
  intro env he s1 xx
  subst he
  obtain ⟨t, ht, hq⟩ := hbody cdv A outer s H vs Q E (hr.deeper _) hgu hsp
  refine ⟨lim.keeps xx.toInCall.keep, codeAny_func (wpAny_mono (ht.nox.run [] s1 (start N vs) H _ (inv_start S hr.hd e0 (len _ _ _ _ hsp) r xx) hq) ?_ fun e s' hs => hs)⟩
  intro fl s' hs
  match fl, hs with
  | .ret u, ⟨v, σ', H', J, rv, q⟩ => exact ⟨v, H', J.os, J.bare, J.base, J.hok, rv, q⟩
  | .next, ⟨σ', H', J, q⟩ => exact ⟨V.non, H', J.os, J.bare, J.base, J.hok, rfl, q⟩
  | .brk, ⟨_, _, _, q⟩ => exact q.elim
  | .cont, ⟨_, _, _, q⟩ => exact q.elim
theorem deeper_guards (A : Around) (env : Env) (h : A.guards = some []) : (A.deeper env).guards = some [] := by
  first
    | exact h
    | (show pushGuards _ A.guards = _; rw [h]; rfl)
end Kb
namespace Kb
open PySem PySem.Spec PyProof.Rows L2

/-- a scope, and the names whose cells were made with it -/
structure Scf where
  sc : Scope
  fn : Str → Bool
/-! ### the context, and what an expression, a test, a statement is worth over states -/
structure CxOk (P : Program) (w : World) (K : PySem.W.Frag) (mg : Str → Option Value) (base : Heap) (k : Nat) (N : List Str) (sc : Scf) (X : Cx) : Prop where
  eP : X.prog = P
  ew : X.w = w
  eK : X.K = K
  eg : X.mg = mg
  eb : X.base = base
  eN : X.N = N
  es : X.env.scope = sc.sc
  calm : X.calm = true
  room : Room k X.A
  gd : X.A.guards = some []
  nd : N.Nodup
  kd : sc.sc.kind = .function
  fn : X.fn = sc.fn
  xe : X.xe = fun _ _ => False
def SeeB (sc : Scf) (x : Str) : Bool := match sc.sc.names.lookup x with
  | some .local => true
  | some .cell => true
  | some .free => true
  | _ => false
def LocB (sc : Scf) (x : Str) : Bool := match sc.sc.names.lookup x with
  | some .local => true
  | some .cell => sc.fn x
  | _ => false
def GloB (sc : Scf) (x : Str) : Bool := match sc.sc.names.lookup x with
  | some .globalImplicit => true
  | _ => false
theorem see_of {sc : Scf} {x : Str} (h : SeeB sc x = true) : Vis sc.sc x := by
  unfold SeeB at h
  split at h
  · exact .inl (by assumption)
  · exact .inr (.inl (by assumption))
  · exact .inr (.inr (by assumption))
  · cases h
theorem loc_of {sc : Scf} {x : Str} (h : LocB sc x = true) : L2.Loc sc.sc x := by
  unfold LocB at h
  split at h
  · exact .inl (by assumption)
  · exact .inr (by assumption)
  · cases h
theorem fn_of_loc {sc : Scf} {x : Str} (h : LocB sc x = true) : sc.fn x = true ∨ sc.sc.names.lookup x = some .local := by
  unfold LocB at h
  split at h
  · exact .inr (by assumption)
  · exact .inl h
  · cases h
theorem glo_of {sc : Scf} {x : Str} (h : GloB sc x = true) : sc.sc.names.lookup x = some .globalImplicit := by
  unfold GloB at h
  split at h
  · assumption
  · cases h

inductive OV where
  | slot (i : Nat)
  | val (dv : DV)
inductive AV where
  | bor (i : Nat)
  | val (dv : DV)
def OV.get (env : Ev) : OV → Option DV
  | .slot i => match env[i]? with
    | some (some dv) => some dv
    | _ => none
  | .val dv => some dv
abbrev WE := Ev → (DV → Ev → Prop) → Prop
abbrev WO := Ev → (OV → Ev → Prop) → Prop
abbrev WT := Ev → (Bool → Ev → Prop) → Prop
abbrev WA := Ev → (List AV → Ev → Prop) → Prop
structure EndW where
  nx : Ev → Prop
  rt : DV → Ev → Prop
  bk : Ev → Prop := fun _ => False
  ct : Ev → Prop := fun _ => False
abbrev WS := EndW → Ev → Prop
abbrev WG := DV → Ev → (Ev → Prop) → Prop

/-- behind an evaluation from (H, G, B): C is what the value owns -/
structure Res (K : PySem.W.Frag) (H G : Hp) (B : Addr → Prop) (H' G' : Hp) (B' C : Addr → Prop) (σ : L2.St) (env' : Ev) : Prop where
  conc : Conc K H' G' B' σ env'
  frC : Fr0 C G' H'
  dis : ∀ a, C a → ¬ B' a
  step : Step H G B H' G' (fun a => B' a ∨ C a)
def OwnO (K : PySem.W.Frag) (G H : Hp) (C : Addr → Prop) (σ : L2.St) (v : V) : OV → Prop
  | .slot i => σ[i]? = some (some v)
  | .val dv => OwnV K G H C v dv
inductive OwnAs (K : PySem.W.Frag) (G H : Hp) (σ : L2.St) : (Addr → Prop) → List V → List AV → Prop
  | nil {C : Addr → Prop} : OwnAs K G H σ C [] []
  | val {C C1 C2 : Addr → Prop} {v : V} {dv : DV} {vs : List V} {avs : List AV} : (∀ a, C1 a → C a) → (∀ a, C2 a → C a) → (∀ a, C1 a → ¬ C2 a) → OwnV K G H C1 v dv → OwnAs K G H σ C2 vs avs → OwnAs K G H σ C (v :: vs) (.val dv :: avs)
  | bor {C : Addr → Prop} {i : Nat} {v : V} {vs : List V} {avs : List AV} : σ[i]? = some (some v) → OwnAs K G H σ C vs avs → OwnAs K G H σ C (v :: vs) (.bor i :: avs)
def SndE (K : PySem.W.Frag) (te : TE) (W : WE) : Prop := ∀ (σ : L2.St) (H G : Hp) (B : Addr → Prop) (env : Ev) (Q : DV → Ev → Prop) (Qv : VK), Conc K H G B σ env → W env Q →
  (∀ v H' G' B' C env' dv, Q dv env' → Res K H G B H' G' B' C σ env' → OwnV K G' H' C v dv → Qv v H') → te σ H Qv
def SndO (K : PySem.W.Frag) (te : TE) (W : WO) : Prop := ∀ (σ : L2.St) (H G : Hp) (B : Addr → Prop) (env : Ev) (Q : OV → Ev → Prop) (Qv : VK), Conc K H G B σ env → W env Q →
  (∀ v H' G' B' C env' ov, Q ov env' → Res K H G B H' G' B' C σ env' → OwnO K G' H' C σ v ov → Qv v H') → te σ H Qv
def SndA (K : PySem.W.Frag) (ta : TA) (W : WA) : Prop := ∀ (σ : L2.St) (H G : Hp) (B : Addr → Prop) (env : Ev) (Q : List AV → Ev → Prop) (Qv : List V → Hp → Prop), Conc K H G B σ env → W env Q →
  (∀ vs H' G' B' C env' avs, Q avs env' → Res K H G B H' G' B' C σ env' → OwnAs K G' H' σ C vs avs → Qv vs H') → ta σ H Qv
def SndT (K : PySem.W.Frag) (tt : TT) (W : WT) : Prop := ∀ (σ : L2.St) (H G : Hp) (B : Addr → Prop) (env : Ev) (Q : Bool → Ev → Prop) (Qv : Bool → Hp → Prop), Conc K H G B σ env → W env Q →
  (∀ b H' G' B' env', Q b env' → Conc K H' G' B' σ env' → Step H G B H' G' B' → Qv b H') → tt σ H Qv
def pinned (pin : List Bool) (σ σ' : L2.St) : Prop := σ'.length = σ.length ∧ ∀ (i : Nat), pin[i]? = some true → σ'[i]? = σ[i]?
structure EndsOk (K : PySem.W.Frag) (pin : List Bool) (H G : Hp) (B : Addr → Prop) (σ : L2.St) (DW : EndW) (D : Ends) : Prop where
  nx : ∀ σ' H' G' B' env', DW.nx env' → Conc K H' G' B' σ' env' → Step H G B H' G' B' → pinned pin σ σ' → D.nx σ' H'
  rt : ∀ v σ' H' G' B' C env' dv, DW.rt dv env' → Res K H G B H' G' B' C σ' env' → OwnV K G' H' C v dv → pinned pin σ σ' → D.rt v H'
  bk : ∀ σ' H' G' B' env', DW.bk env' → Conc K H' G' B' σ' env' → Step H G B H' G' B' → pinned pin σ σ' → D.bk σ' H'
  ct : ∀ σ' H' G' B' env', DW.ct env' → Conc K H' G' B' σ' env' → Step H G B H' G' B' → pinned pin σ σ' → D.ct σ' H'
def SndS (K : PySem.W.Frag) (pin : List Bool) (ts : TS) (W : WS) : Prop := ∀ (σ : L2.St) (H G : Hp) (B : Addr → Prop) (env : Ev) (D : Ends) (DW : EndW), Conc K H G B σ env → W DW env → EndsOk K pin H G B σ DW D → ts D σ H
/-- a target -/
def SndG (K : PySem.W.Frag) (pin : List Bool) (g : TG) (W : WG) : Prop := ∀ (v : V) (dv : DV) (σ : L2.St) (H G : Hp) (B C : Addr → Prop) (env : Ev) (Q : Ev → Prop) (Qg : L2.St → Hp → Prop), Conc K H G B σ env → Fr0 C G H → (∀ a, C a → ¬ B a) → OwnV K G H C v dv → W dv env Q →
  (∀ σ' B' env', Q env' → Conc K H G B' σ' env' → (∀ a, B' a → B a ∨ C a) → pinned pin σ σ' → Qg σ' H) → g v σ H Qg

section
variable (P : Program) (w : World) (K : PySem.W.Frag) (mg : Str → Option Value) (base : Heap) (k : Nat) (N : List Str) (sc : Scf) (pin : List Bool)
def DenE (e : Expr) (W : WE) : Prop := ∃ te, (∀ X, CxOk P w K mg base k N sc X → PE X e te) ∧ SndE K te W
def DenO (e : Expr) (W : WO) : Prop := ∃ te, (∀ X, CxOk P w K mg base k N sc X → PE X e te) ∧ SndO K te W
def DenT (e : Expr) (W : WT) : Prop := ∃ te, (∀ X, CxOk P w K mg base k N sc X → PT X e te) ∧ SndT K te W
def DenW (e : Expr) (W : WT) : Prop := ∃ te, (∀ X, CxOk P w K mg base k N sc X → PW X e te) ∧ SndT K te W
def DenA (es : List Expr) (W : WA) : Prop := ∃ te, (∀ X, CxOk P w K mg base k N sc X → PA X es te) ∧ SndA K te W
def DenS (st : Stmt) (W : WS) : Prop := ∃ ts, (∀ X, CxOk P w K mg base k N sc X → PS X st ts) ∧ SndS K pin ts W
def DenB (st : List Stmt) (W : WS) : Prop := ∃ ts, (∀ X, CxOk P w K mg base k N sc X → PSs X st ts) ∧ SndS K pin ts W
def DenG (e : Expr) (W : WG) : Prop := ∃ g, (∀ X, CxOk P w K mg base k N sc X → PG X e g) ∧ SndG K pin g W
end

section
variable {P : Program} {w : World} {K : PySem.W.Frag} {mg : Str → Option Value} {base : Heap} {k : Nat} {N : List Str} {sc : Scf} {pin : List Bool}
variable {H G H1 G1 H2 G2 H' G' : Hp} {B B1 B2 B' C C1 C2 : Addr → Prop} {σ : L2.St} {env env1 env2 env' : Ev}
theorem Conc.step0 (c : Conc K H G B σ env) : Res K H G B H G B (fun _ => False) σ env := ⟨c, fun _ z => z.elim, fun _ z => z.elim, Step.refl.less fun a z => z.elim id False.elim⟩
theorem Fr0.or (x : Fr0 B G H) (y : Fr0 C G H) : Fr0 (fun a => B a ∨ C a) G H := fun a z => z.elim (x a) (y a)
/-- what stays behind a later step that does not own C -/
theorem OwnV.later {v : V} {dv : DV} (h : OwnV K G H C v dv) (s : Step H G B H1 G1 B1) (f : Fr0 C G H) (d : ∀ a, C a → ¬ B a) : OwnV K G1 H1 C v dv := h.mono s.g (s.keep f d) fun _ z => z
theorem OwnO.later {v : V} {ov : OV} (h : OwnO K G H C σ v ov) (s : Step H G B H1 G1 B1) (f : Fr0 C G H) (d : ∀ a, C a → ¬ B a) : OwnO K G1 H1 C σ v ov := by
  cases ov with
  | slot i => exact h
  | val dv => exact OwnV.later h s f d
theorem OwnAs.mono : ∀ {C C' : Addr → Prop} {vs : List V} {avs : List AV}, OwnAs K G H σ C vs avs → Le G G' → (∀ a o, C a → H a = some o → H' a = some o) → (∀ a, C a → C' a) → OwnAs K G' H' σ C' vs avs
  | _, _, _, _, .nil, _, _, _ => .nil
  | _, _, _, _, .val s1 s2 d h t, l, f, s => .val (fun a z => s a (s1 a z)) (fun a z => s a (s2 a z)) d (h.mono l (fun a o z => f a o (s1 a z)) fun _ z => z) (t.mono l (fun a o z => f a o (s2 a z)) fun _ z => z)
  | _, _, _, _, .bor e t, l, f, s => .bor e (t.mono l f s)
/-- one evaluation behind another: the first one's value stays -/
theorem Res.seq (r : Res K H G B H1 G1 B1 C1 σ env1) (q : Res K H1 G1 B1 H2 G2 B2 C2 σ env2) :
    Res K H G B H2 G2 B2 (fun a => C1 a ∨ C2 a) σ env2 ∧ (∀ a, C1 a → ¬ C2 a) := by
  have f1 := q.step.hold r.frC r.dis
  have d1 := q.step.dis r.frC r.dis
  refine ⟨⟨q.conc, f1.or q.frC, fun a z y => ?_, ?_⟩, fun a z y => d1 a z (.inr y)⟩
  · rcases z with z | z
    · exact d1 a z (.inl y)
    · exact q.dis a z y
  · have s2 := q.step.wide C1
    have s := Step.tr r.step s2
    exact s.less fun a z => by
      rcases z with z | z | z
      · exact .inl (.inl z)
      · exact .inr z
      · exact .inl (.inr z)
theorem Res.drop (r : Res K H G B H1 G1 B1 C1 σ env1) : Step H G B H1 G1 B1 := r.step.less fun _ z => .inl z
theorem Res.tr (s : Step H G B H1 G1 B1) (q : Res K H1 G1 B1 H2 G2 B2 C2 σ env2) : Res K H G B H2 G2 B2 C2 σ env2 := ⟨q.conc, q.frC, q.dis, s.tr q.step⟩
/-- a temporary is dropped -/
theorem Res.less (r : Res K H G B H1 G1 B1 C1 σ env1) (s : ∀ a, C2 a → C1 a) : Res K H G B H1 G1 B1 C2 σ env1 := ⟨r.conc, fun a z => r.frC a (s a z), fun a z => r.dis a (s a z), r.step.less fun a z => z.imp id (s a)⟩

/-! ### a value is frozen: its lists become data -/
open Classical in
noncomputable def ice (H G : Hp) (C : Addr → Prop) : Hp := fun a => if C a then H a else G a
theorem ice_in {a : Addr} (h : C a) : ice H G C a = H a := if_pos h
theorem ice_out {a : Addr} (h : ¬ C a) : ice H G C a = G a := if_neg h
theorem ice_le (f : Fr0 C G H) : Le G (ice H G C) := fun a o e => by
  have n : ¬ C a := fun z => by rw [(f a z).1] at e; cases e
  rw [ice_out n]; exact e
theorem ice_le' (l : Le G H) : Le (ice H G C) H := fun a o e => by
  by_cases z : C a
  · rw [ice_in z] at e; exact e
  · rw [ice_out z] at e; exact l a o e
theorem Res.freeze {v : V} {dv : DV} (r : Res K H G B H1 G1 B1 C σ env1) (h : OwnV K G1 H1 C v dv) (hn : dv.nd = true) :
    Res K H G B H1 (ice H1 G1 C) B1 (fun _ => False) σ env1 ∧ Dp K (ice H1 G1 C) v dv.dat := by
  have l1 := ice_le r.frC
  refine ⟨⟨⟨ice_le' r.conc.le, fun a z => ?_, r.conc.own.mono l1 (fun _ _ _ q => q) fun _ z => z⟩, fun _ z => z.elim, fun _ z => z.elim, ?_⟩, h.freeze l1 (fun a o z q => by rw [ice_in z]; exact q) hn⟩
  · rw [ice_out fun y => r.dis a y z]
    exact r.conc.fr a z
  · refine ⟨r.step.g.tr l1, fun a z => r.step.own a (z.elim .inl False.elim), fun a z n => ?_, r.step.th⟩
    obtain ⟨e1, e2⟩ := r.step.fr a z n
    refine ⟨e1, ?_⟩
    rw [ice_out fun y => (r.step.own a (.inr y)).elim n z]
    exact e2

theorem Res.freezeD {v : V} {kvs : List (List Int × PyData)} (r : Res K H G B H1 G1 B1 C σ env1) (h : OwnV K G1 H1 C v (.odict kvs)) :
    Res K H G B H1 (ice H1 G1 C) B1 (fun _ => False) σ env1 ∧ OwnV K (ice H1 G1 C) H1 (fun _ => False) v (.sdict kvs) := by
  cases h with
  | @odict _ p o es _ hb hp k t n =>
    obtain ⟨r2, _⟩ := r.freeze (v := .non) (dv := .data .none) (.data .non) rfl
    exact ⟨r2, .sdict (by rw [ice_in hb]; exact hp) k (dent_le (ice_le r.frC) t) n⟩
/-! ### allocation alone -/
structure Alloc (H G H' G' : Hp) (C : Addr → Prop) : Prop where
  h : Le H H'
  g : Le G G'
  gh : Le G' H'
  c : ∀ a, C a → H a = none ∧ G' a = none ∧ H' a ≠ none
  o : ∀ a, H a ≠ none → G' a = G a
theorem Alloc.refl (l : Le G H) : Alloc H G H G (fun _ => False) := ⟨Le.rfl', Le.rfl', l, fun _ z => z.elim, fun _ _ => rfl⟩
theorem some_ne {H : Hp} {a : Addr} (h : H a ≠ none) : ∃ o, H a = some o := by
  cases e : H a with
  | none => exact absurd e h
  | some o => exact ⟨o, rfl⟩
theorem Alloc.res (al : Alloc H G H' G' C) (c : Conc K H G B σ env) : Res K H G B H' G' B C σ env := by
  refine ⟨⟨al.gh, fun a z => ?_, c.own.mono al.g (fun a o _ q => al.h a o q) fun _ z => z⟩, fun a z => ⟨(al.c a z).2.1, (al.c a z).2.2⟩, fun a z y => (c.fr a y).2 (al.c a z).1, ⟨al.g, fun a z => z.imp id fun y => (al.c a y).1, fun a z n => ?_, fun a z => ?_⟩⟩
  · obtain ⟨g, h⟩ := c.fr a z
    obtain ⟨o, e⟩ := some_ne h
    exact ⟨(al.o a h).trans g, by rw [al.h a o e]; exact fun q => nomatch q⟩
  · obtain ⟨o, e⟩ := some_ne z
    exact ⟨(al.h a o e).trans e.symm, al.o a z⟩
  · obtain ⟨o, e⟩ := some_ne z
    rw [al.h a o e]
    exact fun q => nomatch q
/-- a new list that is owned; a new thing of the data -/
theorem Alloc.own {p : Addr} {o : HO} (l : Le G H) (n : H p = none) : Alloc H G (upd H p o) G (fun a => a = p) := by
  refine ⟨le_new n, Le.rfl', l.tr (le_new n), fun a z => ?_, fun _ _ => rfl⟩
  subst z
  refine ⟨n, ?_, by rw [upd_same]; exact fun q => nomatch q⟩
  cases e : G a with
  | none => rfl
  | some u => rw [l a u e] at n; cases n
theorem Alloc.dat {p : Addr} {o : HO} (l : Le G H) (n : H p = none) : Alloc H G (upd H p o) (upd G p o) (fun _ => False) := by
  have ng : G p = none := by
    cases e : G p with
    | none => rfl
    | some u => rw [l p u e] at n; cases n
  refine ⟨le_new n, le_new ng, fun a u e => ?_, fun _ z => z.elim, fun a z => ?_⟩
  · by_cases h : a = p
    · subst h
      rw [upd_same] at e ⊢
      exact e
    · rw [upd_ne h] at e ⊢
      exact l a u e
  · exact upd_ne fun h => z (by rw [h]; exact n)
end
end Kb
namespace Kb
open PySem PySem.Spec PyProof.Rows L2
section
variable {P : Program} {w : World} {K : PySem.W.Frag} {mg : Str → Option Value} {base : Heap} {k : Nat} {N : List Str} {sc : Scf} {pin : List Bool}
variable {H G H1 G1 H2 G2 H' G' : Hp} {B B1 B2 B' C C1 C2 : Addr → Prop} {σ : L2.St} {env env1 env2 env' : Ev}

theorem set_self {α : Type} : ∀ {l : List α} {i : Nat} {x : α}, l[i]? = some x → l.set i x = l
  | [], _, _, e => by simp at e
  | a :: l, 0, x, e => by
    simp only [List.getElem?_cons_zero, Option.some.injEq] at e
    subst e; rfl
  | a :: l, i + 1, x, e => by
    show a :: l.set i x = a :: l
    rw [set_self (by simpa using e)]
theorem Conc.putD {i : Nat} {v : V} {d : PyData} (c : Conc K H G B σ env) (e : σ[i]? = some (some v)) (h : Dp K G v d) : Conc K H G B σ (env.set i (some (.data d))) := by
  have q := OwnE.put (C := fun _ => False) i c.own (OwnV.data h) fun _ z => z.elim
  rw [set_self e] at q
  exact ⟨c.le, c.fr, q.mono Le.rfl' (fun _ _ _ z => z) fun a z => z.elim id False.elim⟩
theorem Conc.putV {i : Nat} {v : V} {dv : DV} (c : Conc K H G B σ env) (f : Fr0 C G H) (d : ∀ a, C a → ¬ B a) (e : σ[i]? = some (some v)) (h : OwnV K G H C v dv) : Conc K H G (fun a => B a ∨ C a) σ (env.set i (some dv)) := by
  have q := OwnE.put i c.own h d
  rw [set_self e] at q
  exact ⟨c.le, c.fr.or f, q⟩
theorem Conc.takeV {i : Nat} {dv : DV} (c : Conc K H G B σ env) (e : env[i]? = some (some dv)) : ∃ (v : V) (C B' : Addr → Prop), σ[i]? = some (some v) ∧ OwnV K G H C v dv ∧ Res K H G B H G B' C σ (env.set i none) := by
  obtain ⟨v, C, B', a, h, q, c1, c2, c3⟩ := c.own.take e
  exact ⟨v, C, B', a, h, ⟨⟨c.le, fun a z => c.fr a (c2 a z), q⟩, fun a z => c.fr a (c1 a z), c3, Step.refl.less fun a z => z.elim (c2 a) (c1 a)⟩⟩

/-! ### names, constants -/
def wShare (i : Nat) : WE := fun env Q => match env[i]? with
  | some (some (.data d)) => Q (.data d) env
  | some (some (.sdict kvs)) => Q (.sdict kvs) env
  | some (some (.odict kvs)) => Q (.sdict kvs) (env.set i (some (.sdict kvs)))
  | some (some dv) => Q (.data dv.dat) (env.set i (some (.data dv.dat)))
  | _ => False
def wMove (i : Nat) : WE := fun env Q => match env[i]? with
  | some (some dv) => Q dv (env.set i none)
  | _ => False
def wC (d : PyData) : WE := fun env Q => Q (.data d) env
theorem pe_nm {X : Cx} {i : Nat} {x : Str} {pos : Pos} (hX : CxOk P w K mg base k N sc X) (hN : N[i]? = some x) (hv : SeeB sc x = true) (hd : (x == ("__debug__" : Str)) = false := by decide) (hcd : (x == ("__classdict__" : Str)) = false := by decide) : PE X (.Name x pos) (tVar i) :=
  pe_var (by rw [hX.eN]; exact hN) (by rw [hX.es]; exact see_of hv) hd hcd
theorem nd_of {dv : DV} (h : ∀ kvs, dv = .odict kvs → False) (h2 : ∀ kvs, dv = .sdict kvs → False) : dv.nd = true := by
  cases dv with
  | odict kvs => exact (h kvs rfl).elim
  | sdict kvs => exact (h2 kvs rfl).elim
  | _ => rfl
theorem snd_share {i : Nat} : SndE K (tVar i) (wShare i) := by
  intro σ H G B env Q Qv c h q
  unfold wShare at h
  split at h
  · rename_i d e
    obtain ⟨v, a, b⟩ := c.own.look e
    exact ⟨v, a, q v H G B _ env _ h c.step0 (.data (by cases b; assumption))⟩
  · rename_i kvs e
    obtain ⟨v, a, b⟩ := c.own.look e
    exact ⟨v, a, q v H G B _ env _ h c.step0 (by cases b with | sdict h k t n => exact .sdict h k t n)⟩
  · rename_i kvs e
    obtain ⟨v, C, B', a, b, r⟩ := c.takeV e
    obtain ⟨r2, sd⟩ := r.freezeD b
    refine ⟨v, a, q v H _ B' _ _ _ h ⟨?_, r2.frC, r2.dis, r2.step⟩ sd⟩
    have := r2.conc.putV (C := fun _ => False) (fun _ z => z.elim) (fun _ z => z.elim) a sd
    rw [List.set_set] at this
    exact ⟨this.le, fun a z => this.fr a (.inl z), this.own.mono Le.rfl' (fun _ _ _ y => y) fun a z => z.elim id False.elim⟩
  · rename_i dv n n3 n2 e
    obtain ⟨v, C, B', a, b, r⟩ := c.takeV e
    obtain ⟨r2, dp⟩ := r.freeze b (nd_of n2 n3)
    refine ⟨v, a, q v H _ B' _ _ _ h ⟨?_, r2.frC, r2.dis, r2.step⟩ (.data dp)⟩
    have := r2.conc.putD a dp
    rw [List.set_set] at this
    exact this
  · exact h.elim
theorem snd_move {i : Nat} : SndE K (tVar i) (wMove i) := by
  intro σ H G B env Q Qv c h q
  unfold wMove at h
  split at h
  · rename_i dv e
    obtain ⟨v, C, B', a, b, r⟩ := c.takeV e
    exact ⟨v, a, q v H G B' C _ _ h r b⟩
  · exact h.elim
theorem den_share {i : Nat} {x : Str} {pos : Pos} (hN : N[i]? = some x) (hv : SeeB sc x = true) (hd : (x == ("__debug__" : Str)) = false := by decide) (hcd : (x == ("__classdict__" : Str)) = false := by decide) : DenE P w K mg base k N sc (.Name x pos) (wShare i) :=
  ⟨_, fun X hX => pe_nm hX hN hv hd hcd, snd_share⟩
theorem den_move {i : Nat} {x : Str} {pos : Pos} (hN : N[i]? = some x) (hv : SeeB sc x = true) (hd : (x == ("__debug__" : Str)) = false := by decide) (hcd : (x == ("__classdict__" : Str)) = false := by decide) : DenE P w K mg base k N sc (.Name x pos) (wMove i) :=
  ⟨_, fun X hX => pe_nm hX hN hv hd hcd, snd_move⟩
theorem snd_c {v : V} {d : PyData} (h : ∀ G, Dp K G v d) : SndE K (tC v) (wC d) := fun σ H G B env Q Qv c hw q => q v H G B _ env _ hw c.step0 (.data (h G))
theorem den_int {i j pos} : DenE P w K mg base k N sc (.Constant (.int i) j pos) (wC (.int i)) := ⟨_, fun X _ => pe_int, snd_c fun _ => .int i⟩
theorem den_str {x j pos} : DenE P w K mg base k N sc (.Constant (.str x) j pos) (wC (.str x)) := ⟨_, fun X _ => pe_str, snd_c fun _ => .str x⟩
theorem den_non {j pos} : DenE P w K mg base k N sc (.Constant .none j pos) (wC .none) := ⟨_, fun X _ => pe_non, snd_c fun _ => .non⟩
theorem den_bl {b j pos} : DenE P w K mg base k N sc (.Constant (.bool b) j pos) (wC (.bool b)) := ⟨_, fun X _ => pe_bl, snd_c fun _ => .bl b⟩

/-! ### operands: a name is looked up when it is used -/
def oSlot (i : Nat) : WO := fun env Q => match env[i]? with
  | some (some _) => Q (.slot i) env
  | _ => False
def oVal (W : WE) : WO := fun env Q => W env fun dv e => Q (.val dv) e
theorem den_oslot {i : Nat} {x : Str} {pos : Pos} (hN : N[i]? = some x) (hv : SeeB sc x = true) (hd : (x == ("__debug__" : Str)) = false := by decide) (hcd : (x == ("__classdict__" : Str)) = false := by decide) :
    DenO P w K mg base k N sc (.Name x pos) (oSlot i) := by
  refine ⟨_, fun X hX => pe_nm hX hN hv hd hcd, fun σ H G B env Q Qv c hw q => ?_⟩
  unfold oSlot at hw
  split at hw
  · rename_i dv e
    obtain ⟨v, a, b⟩ := c.own.look e
    exact ⟨v, a, q v H G B _ env _ hw c.step0 a⟩
  · exact hw.elim
theorem den_oval {e : Expr} {W : WE} (h : DenE P w K mg base k N sc e W) : DenO P w K mg base k N sc e (oVal W) := by
  obtain ⟨te, h1, h2⟩ := h
  exact ⟨te, h1, fun σ H G B env Q Qv c hw q => h2 σ H G B env _ Qv c hw fun v H' G' B' C env' dv hq r o => q v H' G' B' C env' _ hq r o⟩
/-- what may be read of a value -/
def Pk (K : PySem.W.Frag) (G H : Hp) (v : V) (dv : DV) : Prop := ∃ C, OwnV K G H C v dv
theorem OwnO.pk {v : V} {ov : OV} {dv : DV} (h : OwnO K G H C σ v ov) (c : Conc K H G B σ env) (e : ov.get env = some dv) : Pk K G H v dv := by
  cases ov with
  | slot i =>
    have h' : σ[i]? = some (some v) := h
    unfold OV.get at e
    simp only at e
    split at e
    · rename_i d e1
      cases e
      obtain ⟨v', a, b⟩ := c.own.look e1
      rw [h'] at a; cases a
      exact ⟨_, b⟩
    · cases e
  | val d =>
    have e' : some d = some dv := e
    cases e'
    exact ⟨_, h⟩

/-! ### arguments -/
def aNil : WA := fun env Q => Q [] env
def aCons (W : WE) (A : WA) : WA := fun env Q => W env fun dv e => A e fun avs e2 => Q (.val dv :: avs) e2
def aBor (i : Nat) (A : WA) : WA := fun env Q => match env[i]? with
  | some (some _) => A env fun avs e2 => Q (.bor i :: avs) e2
  | _ => False
theorem den_anil : DenA P w K mg base k N sc [] aNil :=
  ⟨_, fun X _ => pa_nil, fun σ H G B env Q Qv c hw q => q [] H G B _ env [] hw c.step0 .nil⟩
theorem den_acons {e : Expr} {es : List Expr} {W : WE} {A : WA} (h : DenE P w K mg base k N sc e W) (ha : DenA P w K mg base k N sc es A) (hs : ∀ env, starEach (e :: es) env = (false, eval e env) :: starEach es env := by intros; rfl) :
    DenA P w K mg base k N sc (e :: es) (aCons W A) := by
  obtain ⟨te, h1, h2⟩ := h
  obtain ⟨ta, h3, h4⟩ := ha
  refine ⟨tCons te ta, fun X hX => pa_cons (h1 X hX) (h3 X hX) (hs X.env), fun σ H G B env Q Qv c hw q => ?_⟩
  refine h2 σ H G B env _ _ c hw fun v H1 G1 B1 C1 e1 dv hq r o => ?_
  refine h4 σ H1 G1 B1 e1 _ _ r.conc hq fun vs H2 G2 B2 C2 e2 avs hq2 r2 o2 => ?_
  obtain ⟨r3, d3⟩ := r.seq r2
  exact q _ H2 G2 B2 _ e2 _ hq2 r3 (.val (fun _ z => .inl z) (fun _ z => .inr z) d3 (o.later r2.step r.frC r.dis) o2)
theorem den_abor {i : Nat} {x : Str} {pos : Pos} {es : List Expr} {A : WA} (hN : N[i]? = some x) (hv : SeeB sc x = true) (ha : DenA P w K mg base k N sc es A) (hd : (x == ("__debug__" : Str)) = false := by decide) (hcd : (x == ("__classdict__" : Str)) = false := by decide)
    (hs : ∀ env, starEach (.Name x pos :: es) env = (false, eval (.Name x pos) env) :: starEach es env := by intros; rfl) : DenA P w K mg base k N sc (.Name x pos :: es) (aBor i A) := by
  obtain ⟨ta, h3, h4⟩ := ha
  refine ⟨tCons (tVar i) ta, fun X hX => pa_cons (pe_nm hX hN hv hd hcd) (h3 X hX) (hs X.env), fun σ H G B env Q Qv c hw q => ?_⟩
  unfold aBor at hw
  split at hw
  case h_2 => exact hw.elim
  rename_i dv e
  obtain ⟨v, a, b⟩ := c.own.look e
  refine ⟨v, a, ?_⟩
  exact h4 σ H G B env _ _ c hw fun vs H2 G2 B2 C2 e2 avs hq2 r2 o2 => q _ H2 G2 B2 _ e2 _ hq2 r2 (.bor a o2)

/-! ### operators on two operands -/
abbrev F1 := DV → (DV → Prop) → Prop
abbrev F2 := DV → DV → (DV → Prop) → Prop
def w2 (f : F2) (A O : WO) : WE := fun env Q => A env fun x e1 => O e1 fun y e2 => match x.get e2, y.get e2 with
  | some dx, some dy => f dx dy fun r => Q r e2
  | _, _ => False
def w1 (f : F1) (A : WO) : WE := fun env Q => A env fun x e1 => match x.get e1 with
  | some dx => f dx fun r => Q r e1
  | _ => False
def SndR2 (K : PySem.W.Frag) (r : R2) (f : F2) : Prop := ∀ (G H : Hp) (x y : V) (dx dy : DV) (Q : DV → Prop) (Qv : VK), Le G H → Pk K G H x dx → Pk K G H y dy → f dx dy Q →
  (∀ z H' G' C dz, Q dz → Alloc H G H' G' C → OwnV K G' H' C z dz → Qv z H') → r x y H Qv
def SndR1 (K : PySem.W.Frag) (r : V → Hp → VK → Prop) (f : F1) : Prop := ∀ (G H : Hp) (x : V) (dx : DV) (Q : DV → Prop) (Qv : VK), Le G H → Pk K G H x dx → f dx Q →
  (∀ z H' G' C dz, Q dz → Alloc H G H' G' C → OwnV K G' H' C z dz → Qv z H') → r x H Qv
theorem snd_w2 {r : R2} {f : F2} {ta tb : TE} {A O : WO} (hr : SndR2 K r f) (ha : SndO K ta A) (hb : SndO K tb O) : SndE K (tOp r ta tb) (w2 f A O) := by
  intro σ H G B env Q Qv c hw q
  refine ha σ H G B env _ _ c hw fun x H1 G1 B1 C1 e1 ox hq r1 o1 => ?_
  refine hb σ H1 G1 B1 e1 _ _ r1.conc hq fun y H2 G2 B2 C2 e2 oy hq2 r2 o2 => ?_
  have o1' := o1.later r2.step r1.frC r1.dis
  split at hq2
  · rename_i dx dy e3 e4
    refine hr G2 H2 x y dx dy _ _ r2.conc.le (o1'.pk r2.conc e3) (o2.pk r2.conc e4) hq2 fun z H' G' C dz hz al oz => ?_
    exact q z H' G' B2 C e2 dz hz (Res.tr (r1.drop.tr r2.drop) (al.res r2.conc)) oz
  · exact hq2.elim
theorem snd_w1 {r : V → Hp → VK → Prop} {f : F1} {ta : TE} {A : WO} (hr : SndR1 K r f) (ha : SndO K ta A) : SndE K (tUn r ta) (w1 f A) := by
  intro σ H G B env Q Qv c hw q
  refine ha σ H G B env _ _ c hw fun x H1 G1 B1 C1 e1 ox hq r1 o1 => ?_
  split at hq
  · rename_i dx e3
    refine hr G1 H1 x dx _ _ r1.conc.le (o1.pk r1.conc e3) hq fun z H' G' C dz hz al oz => ?_
    exact q z H' G' B1 C e1 dz hz (Res.tr r1.drop (al.res r1.conc)) oz
  · exact hq.elim
theorem den_bin {op : Operator} {a b : Expr} {pos : Pos} {r : R2} {f : F2} {A O : WO} (ho : ∀ X, CxOk P w K mg base k N sc X → OpR X (binaryOp op) r) (hr : SndR2 K r f) (ha : DenO P w K mg base k N sc a A) (hb : DenO P w K mg base k N sc b O) :
    DenE P w K mg base k N sc (.BinOp a op b pos) (w2 f A O) := by
  obtain ⟨ta, a1, a2⟩ := ha
  obtain ⟨tb, b1, b2⟩ := hb
  exact ⟨_, fun X hX => pe_op (ho X hX) (a1 X hX) (b1 X hX), snd_w2 hr a2 b2⟩
theorem den_cmp {op : CmpOp} {a b : Expr} {pos : Pos} {r : R2} {f : F2} {A O : WO} (ho : ∀ X, CxOk P w K mg base k N sc X → OpR X (compareOp op) r) (hr : SndR2 K r f) (ha : DenO P w K mg base k N sc a A) (hb : DenO P w K mg base k N sc b O)
    (hm : behindInMarks op b = false := by first | exact nobehind _ (by decide) (by decide) | rfl) : DenE P w K mg base k N sc (.Compare a [op] [b] pos) (w2 f A O) := by
  obtain ⟨ta, a1, a2⟩ := ha
  obtain ⟨tb, b1, b2⟩ := hb
  exact ⟨_, fun X hX => pe_cmpR (ho X hX) (a1 X hX) (b1 X hX) hm, snd_w2 hr a2 b2⟩
theorem den_un {op : UnaryOp} {a : Expr} {pos : Pos} {r : V → Hp → VK → Prop} {f : F1} {A : WO} (ho : ∀ X, CxOk P w K mg base k N sc X → UnR X (unaryOp op) r) (hr : SndR1 K r f) (ha : DenO P w K mg base k N sc a A) :
    DenE P w K mg base k N sc (.UnaryOp op a pos) (w1 f A) := by
  obtain ⟨ta, a1, a2⟩ := ha
  exact ⟨_, fun X hX => pe_un (ho X hX) (a1 X hX), snd_w1 hr a2⟩
theorem den_ix {a b : Expr} {pos : Pos} {r : R2} {f : F2} {A O : WO} (ho : ∀ X, CxOk P w K mg base k N sc X → IxR X r) (hr : SndR2 K r f) (ha : DenO P w K mg base k N sc a A) (hb : DenO P w K mg base k N sc b O) (hs : PlainIx b := by intros _ _; rfl) :
    DenE P w K mg base k N sc (.Subscript a b pos) (w2 f A O) := by
  obtain ⟨ta, a1, a2⟩ := ha
  obtain ⟨tb, b1, b2⟩ := hb
  exact ⟨_, fun X hX => pe_ix (ho X hX) (a1 X hX) (b1 X hX) hs, snd_w2 hr a2 b2⟩

/-! #### ints -/
theorem Pk.int {x : V} {i : Int} (h : Pk K G H x (.data (.int i))) : x = .int i := by
  obtain ⟨C, h⟩ := h
  cases h with
  | data h => cases h; rfl
theorem Pk.bool {x : V} {i : Bool} (h : Pk K G H x (.data (.bool i))) : x = .bl i := by
  obtain ⟨C, h⟩ := h
  cases h with
  | data h => cases h; rfl
theorem Pk.str {x : V} {i : Str} (h : Pk K G H x (.data (.str i))) : x = .str i := by
  obtain ⟨C, h⟩ := h
  cases h with
  | data h => cases h; rfl
def f2I (C : Int → Int → Prop) (g : Int → Int → PyData) : F2 := fun x y Q => match x, y with
  | .data (.int i), .data (.int j) => C i j ∧ Q (.data (g i j))
  | _, _ => False
theorem snd_i {C C' : Int → Int → Prop} {g : Int → Int → V} {g' : Int → Int → PyData} (hc : ∀ i j, C' i j → C i j) (hg : ∀ G i j, Dp K G (g i j) (g' i j)) : SndR2 K (rI C g) (f2I C' g') := by
  intro G H x y dx dy Q Qv l px py h q
  unfold f2I at h
  split at h
  · rename_i i j
    exact ⟨i, j, px.int, py.int, hc _ _ h.1, q _ H G _ _ h.2 (Alloc.refl l) (.data (hg G i j))⟩
  · exact h.elim
theorem snd_i0 {g : Int → Int → V} {g' : Int → Int → PyData} (hg : ∀ G i j, Dp K G (g i j) (g' i j)) : SndR2 K (rI0 g) (f2I (fun _ _ => True) g') := by
  intro G H x y dx dy Q Qv l px py h q
  unfold f2I at h
  split at h
  · rename_i i j
    exact ⟨i, j, px.int, py.int, q _ H G _ _ h.2 (Alloc.refl l) (.data (hg G i j))⟩
  · exact h.elim
abbrev fSub : F2 := f2I (fun _ _ => True) fun i j => .int (i - j)
abbrev fMul : F2 := f2I (fun i j => i.natAbs < 2 ^ 400 ∧ j.natAbs < 2 ^ 400) fun i j => .int (i * j)
abbrev fDiv : F2 := f2I (fun i j => 0 < j ∧ j.natAbs < 2 ^ 400) fun i j => .int (i / j)
abbrev fMod : F2 := f2I (fun _ j => 0 < j) fun i j => .int (i % j)
abbrev fPow : F2 := f2I (fun i j => i.natAbs < 2 ^ 400 ∧ 0 ≤ j ∧ j ≤ 100) fun i j => .int (i ^ j.toNat)
abbrev fLt : F2 := f2I (fun _ _ => True) fun i j => .bool (decide (i < j))
abbrev fLe : F2 := f2I (fun _ _ => True) fun i j => .bool (decide (i ≤ j))
abbrev fGt : F2 := f2I (fun _ _ => True) fun i j => .bool (decide (j < i))
abbrev fGe : F2 := f2I (fun _ _ => True) fun i j => .bool (decide (j ≤ i))
theorem op_powW {X : Cx} : OpR X (binaryOp .Pow) (rI (fun i j => i.natAbs < 2 ^ 400 ∧ 0 ≤ j ∧ j ≤ 100) fun i j => .int (i ^ j.toNat)) := by
  intro pins s σ H x y v u Q I rx ry h
  obtain ⟨i, j, rfl, rfl, ⟨h1, h2, h3⟩, q⟩ := h
  obtain ⟨t, rfl⟩ := rx
  obtain ⟨t', rfl⟩ := ry
  refine pow_int h2 ?_ ⟨.int _, H, I.tok _, ⟨_, rfl⟩, q⟩
  have hb : Builtin.Int.intBits i ≤ 400 := by
    have := PySem.Flt.log2_lt_of (k := 400) (by decide) h1
    unfold Builtin.Int.intBits
    split <;> omega
  have hj : ∃ n : Nat, j = n := ⟨j.toNat, by omega⟩
  obtain ⟨n, rfl⟩ := hj
  have : Builtin.Int.intBits i * n ≤ 400 * 100 := Nat.mul_le_mul hb (by omega)
  have h4 : ((Builtin.Int.intBits i * n : Nat) : Int) ≤ (40000 : Nat) := Int.ofNat_le.mpr this
  rw [Int.natCast_mul] at h4
  refine Int.le_trans h4 (by decide)
variable {a b : Expr} {pos : Pos} {A O : WO}
theorem den_sub (ha : DenO P w K mg base k N sc a A) (hb : DenO P w K mg base k N sc b O) : DenE P w K mg base k N sc (.BinOp a .Sub b pos) (w2 fSub A O) := den_bin (fun _ _ => op_sub) (snd_i0 fun _ _ _ => .int _) ha hb
theorem den_mul (ha : DenO P w K mg base k N sc a A) (hb : DenO P w K mg base k N sc b O) : DenE P w K mg base k N sc (.BinOp a .Mult b pos) (w2 fMul A O) :=
  den_bin (fun _ _ => op_mulW) (snd_i (fun i j h => wide_mul h.1 h.2 (by decide) (by decide) (by decide)) fun _ _ _ => .int _) ha hb
theorem den_fdiv (ha : DenO P w K mg base k N sc a A) (hb : DenO P w K mg base k N sc b O) : DenE P w K mg base k N sc (.BinOp a .FloorDiv b pos) (w2 fDiv A O) :=
  den_bin (fun _ _ => op_fdivW) (snd_i (fun i j h => wide_div h.1 h.2 (by decide) (by decide)) fun _ _ _ => .int _) ha hb
theorem den_mod (ha : DenO P w K mg base k N sc a A) (hb : DenO P w K mg base k N sc b O) : DenE P w K mg base k N sc (.BinOp a .Mod b pos) (w2 fMod A O) := den_bin (fun _ _ => op_mod) (snd_i (fun _ _ h => h) fun _ _ _ => .int _) ha hb
theorem den_pow (ha : DenO P w K mg base k N sc a A) (hb : DenO P w K mg base k N sc b O) : DenE P w K mg base k N sc (.BinOp a .Pow b pos) (w2 fPow A O) := den_bin (fun _ _ => op_powW) (snd_i (fun _ _ h => h) fun _ _ _ => .int _) ha hb
theorem den_lt (ha : DenO P w K mg base k N sc a A) (hb : DenO P w K mg base k N sc b O) : DenE P w K mg base k N sc (.Compare a [.Lt] [b] pos) (w2 fLt A O) := den_cmp (fun _ _ => op_lt) (snd_i0 fun _ _ _ => .bl _) ha hb
theorem den_le (ha : DenO P w K mg base k N sc a A) (hb : DenO P w K mg base k N sc b O) : DenE P w K mg base k N sc (.Compare a [.LtE] [b] pos) (w2 fLe A O) := den_cmp (fun _ _ => op_le) (snd_i0 fun _ _ _ => .bl _) ha hb
theorem den_gt (ha : DenO P w K mg base k N sc a A) (hb : DenO P w K mg base k N sc b O) : DenE P w K mg base k N sc (.Compare a [.Gt] [b] pos) (w2 fGt A O) := den_cmp (fun _ _ => op_gt) (snd_i0 fun _ _ _ => .bl _) ha hb
theorem den_ge (ha : DenO P w K mg base k N sc a A) (hb : DenO P w K mg base k N sc b O) : DenE P w K mg base k N sc (.Compare a [.GtE] [b] pos) (w2 fGe A O) := den_cmp (fun _ _ => op_ge) (snd_i0 fun _ _ _ => .bl _) ha hb

/-! #### equality of data, None -/
def Small (d : PyData) : Prop := SeqAt.shaped d = true
def fEq : F2 := fun x y Q => Small x.dat ∧ Small y.dat ∧ Q (.data (.bool (PyData.eqv x.dat y.dat)))
def fNe : F2 := fun x y Q => Small x.dat ∧ Small y.dat ∧ Q (.data (.bool (!PyData.eqv x.dat y.dat)))
theorem Pk.dp {x : V} {dx : DV} (h : Pk K G H x dx) (l : Le G H) (s : Small dx.dat) : Dp K H x dx.dat := by
  obtain ⟨C, h⟩ := h
  refine h.deep l ?_
  cases dx with
  | odict kvs => cases s
  | sdict kvs => cases s
  | _ => rfl
theorem den_eq (ha : DenO P w K mg base k N sc a A) (hb : DenO P w K mg base k N sc b O) : DenE P w K mg base k N sc (.Compare a [.Eq] [b] pos) (w2 fEq A O) :=
  den_cmp (r := rEqD K) (fun X hX => by rw [← hX.eK]; exact op_eqD hX.room.units) (fun G H x y dx dy Q Qv l px py h q => ⟨_, _, px.dp l h.1, py.dp l h.2.1, h.1, h.2.1, q _ H G _ _ h.2.2 (Alloc.refl l) (.data (.bl _))⟩) ha hb
theorem den_ne (ha : DenO P w K mg base k N sc a A) (hb : DenO P w K mg base k N sc b O) : DenE P w K mg base k N sc (.Compare a [.NotEq] [b] pos) (w2 fNe A O) :=
  den_cmp (r := rNeD K) (fun X hX => by rw [← hX.eK]; exact op_neD hX.room.units) (fun G H x y dx dy Q Qv l px py h q => ⟨_, _, px.dp l h.1, py.dp l h.2.1, h.1, h.2.1, q _ H G _ _ h.2.2 (Alloc.refl l) (.data (.bl _))⟩) ha hb
def isN : DV → Bool
  | .data .none => true
  | _ => false
theorem Pk.non {x : V} {dx : DV} (h : Pk K G H x dx) : decide (x = .non) = isN dx := by
  obtain ⟨C, h⟩ := h
  cases h with
  | data h => cases h <;> rfl
  | olist _ _ _ => rfl
  | otup _ _ => rfl
  | odict _ _ _ _ _ => rfl
  | sdict _ _ _ _ => rfl
def fIsN : F1 := fun x Q => Q (.data (.bool (isN x)))
def fNotN : F1 := fun x Q => Q (.data (.bool (!isN x)))
theorem den_isN {j pos'} (ha : DenO P w K mg base k N sc a A) : DenE P w K mg base k N sc (.Compare a [.Is] [.Constant .none j pos'] pos) (w1 fIsN A) := by
  obtain ⟨ta, a1, a2⟩ := ha
  refine ⟨tUn (fun x H Q => Q (.bl (decide (x = .non))) H) ta, fun X hX => pe_cmp (pc_isN (a1 X hX)), snd_w1 (fun G H x dx Q Qv l px h q => ?_) a2⟩
  rw [px.non]
  exact q _ H G _ _ h (Alloc.refl l) (.data (.bl _))
theorem den_notN {j pos'} (ha : DenO P w K mg base k N sc a A) : DenE P w K mg base k N sc (.Compare a [.IsNot] [.Constant .none j pos'] pos) (w1 fNotN A) := by
  obtain ⟨ta, a1, a2⟩ := ha
  refine ⟨tUn (fun x H Q => Q (.bl (!decide (x = .non))) H) ta, fun X hX => pe_cmp (pc_notN (a1 X hX)), snd_w1 (fun G H x dx Q Qv l px h q => ?_) a2⟩
  rw [px.non]
  exact q _ H G _ _ h (Alloc.refl l) (.data (.bl _))
def fNeg : F1 := fun x Q => match x with
  | .data (.int i) => Q (.data (.int (-i)))
  | _ => False
theorem den_neg (ha : DenO P w K mg base k N sc a A) : DenE P w K mg base k N sc (.UnaryOp .USub a pos) (w1 fNeg A) :=
  den_un (fun _ _ => un_neg) (fun G H x dx Q Qv l px h q => by
    unfold fNeg at h
    split at h
    · rename_i i
      exact ⟨i, px.int, q _ H G _ _ h (Alloc.refl l) (.data (.int _))⟩
    · exact h.elim) ha
end
end Kb
namespace Kb
open PySem PySem.Spec PyProof.Rows L2
section
variable {P : Program} {w : World} {K : PySem.W.Frag} {mg : Str → Option Value} {base : Heap} {k : Nat} {N : List Str} {sc : Scf} {pin : List Bool}
variable {H G H1 G1 H2 G2 H' G' : Hp} {B B1 B2 B' C C1 C2 : Addr → Prop} {σ : L2.St} {env env1 env2 env' : Ev}
variable {a b c e : Expr} {pos : Pos} {A O : WO} {W W1 W2 : WE} {T T1 T2 : WT}

theorem Res.bare (r : Res K H G B H1 G1 B1 C σ env1) : Res K H G B H1 G1 B1 (fun _ => False) σ env1 := r.less fun _ (z : False) => z.elim
/-! ### tests -/
def tOf (W : WE) : WT := fun env Q => W env fun x e => match x with
  | .data (.bool b) => Q b e
  | _ => False
def tAnd' (T U : WT) : WT := fun env Q => T env fun b e => if b = true then U e Q else Q false e
def tOr' (T U : WT) : WT := fun env Q => T env fun b e => if b = true then Q true e else U e Q
def tNot' (T : WT) : WT := fun env Q => T env fun b e => Q (!b) e
theorem bool_of {v : V} {b : Bool} (h : OwnV K G H C v (.data (.bool b))) : v = .bl b := by
  cases h with
  | data h => cases h; rfl
theorem snd_tOf {te : TE} (h : SndE K te W) : SndT K (tB te) (tOf W) := by
  intro σ H G B env Q Qv c hw q
  refine h σ H G B env _ _ c hw fun v H' G' B' C env' dv hq r o => ?_
  split at hq
  · rename_i b
    exact ⟨b, bool_of o, q b H' G' B' env' hq r.conc r.drop⟩
  · exact hq.elim
theorem dent_val (h : DenE P w K mg base k N sc e W) (he : ∀ (env : Env) whole, isTrue e env whole = (do let v ← whole; standAt e.pos; holding [v] (truthy v)) := by intro _ _; rfl) : DenT P w K mg base k N sc e (tOf W) := by
  obtain ⟨te, h1, h2⟩ := h
  exact ⟨_, fun X hX => pt_val (h1 X hX) (he X.env), snd_tOf h2⟩
theorem dent_cmp {op : CmpOp} (h : DenE P w K mg base k N sc (.Compare a [op] [b] pos) W) (he : ∀ te X, PE X (.Compare a [op] [b] pos) te → PT X (.Compare a [op] [b] pos) (tB te)) : DenT P w K mg base k N sc (.Compare a [op] [b] pos) (tOf W) := by
  obtain ⟨te, h1, h2⟩ := h
  exact ⟨_, fun X hX => he te X (h1 X hX), snd_tOf h2⟩
theorem dent_of (h : DenW P w K mg base k N sc e T) : DenT P w K mg base k N sc e T := by
  obtain ⟨te, h1, h2⟩ := h
  exact ⟨te, fun X hX => (h1 X hX).pt, h2⟩
variable {rest : List Expr}
theorem denw_and1 (h : DenT P w K mg base k N sc a T) : DenW P w K mg base k N sc (.BoolOp .And [a] pos) T := by
  obtain ⟨te, h1, h2⟩ := h
  exact ⟨te, fun X hX => pw_and1 (h1 X hX), h2⟩
theorem denw_or1 (h : DenT P w K mg base k N sc a T) : DenW P w K mg base k N sc (.BoolOp .Or [a] pos) T := by
  obtain ⟨te, h1, h2⟩ := h
  exact ⟨te, fun X hX => pw_or1 (h1 X hX), h2⟩
theorem denw_and (h : DenT P w K mg base k N sc a T1) (h' : DenW P w K mg base k N sc (.BoolOp .And (b :: rest) pos) T2) : DenW P w K mg base k N sc (.BoolOp .And (a :: b :: rest) pos) (tAnd' T1 T2) := by
  obtain ⟨te, h1, h2⟩ := h
  obtain ⟨tf, h3, h4⟩ := h'
  refine ⟨_, fun X hX => pw_and (h1 X hX) (h3 X hX), fun σ H G B env Q Qv c hw q => ?_⟩
  refine h2 σ H G B env _ _ c hw fun b H1 G1 B1 e1 hq c1 s1 => ?_
  cases b with
  | true => exact h4 σ H1 G1 B1 e1 Q Qv c1 hq fun b H' G' B' env' hq2 c2 s2 => q b H' G' B' env' hq2 c2 (s1.tr s2)
  | false => exact q false H1 G1 B1 e1 hq c1 s1
theorem denw_or (h : DenT P w K mg base k N sc a T1) (h' : DenW P w K mg base k N sc (.BoolOp .Or (b :: rest) pos) T2) : DenW P w K mg base k N sc (.BoolOp .Or (a :: b :: rest) pos) (tOr' T1 T2) := by
  obtain ⟨te, h1, h2⟩ := h
  obtain ⟨tf, h3, h4⟩ := h'
  refine ⟨_, fun X hX => pw_or (h1 X hX) (h3 X hX), fun σ H G B env Q Qv c hw q => ?_⟩
  refine h2 σ H G B env _ _ c hw fun b H1 G1 B1 e1 hq c1 s1 => ?_
  cases b with
  | false => exact h4 σ H1 G1 B1 e1 Q Qv c1 hq fun b H' G' B' env' hq2 c2 s2 => q b H' G' B' env' hq2 c2 (s1.tr s2)
  | true => exact q true H1 G1 B1 e1 hq c1 s1
theorem dent_not (h : DenT P w K mg base k N sc a T) : DenT P w K mg base k N sc (.UnaryOp .Not a pos) (tNot' T) := by
  obtain ⟨te, h1, h2⟩ := h
  refine ⟨_, fun X hX => pt_not (h1 X hX), fun σ H G B env Q Qv c hw q => ?_⟩
  exact h2 σ H G B env _ _ c hw fun b H1 G1 B1 e1 hq c1 s1 => q (!b) H1 G1 B1 e1 hq c1 s1
/-- and, or, not as values: all but the last bools -/
def wAnd (W U : WE) : WE := fun env Q => W env fun x e => match x with
  | .data (.bool b) => if b = true then U e Q else Q (.data (.bool false)) e
  | _ => False
def wOr (W U : WE) : WE := fun env Q => W env fun x e => match x with
  | .data (.bool b) => if b = true then Q (.data (.bool true)) e else U e Q
  | _ => False
def wNot (W : WE) : WE := fun env Q => W env fun x e => match x with
  | .data (.bool b) => Q (.data (.bool (!b))) e
  | _ => False
theorem den_one {op} (h : DenE P w K mg base k N sc a W) : DenE P w K mg base k N sc (.BoolOp op [a] pos) W := by
  obtain ⟨te, h1, h2⟩ := h
  exact ⟨te, fun X hX => pe_one (h1 X hX), h2⟩
theorem res_tr' (s : Step H G B H1 G1 B1) {Qv : VK} {Q : DV → Ev → Prop} (q : ∀ v H' G' B' C env' dv, Q dv env' → Res K H G B H' G' B' C σ env' → OwnV K G' H' C v dv → Qv v H') :
    ∀ v H' G' B' C env' dv, Q dv env' → Res K H1 G1 B1 H' G' B' C σ env' → OwnV K G' H' C v dv → Qv v H' :=
  fun v H' G' B' C env' dv hq r o => q v H' G' B' C env' dv hq (r.tr s) o
theorem den_and (h : DenE P w K mg base k N sc a W1) (h' : DenE P w K mg base k N sc (.BoolOp .And (b :: rest) pos) W2) : DenE P w K mg base k N sc (.BoolOp .And (a :: b :: rest) pos) (wAnd W1 W2) := by
  obtain ⟨te, h1, h2⟩ := h
  obtain ⟨tf, h3, h4⟩ := h'
  refine ⟨_, fun X hX => pe_and (h1 X hX) (h3 X hX), fun σ H G B env Q Qv c hw q => ?_⟩
  refine h2 σ H G B env _ _ c hw fun v H1 G1 B1 C1 e1 dv hq r o => ?_
  split at hq
  case h_2 => exact hq.elim
  rename_i b
  refine ⟨b, bool_of o, ?_⟩
  cases b with
  | true => exact h4 σ H1 G1 B1 e1 Q Qv r.conc hq (res_tr' r.drop q)
  | false => exact q _ H1 G1 B1 _ e1 _ hq r.bare (.data (.bl false))
theorem den_or (h : DenE P w K mg base k N sc a W1) (h' : DenE P w K mg base k N sc (.BoolOp .Or (b :: rest) pos) W2) : DenE P w K mg base k N sc (.BoolOp .Or (a :: b :: rest) pos) (wOr W1 W2) := by
  obtain ⟨te, h1, h2⟩ := h
  obtain ⟨tf, h3, h4⟩ := h'
  refine ⟨_, fun X hX => pe_or (h1 X hX) (h3 X hX), fun σ H G B env Q Qv c hw q => ?_⟩
  refine h2 σ H G B env _ _ c hw fun v H1 G1 B1 C1 e1 dv hq r o => ?_
  split at hq
  case h_2 => exact hq.elim
  rename_i b
  refine ⟨b, bool_of o, ?_⟩
  cases b with
  | false => exact h4 σ H1 G1 B1 e1 Q Qv r.conc hq (res_tr' r.drop q)
  | true => exact q _ H1 G1 B1 _ e1 _ hq r.bare (.data (.bl true))
theorem den_not (h : DenE P w K mg base k N sc a W) : DenE P w K mg base k N sc (.UnaryOp .Not a pos) (wNot W) := by
  obtain ⟨te, h1, h2⟩ := h
  refine ⟨_, fun X hX => pe_not (h1 X hX), fun σ H G B env Q Qv c hw q => ?_⟩
  refine h2 σ H G B env _ _ c hw fun v H1 G1 B1 C1 e1 dv hq r o => ?_
  split at hq
  case h_2 => exact hq.elim
  rename_i b
  exact ⟨b, bool_of o, q _ H1 G1 B1 _ e1 _ hq r.bare (.data (.bl _))⟩
def wIf (T : WT) (W U : WE) : WE := fun env Q => T env fun b e => if b = true then W e Q else U e Q
theorem den_if (ht : DenT P w K mg base k N sc c T) (h : DenE P w K mg base k N sc a W1) (h' : DenE P w K mg base k N sc b W2) : DenE P w K mg base k N sc (.IfExp c a b pos) (wIf T W1 W2) := by
  obtain ⟨tt, t1, t2⟩ := ht
  obtain ⟨te, h1, h2⟩ := h
  obtain ⟨tf, h3, h4⟩ := h'
  refine ⟨_, fun X hX => pe_ifExp (t1 X hX) (h1 X hX) (h3 X hX), fun σ H G B env Q Qv c hw q => ?_⟩
  refine t2 σ H G B env _ _ c hw fun b H1 G1 B1 e1 hq c1 s1 => ?_
  cases b with
  | true => exact h2 σ H1 G1 B1 e1 Q Qv c1 hq (res_tr' s1 q)
  | false => exact h4 σ H1 G1 B1 e1 Q Qv c1 hq (res_tr' s1 q)

/-! ### displays -/
abbrev lim : Nat := 16000000
theorem lim_le {n : Nat} (h : n ≤ lim) : n ≤ sizeLine := Nat.le_trans h (by decide)
def dvsOf : List AV → Option (List DV)
  | [] => some []
  | .val v :: r => match dvsOf r with
    | some l => some (v :: l)
    | none => none
  | .bor _ :: _ => none
def allDat : List DV → Option (List PyData)
  | [] => some []
  | .data d :: r => match allDat r with
    | some l => some (d :: l)
    | none => none
  | _ :: _ => none
def mkTup (dvs : List DV) : DV := match allDat dvs with
  | some ds => .data (.tuple ds)
  | none => .otup dvs
theorem dvsOf_ok : ∀ {avs : List AV} {C : Addr → Prop} {vs : List V} {dvs : List DV}, OwnAs K G H σ C vs avs → dvsOf avs = some dvs → OwnVs K G H C vs dvs
  | _, _, _, _, .nil, e => by cases e; exact .nil
  | _, _, _, _, .val s1 s2 d h t, e => by
    unfold dvsOf at e
    split at e
    · rename_i l e2
      cases e
      exact .cons s1 s2 d h (dvsOf_ok t e2)
    · cases e
  | _, _, _, _, .bor _ _, e => by cases e
theorem allDat_ok : ∀ {dvs : List DV} {C : Addr → Prop} {vs : List V} {ds : List PyData}, OwnVs K G H C vs dvs → allDat dvs = some ds → DpAll K G vs ds
  | _, _, _, _, .nil, e => by cases e; exact .nil
  | _, _, _, _, .cons (dv := .data _) s1 s2 d (.data h) t, e => by
    unfold allDat at e
    split at e
    · rename_i l e2
      cases e
      exact .cons h (allDat_ok t e2)
    · cases e
  | _, _, _, _, .cons (dv := .olist _) s1 s2 d h t, e => by cases e
  | _, _, _, _, .cons (dv := .otup _) s1 s2 d h t, e => by cases e
  | _, _, _, _, .cons (dv := .odict _) s1 s2 d h t, e => by cases e
  | _, _, _, _, .cons (dv := .sdict _) s1 s2 d h t, e => by cases e
theorem ownVs_len : ∀ {dvs : List DV} {C : Addr → Prop} {vs : List V}, OwnVs K G H C vs dvs → vs.length = dvs.length
  | _, _, _, .nil => rfl
  | _, _, _, .cons _ _ _ _ t => by rw [List.length_cons, List.length_cons, ownVs_len t]
theorem dats_len : ∀ dvs : List DV, (dats dvs).length = dvs.length
  | [] => rfl
  | _ :: r => by rw [dats, List.length_cons, List.length_cons, dats_len r]
def wTup (A : WA) : WE := fun env Q => A env fun avs e => match dvsOf avs with
  | some dvs => dvs.length ≤ lim ∧ nds dvs = true ∧ Q (mkTup dvs) e
  | none => False
def wLst (A : WA) : WE := fun env Q => A env fun avs e => match dvsOf avs with
  | some dvs => dvs.length ≤ lim ∧ nds dvs = true ∧ Q (.olist (dats dvs)) e
  | none => False
variable {es : List Expr} {AA : WA}
/-- a new thing laid behind an evaluation, the items of which are owned -/
theorem den_tup {x1} (h : DenA P w K mg base k N sc es AA) : DenE P w K mg base k N sc (.Tuple es x1 pos) (wTup AA) := by
  obtain ⟨ta, h1, h2⟩ := h
  refine ⟨_, fun X hX => pe_tup (h1 X hX), fun σ H G B env Q Qv c hw q => ?_⟩
  refine h2 σ H G B env _ _ c hw fun vs H1 G1 B1 C1 e1 avs hq r o => ?_
  split at hq
  case h_2 => exact hq.elim
  rename_i dvs e
  have o1 := dvsOf_ok o e
  refine ⟨by rw [ownVs_len o1]; exact lim_le hq.1, fun p np => ?_⟩
  have al := Alloc.dat (o := .tup vs) r.conc.le np
  obtain ⟨r2, d2⟩ := r.seq (al.res r.conc)
  unfold mkTup at hq
  split at hq
  · rename_i ds ed
    exact q _ _ _ B1 _ e1 _ hq.2.2 (r2.less (C2 := fun _ => False) fun _ z => z.elim) (.data (.tup (.inl (.inl upd_same)) (dpa_le al.g (allDat_ok o1 ed))))
  · exact q _ _ _ B1 _ e1 _ hq.2.2 (r2.less (C2 := C1) fun _ z => .inl z) (.otup (.inl (.inl upd_same)) (o1.mono al.g (fun a o z q => al.h a o q) fun _ z => z) hq.2.1)
theorem den_lst (h : DenA P w K mg base k N sc es AA) : DenE P w K mg base k N sc (.List es pos) (wLst AA) := by
  obtain ⟨ta, h1, h2⟩ := h
  refine ⟨_, fun X hX => pe_lst (h1 X hX), fun σ H G B env Q Qv c hw q => ?_⟩
  refine h2 σ H G B env _ _ c hw fun vs H1 G1 B1 C1 e1 avs hq r o => ?_
  split at hq
  case h_2 => exact hq.elim
  rename_i dvs e
  have o1 := dvsOf_ok o e
  refine ⟨by rw [ownVs_len o1]; exact lim_le hq.1, fun p np => ?_⟩
  -- the items become data
  have l1 := ice_le r.frC
  have r3 : Res K H G B H1 (ice H1 G1 C1) B1 (fun _ => False) σ e1 := by
    refine ⟨⟨ice_le' r.conc.le, fun a z => ?_, r.conc.own.mono l1 (fun _ _ _ q => q) fun _ z => z⟩, fun _ z => z.elim, fun _ z => z.elim, r.step.g.tr l1, fun a z => r.step.own a (z.elim .inl False.elim), fun a z n => ?_, r.step.th⟩
    · rw [ice_out fun y => r.dis a y z]
      exact r.conc.fr a z
    · obtain ⟨e1, e2⟩ := r.step.fr a z n
      refine ⟨e1, ?_⟩
      rw [ice_out fun y => (r.step.own a (.inr y)).elim n z]
      exact e2
  have dd : DpAll K (ice H1 G1 C1) vs (dats dvs) := o1.freeze l1 (fun a o z q => by rw [ice_in z]; exact q) hq.2.1
  have al := Alloc.own (o := .lst vs) r3.conc.le np
  obtain ⟨r2, d2⟩ := r3.seq (al.res r3.conc)
  exact q _ _ _ B1 _ e1 _ hq.2.2 (r2.less (C2 := fun a => a = p) fun _ z => .inr z) (.olist rfl upd_same dd)

/-! ### lists and tuples, read -/
/-- what is read item by item: a list, a tuple -/
def seqOf : DV → Option (List PyData)
  | .data (.list ds) => some ds
  | .data (.tuple ds) => some ds
  | .olist ds => some ds
  | _ => none
theorem Pk.seq {x : V} {dx : DV} {ds : List PyData} (h : Pk K G H x dx) (l : Le G H) (e : seqOf dx = some ds) : ∃ (p : Addr) (vs : List V), x = .ref p ∧ (SqL K H p vs ∨ SqT K H p vs) ∧ DpAll K G vs ds := by
  obtain ⟨C, h⟩ := h
  cases h with
  | data h =>
    cases h with
    | lst s t => cases e; exact ⟨_, _, rfl, .inl (sql_le l s), t⟩
    | tup s t => cases e; exact ⟨_, _, rfl, .inr (sqt_le l s), t⟩
    | _ => cases e
  | olist b h t => cases e; exact ⟨_, _, rfl, .inl (.inl (.inl h)), t⟩
  | otup _ _ => cases e
  | odict _ _ _ _ _ => cases e
  | sdict _ _ _ _ => cases e
def lstOf : DV → Option (List PyData)
  | .data (.list ds) => some ds
  | .olist ds => some ds
  | _ => none
def tupOf : DV → Option (List PyData)
  | .data (.tuple ds) => some ds
  | _ => none
theorem Pk.lst {x : V} {dx : DV} {ds : List PyData} (h : Pk K G H x dx) (l : Le G H) (e : lstOf dx = some ds) : ∃ (p : Addr) (vs : List V), x = .ref p ∧ SqL K H p vs ∧ DpAll K G vs ds := by
  obtain ⟨C, h⟩ := h
  cases h with
  | data h =>
    cases h with
    | lst s t => cases e; exact ⟨_, _, rfl, sql_le l s, t⟩
    | _ => cases e
  | olist b h t => cases e; exact ⟨_, _, rfl, .inl (.inl h), t⟩
  | otup _ _ => cases e
  | odict _ _ _ _ _ => cases e
  | sdict _ _ _ _ => cases e
theorem Pk.tup {x : V} {dx : DV} {ds : List PyData} (h : Pk K G H x dx) (l : Le G H) (e : tupOf dx = some ds) : ∃ (p : Addr) (vs : List V), x = .ref p ∧ SqT K H p vs ∧ DpAll K G vs ds := by
  obtain ⟨C, h⟩ := h
  cases h with
  | data h =>
    cases h with
    | tup s t => cases e; exact ⟨_, _, rfl, sqt_le l s, t⟩
    | _ => cases e
  | olist b h t => cases e
  | otup _ _ => cases e
  | odict _ _ _ _ _ => cases e
  | sdict _ _ _ _ => cases e
theorem dpa_at {vs : List V} {ds : List PyData} {i : Int} {d : PyData} (h : DpAll K G vs ds) (e : atI ds i = some d) : ∃ v, atI vs i = some v ∧ Dp K G v d := by
  unfold atI at e ⊢
  rw [dpa_len h]
  cases hi : ixN ds.length i with
  | none => rw [hi] at e; cases e
  | some j =>
    rw [hi] at e
    exact dpa_get h e
def fIx : F2 := fun x y Q => match y with
  | .data (.int i) => (match seqOf x with
    | some ds => (match atI ds i with
      | some d => Q (.data d)
      | none => False)
    | none => match x with
      | .otup dvs => (match atI dvs i with
        | some (.data d) => Q (.data d)
        | _ => False)
      | _ => False)
  | _ => False
theorem ownVs_get : ∀ {dvs : List DV} {C : Addr → Prop} {vs : List V} {j : Nat} {d : PyData}, OwnVs K G H C vs dvs → dvs[j]? = some (.data d) → ∃ v, vs[j]? = some v ∧ Dp K G v d
  | _, _, _, _, _, .nil, e => by simp at e
  | _, _, _, 0, _, .cons _ _ _ h _, e => by
    simp only [List.getElem?_cons_zero, Option.some.injEq] at e
    subst e
    cases h with
    | data h => exact ⟨_, by simp, h⟩
  | _, _, _, j + 1, _, .cons _ _ _ _ t, e => by
    obtain ⟨v, a, b⟩ := ownVs_get (j := j) t (by simpa using e)
    exact ⟨v, by simpa using a, b⟩
theorem snd_ix : SndR2 K (rIx K) fIx := by
  intro G H x y dx dy Q Qv l px py h q
  unfold fIx at h
  split at h
  case h_2 => exact h.elim
  rename_i i
  have ey := py.int
  split at h
  · rename_i ds es
    split at h
    case h_2 => exact h.elim
    rename_i d ea
    obtain ⟨p, vs, ex, s, t⟩ := px.seq l es
    obtain ⟨v, e2, dv⟩ := dpa_at t ea
    have fin : Qv v H := q v H G _ _ h (Alloc.refl l) (.data dv)
    rcases s with s | s
    · exact .inl ⟨p, vs, i, v, ex, ey, s, e2, fin⟩
    · exact .inr (.inl ⟨p, vs, i, v, ex, ey, s, e2, fin⟩)
  · split at h
    case h_2 => exact h.elim
    rename_i dvs _
    split at h
    case h_2 => exact h.elim
    rename_i d ea
    obtain ⟨C, px⟩ := px
    cases px with
    | @otup _ t vs _ s o =>
      have e3 : ∃ v, atI vs i = some v ∧ Dp K G v d := by
        unfold atI at ea ⊢
        rw [ownVs_len o]
        cases hi : ixN dvs.length i with
        | none => rw [hi] at ea; cases ea
        | some j =>
          rw [hi] at ea
          exact ownVs_get o ea
      obtain ⟨v, e2, dv⟩ := e3
      exact .inr (.inl ⟨t, vs, i, v, rfl, ey, sqt_le l s, e2, q v H G _ _ h (Alloc.refl l) (.data dv)⟩)
theorem den_at (ha : DenO P w K mg base k N sc a A) (hb : DenO P w K mg base k N sc b O) (hs : PlainIx b := by intros _ _; rfl) : DenE P w K mg base k N sc (.Subscript a b pos) (w2 fIx A O) :=
  den_ix (fun X hX => by rw [← hX.eK]; exact ix_seq) snd_ix ha hb hs

/-! ### + -/
def fAdd : F2 := fun x y Q => match x, y with
  | .data (.int i), .data (.int j) => Q (.data (.int (i + j)))
  | .data (.str i), .data (.str j) => i.length + j.length ≤ lim ∧ Q (.data (.str (i ++ j)))
  | x, y => match lstOf x, lstOf y with
    | some xs, some ys => xs.length + ys.length ≤ lim ∧ Q (.olist (xs ++ ys))
    | _, _ => match tupOf x, tupOf y with
      | some xs, some ys => xs.length + ys.length ≤ lim ∧ Q (.data (.tuple (xs ++ ys)))
      | _, _ => False
def rCatS (K : PySem.W.Frag) : R2 := fun x y H Q => ∃ l b xs ys, x = .ref l ∧ y = .ref b ∧ SqL K H l xs ∧ SqL K H b ys ∧ xs.length + ys.length ≤ sizeLine ∧ ∀ p, H p = none → Q (.ref p) (upd H p (.lst (xs ++ ys)))
theorem op_catS {X : Cx} : OpR X (binaryOp .Add) (rCatS X.K) := by
  intro pins s σ H x y v u Q I rx ry h
  obtain ⟨l, b, xs, ys, rfl, rfl, hl, hb, hz, q⟩ := h
  cases rx
  cases ry
  obtain ⟨its, r1, ⟨⟨c1, d1, t1, s1⟩, n1, e1, k1, _, j1⟩, _⟩ := I.list hl
  obtain ⟨jts, r2, ⟨⟨c2, d2, t2, s2⟩, n2, e2, k2, _, j2⟩, _⟩ := I.list hb
  simp only at k1 j1 k2 j2
  subst k1 j1 k2 j2
  have ea : its.toArray ++ jts.toArray = (its ++ jts).toArray := by simp
  have hz' : its.toArray.size + jts.toArray.size ≤ sizeLine := by rw [List.size_toArray, List.size_toArray, ← r1.length, ← r2.length]; exact hz
  refine concat_meets ⟨_, e1, rfl⟩ ⟨_, e2, rfl⟩ noFill_list_add seq_list_add PySem.F.slot_list_add PySem.F.entry_list_add (PySem.F.args_list_add_2 _ _) (list_addW l b its.toArray jts.toArray n1 n2 d1 d2 s1 s2 hz') ⟨e1, e2, ?_⟩
  rw [ea]
  exact ⟨.ref _, _, I.lnew (t' := s.toks) (r1.append r2) (by rw [List.length_append]; exact hz), rfl, q _ I.fresh⟩
def rAdd4 (K : PySem.W.Frag) : R2 := fun x y H Q => (rI0 (fun i j => .int (i + j)) x y H Q) ∨ (∃ i j, x = .str i ∧ y = .str j ∧ i.length + j.length ≤ sizeLine ∧ Q (.str (i ++ j)) H) ∨ rCatS K x y H Q ∨ rCatA K x y H Q
theorem op_add4 {X : Cx} : OpR X (binaryOp .Add) (rAdd4 X.K) := by
  intro pins s σ H x y v u Q I rx ry h
  rcases h with h | h | h | h
  · exact op_add pins s σ H x y v u Q I rx ry h
  · exact op_add_str pins s σ H x y v u Q I rx ry h
  · exact op_catS pins s σ H x y v u Q I rx ry h
  · exact op_catA pins s σ H x y v u Q I rx ry h
theorem snd_add : SndR2 K (rAdd4 K) fAdd := by
  intro G H x y dx dy Q Qv l px py h q
  unfold fAdd at h
  split at h
  · exact .inl ⟨_, _, px.int, py.int, q _ H G _ _ h (Alloc.refl l) (.data (.int _))⟩
  · exact .inr (.inl ⟨_, _, px.str, py.str, lim_le h.1, q _ H G _ _ h.2 (Alloc.refl l) (.data (.str _))⟩)
  · split at h
    · rename_i xs ys e1 e2
      obtain ⟨p, vs, ex, s1, t1⟩ := px.lst l e1
      obtain ⟨p2, us, ey, s2, t2⟩ := py.lst l e2
      refine .inr (.inr (.inl ⟨p, p2, vs, us, ex, ey, s1, s2, by rw [dpa_len t1, dpa_len t2]; exact lim_le h.1, fun r nr => ?_⟩))
      exact q _ _ G _ _ h.2 (Alloc.own l nr) (.olist rfl upd_same (dpa_app t1 t2))
    · split at h
      case h_2 => exact h.elim
      rename_i xs ys e1 e2
      obtain ⟨p, vs, ex, s1, t1⟩ := px.tup l e1
      obtain ⟨p2, us, ey, s2, t2⟩ := py.tup l e2
      have hn : ∀ {vs : List V} {ds : List PyData}, DpAll K G vs ds → vs = [] → ds = [] := fun t e => by subst e; cases t; rfl
      have ln1 := dpa_len t1
      have ln2 := dpa_len t2
      -- the tuple of the right, or of the left, may be handed back itself
      have old : ∀ {v : V} {ds : List PyData}, Pk K G H v (.data (.tuple ds)) → OwnV K G H (fun _ => False) v (.data (.tuple ds)) := fun ⟨C, o⟩ => by
        cases o with
        | data h => exact .data h
      have pd : ∀ {z : DV} {zs : List PyData}, tupOf z = some zs → z = .data (.tuple zs) := fun {z zs} e => by
        unfold tupOf at e
        split at e
        · cases e; rfl
        · cases e
      have p1 := pd e1
      have p2' := pd e2
      subst p1 p2'
      refine .inr (.inr (.inr ⟨p, p2, vs, us, ex, ey, s1, s2, by rw [ln1, ln2]; exact lim_le h.1, fun e => ?_, fun n e => ?_, fun n m r nr => ?_⟩))
      · have z := hn t1 e
        subst z
        rw [← ey]
        exact q _ H G _ _ h.2 (Alloc.refl l) (old py)
      · have z := hn t2 e
        subst z
        rw [← ex]
        have h2 := h.2
        rw [List.append_nil] at h2
        exact q _ H G _ _ h2 (Alloc.refl l) (old px)
      · have al := Alloc.dat (o := .tup (vs ++ us)) l nr
        exact q _ _ _ _ _ h.2 al (.data (.tup (.inl (.inl upd_same)) (dpa_le al.g (dpa_app t1 t2))))
theorem den_add (ha : DenO P w K mg base k N sc a A) (hb : DenO P w K mg base k N sc b O) : DenE P w K mg base k N sc (.BinOp a .Add b pos) (w2 fAdd A O) := den_bin (fun X hX => by rw [← hX.eK]; exact op_add4) snd_add ha hb
end
end Kb
namespace Kb
open PySem PySem.Spec PyProof.Rows L2
section
variable {P : Program} {w : World} {K : PySem.W.Frag} {mg : Str → Option Value} {base : Heap} {k : Nat} {N : List Str} {sc : Scf} {pin : List Bool}
variable {H G H1 G1 H2 G2 H' G' : Hp} {B B1 B2 B' C C1 C2 : Addr → Prop} {σ : L2.St} {env env1 env2 env' : Ev}
variable {a b c e : Expr} {pos p : Pos} {A O : WO} {W W1 W2 : WE} {T T1 T2 : WT} {x : Str} {id : String}
variable {r : List V → Hp → VK → Prop} {f1 : F1} {f2 : F2}

theorem gl_of {X : Cx} (hX : CxOk P w K mg base k N sc X) (hg : GloB sc x = true) : Gl X x := by
  show X.env.scope.names.lookup x = _
  rw [hX.es]
  exact glo_of hg
/-! ### builtins by their names -/
theorem den_b1 (hc : ∀ X, CxOk P w K mg base k N sc X → CallR X (.builtin id) r) (hr : SndR1 K (fun v H Q => r [v] H Q) f1) (hv : bootBuiltins x = some (.builtin id)) (hm : mg x = none) (hg : GloB sc x = true) (ha : DenO P w K mg base k N sc a A)
    (hs : ∀ env, starEach [a] env = (false, eval a env) :: starEach [] env := by intros; rfl) (hn : x ≠ "__name__" := by decide) (hdb : (x == ("__debug__" : Str)) = false := by decide) : DenE P w K mg base k N sc (.Call (.Name x p) [a] [] pos) (w1 f1 A) := by
  obtain ⟨ta, a1, a2⟩ := ha
  exact ⟨tCB r (tCons ta tNil), fun X hX => pe_callB (hc X hX) (by show X.env.scope.names.lookup x = _; rw [hX.es]; exact glo_of hg) (by rw [hX.eg]; exact hm) hv (pa_cons (a1 X hX) pa_nil (hs X.env)) hn hdb (hs X.env) rfl, snd_w1 hr a2⟩
theorem den_t1 (hc : ∀ X, CxOk P w K mg base k N sc X → CallR X (.type id) r) (hr : SndR1 K (fun v H Q => r [v] H Q) f1) (hv : bootBuiltins x = some (.type id)) (hm : mg x = none) (hg : GloB sc x = true) (ha : DenO P w K mg base k N sc a A)
    (hs : ∀ env, starEach [a] env = (false, eval a env) :: starEach [] env := by intros; rfl) (hn : x ≠ "__name__" := by decide) (hdb : (x == ("__debug__" : Str)) = false := by decide) : DenE P w K mg base k N sc (.Call (.Name x p) [a] [] pos) (w1 f1 A) := by
  obtain ⟨ta, a1, a2⟩ := ha
  exact ⟨tCB r (tCons ta tNil), fun X hX => pe_callTy (hc X hX) (by show X.env.scope.names.lookup x = _; rw [hX.es]; exact glo_of hg) (by rw [hX.eg]; exact hm) hv (pa_cons (a1 X hX) pa_nil (hs X.env)) hn hdb (hs X.env) rfl, snd_w1 hr a2⟩
theorem den_b2 (hc : ∀ X, CxOk P w K mg base k N sc X → CallR X (.builtin id) r) (hr : SndR2 K (fun v u H Q => r [v, u] H Q) f2) (hv : bootBuiltins x = some (.builtin id)) (hm : mg x = none) (hg : GloB sc x = true) (ha : DenO P w K mg base k N sc a A) (hb : DenO P w K mg base k N sc b O)
    (hs : ∀ env, starEach [a, b] env = (false, eval a env) :: starEach [b] env := by intros; rfl) (hs' : ∀ env, starEach [b] env = (false, eval b env) :: starEach [] env := by intros; rfl) (hn : x ≠ "__name__" := by decide) (hdb : (x == ("__debug__" : Str)) = false := by decide)
    (hpl : ∀ env, (backTo pos (starEach [b] env)).any (·.1) = false := by intros; rfl) : DenE P w K mg base k N sc (.Call (.Name x p) [a, b] [] pos) (w2 f2 A O) := by
  obtain ⟨ta, a1, a2⟩ := ha
  obtain ⟨tb, b1, b2⟩ := hb
  exact ⟨tCB r (tCons ta (tCons tb tNil)), fun X hX => pe_callB (hc X hX) (by show X.env.scope.names.lookup x = _; rw [hX.es]; exact glo_of hg) (by rw [hX.eg]; exact hm) hv (pa_cons (a1 X hX) (pa_cons (b1 X hX) pa_nil (hs' X.env)) (hs X.env)) hn hdb (hs X.env) (hpl X.env), snd_w2 hr a2 b2⟩
section
variable (hm : mg x = none) (hg : GloB sc x = true)
def fLen : F1 := fun x Q => match seqOf x with
  | some ds => Q (.data (.int (ds.length : Nat)))
  | none => match x with
    | .otup dvs => Q (.data (.int (dvs.length : Nat)))
    | .data (.str s) => s.length ≤ lim ∧ Q (.data (.int (s.length : Nat)))
    | _ => False
def rLenA (K : PySem.W.Frag) : List V → Hp → VK → Prop := fun xs H Q => (∃ p ys, xs = [.ref p] ∧ (SqL K H p ys ∨ SqT K H p ys) ∧ Q (.int ys.length) H) ∨ ∃ z, xs = [.str z] ∧ z.length ≤ sizeLine ∧ Q (.int z.length) H
theorem call_lenA {X : Cx} : CallR X (.builtin "len") (rLenA X.K) := by
  intro pins s σ H xs us Q I r h
  rcases h with h | h
  · exact call_len_seq pins s σ H xs us Q I r h
  · exact call_len_str pins s σ H xs us Q I r h
theorem snd_len : SndR1 K (fun v H Q => rLenA K [v] H Q) fLen := by
  intro G H x dx Q Qv l px h q
  unfold fLen at h
  split at h
  · rename_i ds es
    obtain ⟨p, vs, ex, s, t⟩ := px.seq l es
    refine .inl ⟨p, vs, by rw [ex], s, ?_⟩
    rw [dpa_len t]
    exact q _ H G _ _ h (Alloc.refl l) (.data (.int _))
  · split at h
    · rename_i dvs _
      obtain ⟨C, px⟩ := px
      cases px with
      | otup s o =>
        refine .inl ⟨_, _, rfl, .inr (sqt_le l s), ?_⟩
        rw [ownVs_len o]
        exact q _ H G _ _ h (Alloc.refl l) (.data (.int _))
    · rename_i s _
      exact .inr ⟨s, by rw [px.str], lim_le h.1, q _ H G _ _ h.2 (Alloc.refl l) (.data (.int _))⟩
    · exact h.elim
theorem den_len (hm : mg "len" = none) (hg : GloB sc "len" = true) (ha : DenO P w K mg base k N sc a A) (hs : ∀ env, starEach [a] env = (false, eval a env) :: starEach [] env := by intros; rfl) : DenE P w K mg base k N sc (.Call (.Name "len" p) [a] [] pos) (w1 fLen A) :=
  den_b1 (fun X hX => by rw [← hX.eK]; exact call_lenA) snd_len PySem.boot_len hm hg ha hs
def fList : F1 := fun x Q => match seqOf x with
  | some ds => Q (.olist ds)
  | none => False
def fTuple : F1 := fun x Q => match seqOf x with
  | some ds => Q (.data (.tuple ds))
  | none => False
theorem den_list (hm : mg "list" = none) (hg : GloB sc "list" = true) (ha : DenO P w K mg base k N sc a A) (hs : ∀ env, starEach [a] env = (false, eval a env) :: starEach [] env := by intros; rfl) : DenE P w K mg base k N sc (.Call (.Name "list" p) [a] [] pos) (w1 fList A) :=
  den_t1 (r := fun xs H Q => ∃ p ys, xs = [.ref p] ∧ (SqL K H p ys ∨ SqT K H p ys) ∧ ∀ l, H l = none → Q (.ref l) (upd H l (.lst ys))) (fun X hX => by rw [← hX.eK]; exact call_list_of) (fun G H x dx Q Qv l px h q => by
    unfold fList at h
    split at h
    case h_2 => exact h.elim
    rename_i ds es
    obtain ⟨p, vs, ex, s, t⟩ := px.seq l es
    exact ⟨p, vs, by rw [ex], s, fun r nr => q _ _ G _ _ h (Alloc.own l nr) (.olist rfl upd_same t)⟩) (by decide +kernel) hm hg ha hs
theorem den_tuple (hm : mg "tuple" = none) (hg : GloB sc "tuple" = true) (ha : DenO P w K mg base k N sc a A) (hs : ∀ env, starEach [a] env = (false, eval a env) :: starEach [] env := by intros; rfl) : DenE P w K mg base k N sc (.Call (.Name "tuple" p) [a] [] pos) (w1 fTuple A) :=
  den_t1 (r := fun xs H Q => ∃ p ys, xs = [.ref p] ∧ ((SqL K H p ys ∧ ∀ l, H l = none → Q (.ref l) (upd H l (.tup ys))) ∨ (SqT K H p ys ∧ Q (.ref p) H))) (fun X hX => by rw [← hX.eK]; exact call_tuple_of) (fun G H x dx Q Qv l px h q => by
    unfold fTuple at h
    split at h
    case h_2 => exact h.elim
    rename_i ds es
    have two : lstOf dx = some ds ∨ dx = .data (.tuple ds) := by
      revert es
      unfold seqOf lstOf
      split <;> (intro es; first | (cases es; simp) | cases es)
    rcases two with e1 | e1
    · obtain ⟨p, vs, ex, s, t⟩ := px.lst l e1
      refine ⟨p, vs, by rw [ex], .inl ⟨s, fun r nr => ?_⟩⟩
      have al := Alloc.dat (o := .tup vs) l nr
      exact q _ _ _ _ _ h al (.data (.tup (.inl (.inl upd_same)) (dpa_le al.g t)))
    · subst e1
      obtain ⟨p, vs, ex, s, t⟩ := px.tup l rfl
      obtain ⟨C, o⟩ := px
      cases o with
      | data h0 => exact ⟨p, vs, by rw [ex], .inr ⟨s, by rw [← ex]; exact q _ H G (fun _ => False) _ h (Alloc.refl l) (.data h0)⟩⟩) (by decide +kernel) hm hg ha hs
def Shown (d : PyData) : Prop := d.showable = true ∧ SeqAt.shaped d = true ∧ d.shown.length ≤ lim
def fRepr : F1 := fun x Q => Shown x.dat ∧ Q (.data (.str x.dat.shown))
def rRepr (K : PySem.W.Frag) : List V → Hp → VK → Prop := fun xs H Q => ∃ x d, xs = [x] ∧ Dp K H x d ∧ Shown d ∧ Q (.str d.shown) H
theorem call_reprD {X : Cx} (hg : X.A.guards = some []) (hu : X.A.units + 66 < cLine) : CallR X (.builtin "repr") (rRepr X.K) := by
  intro pins s σ H xs us Q I r h
  obtain ⟨x, d, rfl, dp, ⟨h1, h2, h3⟩, q⟩ := h
  obtain ⟨u, rfl, rx⟩ := vals1 r
  have hz := lim_le h3
  have nd : d.hasDict = false := PyData.hasDict_of_canLay d (SeqAt.canLay_of_shaped h2)
  have dep := SeqAt.depth_of_shaped h2
  obtain ⟨as, rd⟩ := Dp.reads I d x u dp rx
  have big : ∀ {a : Addr}, u = .ref a → wpAny (model X.prog X.w) X.A (call (.builtin "repr") [u]) (EP X pins σ Q) X.xe s := fun {a} e => by
    subst e
    exact repr_of_reads' rd h1 (PyData.noDict_hsm nd) hg (by omega) (fun _ _ e => e) (fun h' t tk hk => ⟨.str _, H, I.kept hk, ⟨_, rfl⟩, q⟩) hz
  cases dp with
  | non => cases rx; exact PySem.P.repr_of_none ⟨.str _, H, I.tok _, ⟨_, rfl⟩, q⟩
  | bl b => cases rx; exact PySem.P.repr_of_bool ⟨.str _, H, I.tok _, ⟨_, rfl⟩, q⟩
  | int i =>
    obtain ⟨t, rfl⟩ := rx
    exact PySem.P.repr_of_int (by simpa [PyData.showable] using h1) ⟨.str _, H, I.tok _, ⟨_, rfl⟩, q⟩
  | str z =>
    obtain ⟨t, rfl⟩ := rx
    exact PySem.P.repr_of_str ⟨.str _, H, I.tok _, ⟨_, rfl⟩, q⟩ hz
  | lst s t => cases rx; exact big rfl
  | tup s t => cases rx; exact big rfl
theorem den_repr (hm : mg "repr" = none) (hg : GloB sc "repr" = true) (ha : DenO P w K mg base k N sc a A) (hs : ∀ env, starEach [a] env = (false, eval a env) :: starEach [] env := by intros; rfl) : DenE P w K mg base k N sc (.Call (.Name "repr" p) [a] [] pos) (w1 fRepr A) :=
  den_b1 (r := rRepr K) (fun X hX => by rw [← hX.eK]; exact call_reprD hX.gd (by have := hX.room.un; omega)) (fun G H x dx Q Qv l px h q => ⟨x, _, rfl, px.dp l h.1.2.1, h.1, q _ H G _ _ h.2 (Alloc.refl l) (.data (.str _))⟩) boot_repr hm hg ha hs
def fAbs : F1 := fun x Q => match x with
  | .data (.int i) => Q (.data (.int (if i < 0 then -i else i)))
  | _ => False
theorem den_abs (hm : mg "abs" = none) (hg : GloB sc "abs" = true) (ha : DenO P w K mg base k N sc a A) (hs : ∀ env, starEach [a] env = (false, eval a env) :: starEach [] env := by intros; rfl) : DenE P w K mg base k N sc (.Call (.Name "abs" p) [a] [] pos) (w1 fAbs A) :=
  den_b1 (fun _ _ => call_abs) (fun G H x dx Q Qv l px h q => by
    unfold fAbs at h
    split at h
    case h_2 => exact h.elim
    exact ⟨_, by rw [px.int], q _ H G _ _ h (Alloc.refl l) (.data (.int _))⟩) (by decide +kernel) hm hg ha hs
abbrev fMax : F2 := f2I (fun _ _ => True) fun i j => .int (if j > i then j else i)
abbrev fMin : F2 := f2I (fun _ _ => True) fun i j => .int (if j < i then j else i)
theorem snd_mm {g : Int → Int → Int} : SndR2 K (fun v u H Q => ∃ i j, [v, u] = [V.int i, V.int j] ∧ Q (.int (g i j)) H) (f2I (fun _ _ => True) fun i j => .int (g i j)) := by
  intro G H x y dx dy Q Qv l px py h q
  unfold f2I at h
  split at h
  · exact ⟨_, _, by rw [px.int, py.int], q _ H G _ _ h.2 (Alloc.refl l) (.data (.int _))⟩
  · exact h.elim
theorem den_max (hm : mg "max" = none) (hg : GloB sc "max" = true) (ha : DenO P w K mg base k N sc a A) (hb : DenO P w K mg base k N sc b O) (hs : ∀ env, starEach [a, b] env = (false, eval a env) :: starEach [b] env := by intros; rfl) (hs' : ∀ env, starEach [b] env = (false, eval b env) :: starEach [] env := by intros; rfl)
    (hpl : ∀ env, (backTo pos (starEach [b] env)).any (·.1) = false := by intros; rfl) : DenE P w K mg base k N sc (.Call (.Name "max" p) [a, b] [] pos) (w2 fMax A O) :=
  den_b2 (fun X hX => call_max2 hX.calm) snd_mm (by decide +kernel) hm hg ha hb hs hs' (by decide) (by decide) hpl
theorem den_min (hm : mg "min" = none) (hg : GloB sc "min" = true) (ha : DenO P w K mg base k N sc a A) (hb : DenO P w K mg base k N sc b O) (hs : ∀ env, starEach [a, b] env = (false, eval a env) :: starEach [b] env := by intros; rfl) (hs' : ∀ env, starEach [b] env = (false, eval b env) :: starEach [] env := by intros; rfl)
    (hpl : ∀ env, (backTo pos (starEach [b] env)).any (·.1) = false := by intros; rfl) : DenE P w K mg base k N sc (.Call (.Name "min" p) [a, b] [] pos) (w2 fMin A O) :=
  den_b2 (fun X hX => call_min2 hX.calm) snd_mm (by decide +kernel) hm hg ha hb hs hs' (by decide) (by decide) hpl
end

/-! ### list(range(n)) -/
def intsD (n : Nat) : List PyData := (List.range n).map fun i => .int (i : Nat)
def fRange : F1 := fun x Q => match x with
  | .data (.int n) => (-1000000 ≤ n ∧ n ≤ 1000000) ∧ Q (.olist (intsD n.toNat))
  | _ => False
theorem dpa_rg {n : Int} : DpAll K G (rgV 0 n) (intsD n.toNat) := by
  unfold rgV intsD
  rw [Int.sub_zero]
  induction List.range n.toNat with
  | nil => exact .nil
  | cons i r ih =>
    refine .cons ?_ ih
    show Dp K G (V.int (0 + (i : Int))) (PyData.int (i : Int))
    rw [Int.zero_add]
    exact .int _
theorem den_listRg {q p2 : Pos} (hm : mg "list" = none) (hg : GloB sc "list" = true) (hm2 : mg "range" = none) (hg2 : GloB sc "range" = true) (ha : DenO P w K mg base k N sc a A) (hs : ∀ env, starEach [a] env = (false, eval a env) :: starEach [] env := by intros; rfl)
    (hs2 : ∀ env, starEach [.Call (.Name "range" p2) [a] [] q] env = (false, eval (.Call (.Name "range" p2) [a] [] q) env) :: starEach [] env := by intros; rfl) : DenE P w K mg base k N sc (.Call (.Name "list" p) [.Call (.Name "range" p2) [a] [] q] [] pos) (w1 fRange A) := by
  obtain ⟨ta, a1, a2⟩ := ha
  refine ⟨tLstRg (tRg1 ta), fun X hX => pe_listRg hX.calm (gl_of hX hg) (by rw [hX.eg]; exact hm) (prg_1 (gl_of hX hg2) (by rw [hX.eg]; exact hm2) (a1 X hX) (hs X.env)) (hs2 X.env), ?_⟩
  show SndE K (tUn (fun x H Q => ∃ n, x = .int n ∧ RgOk 0 n ∧ ∀ q, H q = none → Q (.ref q) (upd H q (.lst (rgV 0 n)))) ta) _
  refine snd_w1 (fun G H x dx Q Qv l px h q => ?_) a2
  unfold fRange at h
  split at h
  case h_2 => exact h.elim
  rename_i n
  refine ⟨n, px.int, ⟨by decide, by decide, by have := h.1; omega, by have := h.1; omega, by have := h.1; omega⟩, fun r nr => ?_⟩
  exact q _ _ G _ _ h.2 (Alloc.own l nr) (.olist rfl upd_same dpa_rg)
end
end Kb
namespace Kb
open PySem PySem.Spec PyProof.Rows L2
section
variable {P : Program} {w : World} {K : PySem.W.Frag} {mg : Str → Option Value} {base : Heap} {k : Nat} {N : List Str} {sc : Scf} {pin : List Bool}
variable {H G H1 G1 H2 G2 H' G' : Hp} {B B1 B2 B' C C1 C2 : Addr → Prop} {σ : L2.St} {env env1 env2 env' : Ev}
variable {a b c e : Expr} {pos p : Pos} {A O : WO} {W W1 W2 : WE} {T T1 T2 : WT} {x : Str} {id : String}

/-! ### slices -/
abbrev WP := Ev → (Option Int → Ev → Prop) → Prop
def SndP (K : PySem.W.Frag) (tp : TO) (W : WP) : Prop := ∀ (σ : L2.St) (H G : Hp) (B : Addr → Prop) (env : Ev) (Q : Option Int → Ev → Prop) (Qv : Option Int → Hp → Prop), Conc K H G B σ env → W env Q →
  (∀ o H' G' B' env', Q o env' → Conc K H' G' B' σ env' → Step H G B H' G' B' → Qv o H') → tp σ H Qv
def DenP (P : Program) (w : World) (K : PySem.W.Frag) (mg : Str → Option Value) (base : Heap) (k : Nat) (N : List Str) (sc : Scf) (e : Option Expr) (W : WP) : Prop := ∃ tp, (∀ X, CxOk P w K mg base k N sc X → PO X e tp) ∧ SndP K tp W
def pNo : WP := fun env Q => Q none env
def pInt (W : WE) : WP := fun env Q => W env fun x e => match x with
  | .data (.int i) => Q (some i) e
  | _ => False
theorem denp_no : DenP P w K mg base k N sc none pNo := ⟨_, fun X _ => po_none, fun σ H G B env Q Qv c hw q => q none H G B env hw c Step.refl⟩
theorem int_of {v : V} {i : Int} (h : OwnV K G H C v (.data (.int i))) : v = .int i := by
  cases h with
  | data h => cases h; rfl
theorem denp_int (h : DenE P w K mg base k N sc e W) : DenP P w K mg base k N sc (some e) (pInt W) := by
  obtain ⟨te, h1, h2⟩ := h
  refine ⟨_, fun X hX => po_some (h1 X hX), fun σ H G B env Q Qv c hw q => ?_⟩
  refine h2 σ H G B env _ _ c hw fun v H1 G1 B1 C1 e1 dv hq r o => ?_
  split at hq
  case h_2 => exact hq.elim
  rename_i i
  exact ⟨i, int_of o, q (some i) H1 G1 B1 e1 hq r.conc r.drop⟩
def cutL {α : Type} (xs : List α) (lo hi : Option Int) : List α := (xs.drop (HT.sIx xs.length 0 lo)).take (HT.sIx xs.length xs.length hi - HT.sIx xs.length 0 lo)
theorem dpa_cut {vs : List V} {ds : List PyData} {lo hi : Option Int} (h : DpAll K G vs ds) : DpAll K G (cutV vs lo hi) (cutL ds lo hi) := by
  unfold cutV cutL
  rw [dpa_len h]
  exact dpa_take _ (dpa_drop _ h)
def fSl (lo hi : Option Int) : F1 := fun x Q => match lstOf x with
  | some ds => Q (.olist (cutL ds lo hi))
  | none => match tupOf x with
    | some ds => Q (.data (.tuple (cutL ds lo hi)))
    | none => False
def wSl (A : WO) (Wl Wh : WP) : WE := fun env Q => A env fun x e => Wl e fun lo e1 => Wh e1 fun hi e2 => match x.get e2 with
  | some dx => fSl lo hi dx fun r => Q r e2
  | none => False
def rSlS (K : PySem.W.Frag) : V → Option Int → Option Int → Hp → VK → Prop := fun x lo hi H Q => rSlL K x lo hi H Q ∨ rSlA K x lo hi H Q
theorem snd_sl {lo hi : Option Int} : SndR1 K (fun x H Q => rSlS K x lo hi H Q) (fSl lo hi) := by
  intro G H x dx Q Qv l px h q
  unfold fSl at h
  split at h
  · rename_i ds es
    obtain ⟨p, vs, ex, s, t⟩ := px.lst l es
    exact .inl ⟨p, vs, ex, s, fun r nr => q _ _ G _ _ h (Alloc.own l nr) (.olist rfl upd_same (dpa_cut t))⟩
  · split at h
    case h_2 => exact h.elim
    rename_i ds es
    obtain ⟨p, vs, ex, s, t⟩ := px.tup l es
    have lt := dpa_len t
    refine .inr ⟨p, vs, ex, s, fun hw => ?_, fun hw r nr => ?_⟩
    · have e1 : cutL ds lo hi = ds := by
        unfold cutL
        rw [← lt, hw.1, hw.2]
        simp [lt]
      rw [e1] at h
      have pd : dx = .data (.tuple ds) := by
        revert es
        unfold tupOf
        split <;> intro es
        · cases es; rfl
        · cases es
      subst pd
      obtain ⟨C, o⟩ := px
      rw [← ex]
      cases o with
      | data h0 => exact q _ H G (fun _ => False) _ h (Alloc.refl l) (.data h0)
    · have al := Alloc.dat (o := .tup (cutV vs lo hi)) l nr
      exact q _ _ _ _ _ h al (.data (.tup (.inl (.inl upd_same)) (dpa_le al.g (dpa_cut t))))
theorem den_slice {lo hi : Option Expr} {Wl Wh : WP} {p2 : Pos} (ha : DenO P w K mg base k N sc a A) (hl : DenP P w K mg base k N sc lo Wl) (hh : DenP P w K mg base k N sc hi Wh) : DenE P w K mg base k N sc (.Subscript a (.Slice lo hi none p2) pos) (wSl A Wl Wh) := by
  obtain ⟨ta, a1, a2⟩ := ha
  obtain ⟨tl, l1, l2⟩ := hl
  obtain ⟨th, h1, h2⟩ := hh
  refine ⟨tSl (rSlS K) ta tl th, fun X hX => pe_slice (by rw [← hX.eK]; exact sl_list.or sl_tupA) (a1 X hX) (l1 X hX) (h1 X hX), fun σ H G B env Q Qv c hw q => ?_⟩
  refine a2 σ H G B env _ _ c hw fun v H1 G1 B1 C1 e1 ov hq r o => ?_
  refine l2 σ H1 G1 B1 e1 _ _ r.conc hq fun lo H2 G2 B2 e2 hq2 c2 s2 => ?_
  refine h2 σ H2 G2 B2 e2 _ _ c2 hq2 fun hi H3 G3 B3 e3 hq3 c3 s3 => ?_
  have s23 := s2.tr s3
  have o3 := o.later s23 r.frC r.dis
  split at hq3
  case h_2 => exact hq3.elim
  rename_i dx ex
  refine snd_sl G3 H3 v dx _ _ c3.le (o3.pk c3 ex) hq3 fun z H' G' C dz hz al oz => ?_
  exact q z H' G' B3 C e3 dz hz (Res.tr (r.drop.tr s23) (al.res c3)) oz

/-! ### an own list is changed -/
theorem Conc.mut {i : Nat} {ds : List PyData} (c : Conc K H G B σ env) (e : env[i]? = some (some (.olist ds))) : ∃ (p : Addr) (vs : List V), σ[i]? = some (some (.ref p)) ∧ H p = some (.lst vs) ∧ DpAll K G vs ds ∧
    ∀ vs' ds', DpAll K G vs' ds' → Conc K (upd H p (.lst vs')) G B σ (env.set i (some (.olist ds'))) ∧ Step H G B (upd H p (.lst vs')) G B := by
  obtain ⟨v, C, B', a, h, q, c1, c2, c3⟩ := c.own.take e
  cases h with
  | @olist _ p vs _ pc hp t =>
    have pB := c1 p pc
    have gp := (c.fr p pB).1
    refine ⟨p, vs, a, hp, t, fun vs' ds' t' => ⟨⟨fun a o z => ?_, fun a z => ⟨(c.fr a z).1, ?_⟩, ?_⟩, Le.rfl', fun a z => .inl z, fun a z n => ?_, fun a z => ?_⟩⟩
    · have : a ≠ p := fun y => by rw [y, gp] at z; cases z
      rw [upd_ne this]
      exact c.le a o z
    · by_cases y : a = p
      · rw [y, upd_same]; exact fun q => nomatch q
      · rw [upd_ne y]; exact (c.fr a z).2
    · have q2 : OwnE K G (upd H p (.lst vs')) B' σ (env.set i none) := q.mono Le.rfl' (fun a o z y => by
        have : a ≠ p := fun y => c3 p pc (y ▸ z)
        rw [upd_ne this]; exact y) fun _ z => z
      have q3 := OwnE.put (C := C) i q2 (OwnV.olist pc upd_same t') c3
      rw [set_self a, List.set_set] at q3
      exact q3.mono Le.rfl' (fun _ _ _ y => y) fun a z => z.elim (c2 a) (c1 a)
    · have : a ≠ p := fun y => n (y ▸ pB)
      exact ⟨upd_ne this, rfl⟩
    · by_cases y : a = p
      · rw [y, upd_same]; exact fun q => nomatch q
      · rw [upd_ne y]; exact z
theorem tyV_lst {p : Addr} {vs : List V} (h : H p = some (.lst vs)) : tyV K "list" (.ref p) H := .inl ⟨rfl, vs, .inl (.inl h)⟩
/-- xs.append(e), xs an own list at slot i -/
def wAppend (i : Nat) (W : WE) : WE := fun env Q => match env[i]? with
  | some (some (.olist _)) => W env fun dv e => (match e[i]? with
    | some (some (.olist ds)) => ds.length < lim ∧ dv.nd = true ∧ Q (.data .none) (e.set i (some (.olist (ds ++ [dv.dat]))))
    | _ => False)
  | _ => False
def wReverse (i : Nat) : WE := fun env Q => match env[i]? with
  | some (some (.olist ds)) => Q (.data .none) (env.set i (some (.olist ds.reverse)))
  | _ => False
def wClear (i : Nat) : WE := fun env Q => match env[i]? with
  | some (some (.olist ds)) => Q (.data .none) (env.set i (some (.olist [])))
  | _ => False
/-- xs.pop(j) -/
def wPopAt (i : Nat) (W : WE) : WE := fun env Q => match env[i]? with
  | some (some (.olist _)) => W env fun dv e => (match dv, e[i]? with
    | .data (.int j), some (some (.olist ds)) => (match ds[j.toNat]? with
      | some d => (0 ≤ j ∧ j < 1000000) ∧ Q (.data d) (e.set i (some (.olist (ds.eraseIdx j.toNat))))
      | none => False)
    | _, _ => False)
  | _ => False
def wPop (i : Nat) : WE := fun env Q => match env[i]? with
  | some (some (.olist ds)) => (match ds[ds.length - 1]? with
      | some d => Q (.data d) (env.set i (some (.olist ds.dropLast)))
      | none => False)
  | _ => False
/-- xs.extend(e) -/
def wExtend (i : Nat) (W : WE) : WE := fun env Q => match env[i]? with
  | some (some (.olist _)) => W env fun dv e => (match dv, e[i]? with
    | .olist es, some (some (.olist ds)) => ds.length + es.length ≤ lim ∧ Q (.data .none) (e.set i (some (.olist (ds ++ es))))
    | _, _ => False)
  | _ => False
variable {i : Nat} {apos : Pos}
section
variable (hN : N[i]? = some x) (hv : SeeB sc x = true)
theorem den_append (hN : N[i]? = some x) (hv : SeeB sc x = true) (h : DenE P w K mg base k N sc e W) (hbase : ∀ env, attributeBase (.Name x p) "append" env (eval (.Name x p) env) = eval (.Name x p) env := by intros; rfl)
    (hfew : ∀ env, ((backTo pos (starEach [e] env)).all (fun x => !x.1) && (backToKw pos (keywordEach [] env)).all (fun x => x.1.isSome) && decide (([e] : List Expr).length + ([] : List Keyword).length + (if ([] : List Keyword).isEmpty then 0 else 1) < 30)) = true := by intros; rfl)
    (hline : (apos.endLine == pos.line) = true := by rfl) (hs : ∀ env, starEach [e] env = (false, eval e env) :: starEach [] env := by intros; rfl) (hd : (x == ("__debug__" : Str)) = false := by decide) (hcd : (x == ("__classdict__" : Str)) = false := by decide) :
    DenE P w K mg base k N sc (.Call (.Attribute (.Name x p) "append" apos) [e] [] pos) (wAppend i W) := by
  obtain ⟨te, h1, h2⟩ := h
  refine ⟨tBM K "list" rAppend (tVar i) (tCons te tNil), fun X hX => by
    rw [← hX.eK]
    exact pe_bm PySem.F.plainAttrs_list PySem.F.slot_list_append PySem.F.type_list_append mt_append (pe_nm hX hN hv hd hcd) (pa_cons (h1 X hX) pa_nil (hs X.env)) (hbase X.env) (hfew X.env) hline (hs X.env) rfl, fun σ H G B env Q Qv c hw q => ?_⟩
  unfold wAppend at hw
  split at hw
  case h_2 => exact hw.elim
  rename_i ds0 e0
  obtain ⟨p0, vs0, a0, hp0, _, _⟩ := c.mut e0
  refine ⟨_, a0, tyV_lst hp0, ?_⟩
  refine h2 σ H G B env _ _ c hw fun v H1 G1 B1 C1 e1 dv hq r o => ?_
  split at hq
  case h_2 => exact hq.elim
  rename_i ds e2
  obtain ⟨r2, dp⟩ := r.freeze o hq.2.1
  obtain ⟨p1, vs, a1, hp, t, m⟩ := r2.conc.mut e2
  rw [a0] at a1
  cases a1
  refine ⟨p0, vs, v, rfl, rfl, hp, by rw [dpa_len t]; exact Nat.lt_of_lt_of_le hq.1 (by decide), ?_⟩
  obtain ⟨c3, s3⟩ := m (vs ++ [v]) (ds ++ [dv.dat]) (dpa_app t (.cons dp .nil))
  exact q _ _ _ _ _ _ _ hq.2.2 (Res.tr (r2.drop.tr s3) c3.step0) (.data .non)
theorem den_reverse (hN : N[i]? = some x) (hv : SeeB sc x = true) (hbase : ∀ env, attributeBase (.Name x p) "reverse" env (eval (.Name x p) env) = eval (.Name x p) env := by intros; rfl) (hline : (apos.endLine == pos.line) = true := by rfl)
    (hd : (x == ("__debug__" : Str)) = false := by decide) (hcd : (x == ("__classdict__" : Str)) = false := by decide) : DenE P w K mg base k N sc (.Call (.Attribute (.Name x p) "reverse" apos) [] [] pos) (wReverse i) := by
  refine ⟨tBM0 K "list" rReverse (tVar i), fun X hX => by
    rw [← hX.eK]
    exact pe_bm0 PySem.F.plainAttrs_list PySem.F.slot_list_reverse PySem.F.type_list_reverse mt_reverse (pe_nm hX hN hv hd hcd) (hbase X.env) hline, fun σ H G B env Q Qv c hw q => ?_⟩
  unfold wReverse at hw
  split at hw
  case h_2 => exact hw.elim
  rename_i ds e0
  obtain ⟨p0, vs, a0, hp, t, m⟩ := c.mut e0
  refine ⟨_, a0, tyV_lst hp, p0, vs, rfl, rfl, hp, ?_⟩
  obtain ⟨c3, s3⟩ := m vs.reverse ds.reverse (dpa_rev t)
  exact q _ _ _ _ _ _ _ hw (Res.tr s3 c3.step0) (.data .non)
theorem den_clear (hN : N[i]? = some x) (hv : SeeB sc x = true) (hbase : ∀ env, attributeBase (.Name x p) "clear" env (eval (.Name x p) env) = eval (.Name x p) env := by intros; rfl) (hline : (apos.endLine == pos.line) = true := by rfl)
    (hd : (x == ("__debug__" : Str)) = false := by decide) (hcd : (x == ("__classdict__" : Str)) = false := by decide) : DenE P w K mg base k N sc (.Call (.Attribute (.Name x p) "clear" apos) [] [] pos) (wClear i) := by
  refine ⟨tBM0 K "list" rClear (tVar i), fun X hX => by
    rw [← hX.eK]
    exact pe_bm0 PySem.F.plainAttrs_list PySem.F.slot_list_clear PySem.F.type_list_clear mt_clear (pe_nm hX hN hv hd hcd) (hbase X.env) hline, fun σ H G B env Q Qv c hw q => ?_⟩
  unfold wClear at hw
  split at hw
  case h_2 => exact hw.elim
  rename_i ds e0
  obtain ⟨p0, vs, a0, hp, t, m⟩ := c.mut e0
  refine ⟨_, a0, tyV_lst hp, p0, vs, rfl, rfl, hp, ?_⟩
  obtain ⟨c3, s3⟩ := m [] [] .nil
  exact q _ _ _ _ _ _ _ hw (Res.tr s3 c3.step0) (.data .non)
theorem dpa_last {vs : List V} {ds : List PyData} (h : DpAll K G vs ds) : DpAll K G vs.dropLast ds.dropLast := by
  rw [List.dropLast_eq_take, List.dropLast_eq_take, dpa_len h]
  exact dpa_take _ h
theorem den_pop (hN : N[i]? = some x) (hv : SeeB sc x = true) (hbase : ∀ env, attributeBase (.Name x p) "pop" env (eval (.Name x p) env) = eval (.Name x p) env := by intros; rfl) (hline : (apos.endLine == pos.line) = true := by rfl)
    (hd : (x == ("__debug__" : Str)) = false := by decide) (hcd : (x == ("__classdict__" : Str)) = false := by decide) : DenE P w K mg base k N sc (.Call (.Attribute (.Name x p) "pop" apos) [] [] pos) (wPop i) := by
  refine ⟨tBM0 K "list" rPop (tVar i), fun X hX => by
    rw [← hX.eK]
    exact pe_bm0 PySem.F.plainAttrs_list PySem.F.slot_list_pop PySem.F.type_list_pop mt_pop (pe_nm hX hN hv hd hcd) (hbase X.env) hline, fun σ H G B env Q Qv c hw q => ?_⟩
  unfold wPop at hw
  split at hw
  case h_2 => exact hw.elim
  rename_i ds e0
  split at hw
  case h_2 => exact hw.elim
  rename_i d ed
  obtain ⟨p0, vs, a0, hp, t, m⟩ := c.mut e0
  obtain ⟨v, ev, dv⟩ := dpa_get t ed
  refine ⟨_, a0, tyV_lst hp, p0, vs, v, rfl, rfl, hp, by rw [dpa_len t]; exact ev, ?_⟩
  obtain ⟨c3, s3⟩ := m vs.dropLast ds.dropLast (dpa_last t)
  exact q _ _ _ _ _ _ _ hw (Res.tr s3 c3.step0) (.data dv)
theorem den_popAt (hN : N[i]? = some x) (hv : SeeB sc x = true) (h : DenE P w K mg base k N sc e W) (hbase : ∀ env, attributeBase (.Name x p) "pop" env (eval (.Name x p) env) = eval (.Name x p) env := by intros; rfl)
    (hfew : ∀ env, ((backTo pos (starEach [e] env)).all (fun x => !x.1) && (backToKw pos (keywordEach [] env)).all (fun x => x.1.isSome) && decide (([e] : List Expr).length + ([] : List Keyword).length + (if ([] : List Keyword).isEmpty then 0 else 1) < 30)) = true := by intros; rfl)
    (hline : (apos.endLine == pos.line) = true := by rfl) (hs : ∀ env, starEach [e] env = (false, eval e env) :: starEach [] env := by intros; rfl) (hd : (x == ("__debug__" : Str)) = false := by decide) (hcd : (x == ("__classdict__" : Str)) = false := by decide) :
    DenE P w K mg base k N sc (.Call (.Attribute (.Name x p) "pop" apos) [e] [] pos) (wPopAt i W) := by
  obtain ⟨te, h1, h2⟩ := h
  refine ⟨tBM K "list" rPopAt (tVar i) (tCons te tNil), fun X hX => by
    rw [← hX.eK]
    exact pe_bm PySem.F.plainAttrs_list PySem.F.slot_list_pop PySem.F.type_list_pop mt_popAt (pe_nm hX hN hv hd hcd) (pa_cons (h1 X hX) pa_nil (hs X.env)) (hbase X.env) (hfew X.env) hline (hs X.env) rfl, fun σ H G B env Q Qv c hw q => ?_⟩
  unfold wPopAt at hw
  split at hw
  case h_2 => exact hw.elim
  rename_i ds0 e0
  obtain ⟨p0, vs0, a0, hp0, _, _⟩ := c.mut e0
  refine ⟨_, a0, tyV_lst hp0, ?_⟩
  refine h2 σ H G B env _ _ c hw fun v H1 G1 B1 C1 e1 dv hq r o => ?_
  split at hq
  case h_2 => exact hq.elim
  rename_i j ds e2
  split at hq
  case h_2 => exact hq.elim
  rename_i d ed
  obtain ⟨p1, vs, a1, hp, t, m⟩ := r.conc.mut e2
  rw [a0] at a1
  cases a1
  obtain ⟨u, eu, du⟩ := dpa_get t ed
  have hj : j.toNat < vs.length := (List.getElem?_eq_some_iff.mp eu).1
  obtain ⟨⟨j0, j1⟩, hq⟩ := hq
  have sx : seqIndex? j vs.length = some j.toNat := by rw [seqIndex_of j0 (by omega)]
  refine ⟨p0, vs, j, j.toNat, u, rfl, by rw [int_of o], hp, by omega, by omega, sx, eu, ?_⟩
  obtain ⟨c3, s3⟩ := m (vs.eraseIdx j.toNat) (ds.eraseIdx j.toNat) (dpa_erase _ t)
  exact q _ _ _ _ _ _ _ hq (Res.tr (r.drop.tr s3) c3.step0) (.data du)
theorem den_extend (hN : N[i]? = some x) (hv : SeeB sc x = true) (h : DenE P w K mg base k N sc e W) (hbase : ∀ env, attributeBase (.Name x p) "extend" env (eval (.Name x p) env) = eval (.Name x p) env := by intros; rfl)
    (hfew : ∀ env, ((backTo pos (starEach [e] env)).all (fun x => !x.1) && (backToKw pos (keywordEach [] env)).all (fun x => x.1.isSome) && decide (([e] : List Expr).length + ([] : List Keyword).length + (if ([] : List Keyword).isEmpty then 0 else 1) < 30)) = true := by intros; rfl)
    (hline : (apos.endLine == pos.line) = true := by rfl) (hs : ∀ env, starEach [e] env = (false, eval e env) :: starEach [] env := by intros; rfl) (hd : (x == ("__debug__" : Str)) = false := by decide) (hcd : (x == ("__classdict__" : Str)) = false := by decide) :
    DenE P w K mg base k N sc (.Call (.Attribute (.Name x p) "extend" apos) [e] [] pos) (wExtend i W) := by
  obtain ⟨te, h1, h2⟩ := h
  refine ⟨tBM K "list" rExtend (tVar i) (tCons te tNil), fun X hX => by
    rw [← hX.eK]
    exact pe_bm PySem.F.plainAttrs_list PySem.F.slot_list_extend PySem.F.type_list_extend mt_extend (pe_nm hX hN hv hd hcd) (pa_cons (h1 X hX) pa_nil (hs X.env)) (hbase X.env) (hfew X.env) hline (hs X.env) rfl, fun σ H G B env Q Qv c hw q => ?_⟩
  unfold wExtend at hw
  split at hw
  case h_2 => exact hw.elim
  rename_i ds0 e0
  obtain ⟨p0, vs0, a0, hp0, _, _⟩ := c.mut e0
  refine ⟨_, a0, tyV_lst hp0, ?_⟩
  refine h2 σ H G B env _ _ c hw fun v H1 G1 B1 C1 e1 dv hq r o => ?_
  split at hq
  case h_2 => exact hq.elim
  rename_i es ds e2
  obtain ⟨p1, vs, a1, hp, t, m⟩ := r.conc.mut e2
  rw [a0] at a1
  cases a1
  cases o with
  | @olist _ b us _ pc hb tu =>
    refine ⟨p0, b, vs, us, rfl, rfl, hp, hb, by rw [dpa_len t, dpa_len tu]; exact lim_le hq.1, ?_⟩
    obtain ⟨c3, s3⟩ := m (vs ++ us) (ds ++ es) (dpa_app t tu)
    exact q _ _ _ _ _ _ _ hq.2 (Res.tr (r.drop.tr s3) c3.step0) (.data .non)
end
end
end Kb
namespace Kb
open PySem PySem.Spec PyProof.Rows L2

/-! ### calls of the text's own defs -/
abbrev FS := List DV → (DV → List DV → Prop) → Prop
def sel {α : Type} : List Bool → List α → List α
  | true :: m, v :: vs => v :: sel m vs
  | false :: m, _ :: vs => sel m vs
  | _, _ => []
def isBor : AV → Bool
  | .bor _ => true
  | .val _ => false
def spOf (K : PySem.W.Frag) (mask : List Bool) (fs : FS) : Sp := fun vs H Q _ => vs.length = mask.length ∧ ∃ (G : Hp) (B : Addr → Prop) (dvs : List DV) (R : DV → List DV → Prop), Le G H ∧ Fr0 B G H ∧ OwnVs K G H B vs dvs ∧ fs dvs R ∧
  ∀ (v : V) (H' G' : Hp) (B' C : Addr → Prop) (r : DV) (ups : List DV), R r ups → Step H G B H' G' (fun a => B' a ∨ C a) → Le G' H' → Fr0 B' G' H' → Fr0 C G' H' → (∀ a, C a → ¬ B' a) → OwnV K G' H' C v r → OwnVs K G' H' B' (sel mask vs) ups → Q v H'
def takeA : List AV → Ev → Option (List DV × Ev)
  | [], env => some ([], env)
  | .val dv :: r, env => match takeA r env with
    | some (ds, e) => some (dv :: ds, e)
    | none => none
  | .bor i :: r, env => match env[i]? with
    | some (some dv) => (match takeA r (env.set i none) with
      | some (ds, e) => some (dv :: ds, e)
      | none => none)
    | _ => none
/-- what is lent comes back; what was lent of a passing value is dropped -/
def putA : List Bool → List AV → List DV → Ev → Option Ev
  | [], [], [], env => some env
  | false :: m, .val _ :: r, us, env => putA m r us env
  | true :: m, .val _ :: r, _ :: us, env => putA m r us env
  | true :: m, .bor i :: r, u :: us, env => match putA m r us env with
    | some e => some (e.set i (some u))
    | none => none
  | _, _, _, _ => none
/-- what is known of a callee -/
structure Cal (P : Program) (w : World) (K : PySem.W.Frag) (mg : Str → Option Value) (base : Heap) (k : Nat) (x : Str) (f : Addr) (fd : FuncData) (ps : List Str) (mask : List Bool) (fs : FS) : Prop where
  ok : FnG P w K mg base k f fd ps (spOf K mask fs)
  gl : mg x = some (.ref f)
  kp : PySem.W.keepIn K (.ref f) = true
  bd : Binds K fd ps []
section
variable {P : Program} {w : World} {K : PySem.W.Frag} {mg : Str → Option Value} {base : Heap} {k : Nat} {N : List Str} {sc : Scf} {pin : List Bool}
variable {H G H1 G1 H2 G2 H' G' : Hp} {B B1 B2 B' C C1 C2 : Addr → Prop} {σ : L2.St} {env env1 env2 env' : Ev}
variable {a b c e : Expr} {pos p : Pos} {A O : WO} {W W1 W2 : WE} {T T1 T2 : WT} {x : Str} {id : String}

theorem takeA_ok : ∀ {avs : List AV} {C B : Addr → Prop} {vs : List V} {env : Ev} {dvs : List DV} {env' : Ev}, OwnAs K G H σ C vs avs → OwnE K G H B σ env → (∀ a, C a → ¬ B a) → takeA avs env = some (dvs, env') →
    ∃ D B', OwnVs K G H D vs dvs ∧ OwnE K G H B' σ env' ∧ (∀ a, D a → C a ∨ B a) ∧ (∀ a, B' a → B a) ∧ ∀ a, D a → ¬ B' a
  | _, _, B, _, _, _, _, .nil, o, d, e => by
    cases e
    exact ⟨fun _ => False, B, .nil, o, fun _ z => z.elim, fun _ z => z, fun _ z => z.elim⟩
  | _, _, B, _, _, _, _, .val (C1 := C1) s1 s2 d1 h t, o, d, e => by
    unfold takeA at e
    split at e
    case h_2 => cases e
    rename_i ds e1 eq
    cases e
    obtain ⟨D, B', q1, q2, q3, q4, q5⟩ := takeA_ok t o (fun a z => d a (s2 a z)) eq
    refine ⟨fun a => C1 a ∨ D a, B', .cons (fun _ z => .inl z) (fun _ z => .inr z) (fun a z y => ?_) h q1, q2, fun a z => ?_, q4, fun a z y => ?_⟩
    · exact (q3 a y).elim (d1 a z) (d a (s1 a z))
    · exact z.elim (fun y => .inl (s1 a y)) fun y => (q3 a y).imp (s2 a) fun z => z
    · exact z.elim (fun u => d a (s1 a u) (q4 a y)) fun u => q5 a u y
  | _, C, B, _, _, _, _, .bor ev t, o, d, e => by
    unfold takeA at e
    split at e
    case h_2 => cases e
    rename_i dv e0
    split at e
    case h_2 => cases e
    rename_i ds e1 eq
    cases e
    obtain ⟨v, Cs, Bs, a0, h, q, c1, c2, c3⟩ := o.take e0
    rw [ev] at a0
    cases a0
    obtain ⟨D, B', q1, q2, q3, q4, q5⟩ := takeA_ok t q (fun a z y => d a z (c2 a y)) eq
    refine ⟨fun a => Cs a ∨ D a, B', .cons (fun _ z => .inl z) (fun _ z => .inr z) (fun a z y => ?_) h q1, q2, fun a z => ?_, fun a z => c2 a (q4 a z), fun a z y => ?_⟩
    · exact (q3 a y).elim (fun u => d a u (c1 a z)) (c3 a z)
    · exact z.elim (fun y => .inr (c1 a y)) fun y => (q3 a y).imp (fun z => z) (c2 a)
    · exact z.elim (fun u => c3 a u (q4 a y)) fun u => q5 a u y
theorem putA_ok : ∀ {m : List Bool} {avs : List AV} {C D B : Addr → Prop} {vs : List V} {ups : List DV} {env env' : Ev} {G0 H0 : Hp}, OwnAs K G0 H0 σ C vs avs → OwnVs K G H D (sel m vs) ups → OwnE K G H B σ env → (∀ a, D a → ¬ B a) → putA m avs ups env = some env' →
    ∃ B', OwnE K G H B' σ env' ∧ ∀ a, B' a → B a ∨ D a
  | [], _, _, D, B, _, [], _, _, _, _, .nil, q, o, d, e => by
    cases e
    exact ⟨B, o, fun _ z => .inl z⟩
  | [], _, _, D, B, _, _ :: _, _, _, _, _, .nil, q, o, d, e => by cases e
  | b :: _, _, _, D, B, _, _, _, _, _, _, .nil, q, o, d, e => by cases b <;> simp [putA] at e
  | [], _, _, D, B, _, _, _, _, _, _, .val s1 s2 d1 h t, q, o, d, e => by cases e
  | [], _, _, D, B, _, _, _, _, _, _, .bor ev t, q, o, d, e => by cases e
  | false :: m, _, _, D, B, _, ups, _, _, _, _, .val s1 s2 d1 h t, q, o, d, e => putA_ok (m := m) t q o d e
  | true :: m, _, _, D, B, _, [], _, _, _, _, .val s1 s2 d1 h t, q, o, d, e => by cases e
  | true :: m, _, _, D, B, _, u :: us, _, _, _, _, .val s1 s2 d1 h t, q, o, d, e => by
    cases q with
    | @cons _ D1 D2 _ _ _ _ s1 s2 d1 h q =>
      obtain ⟨B', q1, q2⟩ := putA_ok (m := m) t q o (fun a z => d a (s2 a z)) e
      exact ⟨B', q1, fun a z => (q2 a z).imp (fun y => y) (s2 a)⟩
  | false :: m, _, _, D, B, _, ups, _, _, _, _, .bor ev t, q, o, d, e => by cases e
  | true :: m, _, _, D, B, _, [], _, _, _, _, .bor ev t, q, o, d, e => by cases e
  | true :: m, _, _, D, B, _, u :: us, _, _, _, _, .bor (i := i) ev t, q, o, d, e => by
    unfold putA at e
    split at e
    case h_2 => cases e
    rename_i e1 eq
    cases e
    cases q with
    | @cons _ D1 D2 _ _ _ _ s1 s2 d1 h q =>
      obtain ⟨B', q1, q2⟩ := putA_ok (m := m) t q o (fun a z => d a (s2 a z)) eq
      have q3 := OwnE.put i q1 h fun a z y => (q2 a y).elim (d a (s1 a z)) (d1 a z)
      rw [set_self ev] at q3
      exact ⟨_, q3, fun a z => z.elim (fun y => (q2 a y).imp (fun z => z) (s2 a)) fun y => .inr (s1 a y)⟩
def wCall (mask : List Bool) (fs : FS) (AA : WA) : WE := fun env Q => AA env fun avs e => avs.length = mask.length ∧ match takeA avs e with
  | some (dvs, e1) => fs dvs fun r ups => match putA mask avs ups e1 with
    | some e2 => Q r e2
    | none => False
  | none => False
theorem ownAs_len : ∀ {C : Addr → Prop} {vs : List V} {avs : List AV}, OwnAs K G H σ C vs avs → vs.length = avs.length
  | _, _, _, .nil => rfl
  | _, _, _, .val _ _ _ _ t => by rw [List.length_cons, List.length_cons, ownAs_len t]
  | _, _, _, .bor _ t => by rw [List.length_cons, List.length_cons, ownAs_len t]
theorem snd_call {mask : List Bool} {fs : FS} {AA : WA} {ta : TA} {E : XK} (ha : SndA K ta AA) : SndE K (tCall (spOf K mask fs) [] E ta) (wCall mask fs AA) := by
  intro σ H G B env Q Qv c hw q
  refine ha σ H G B env _ _ c hw fun vs H1 G1 B1 C1 e1 avs hq r o => ?_
  rw [List.append_nil]
  obtain ⟨hm, hq⟩ := hq
  split at hq
  case h_2 => exact hq.elim
  rename_i dvs e2 et
  obtain ⟨D, B2, q1, q2, q3, q4, q5⟩ := takeA_ok o r.conc.own r.dis et
  have fD : Fr0 D G1 H1 := fun a z => (q3 a z).elim (r.frC a) (r.conc.fr a)
  have fB : Fr0 B2 G1 H1 := fun a z => r.conc.fr a (q4 a z)
  have dB : ∀ a, B2 a → ¬ D a := fun a z y => q5 a y z
  refine ⟨(ownAs_len o).trans hm, G1, D, dvs, _, r.conc.le, fD, q1, hq, fun v H' G' B' C' rr ups hr st le f1 f2 ds ov ou => ?_⟩
  split at hr
  case h_2 => exact hr.elim
  rename_i e3 ep
  -- what the caller owns beside
  have o2 : OwnE K G' H' B2 σ e2 := q2.mono st.g (fun a o z e => st.keep fB dB a o z e) fun _ z => z
  have f3 : Fr0 B2 G' H' := st.hold fB dB
  have d3 : ∀ a, B2 a → ¬ (B' a ∨ C' a) := st.dis fB dB
  obtain ⟨B3, o3, s3⟩ := putA_ok o ou o2 (fun a z y => d3 a y (.inl z)) ep
  have cc : Conc K H' G' B3 σ e3 := ⟨le, fun a z => (s3 a z).elim (f3 a) (f1 a), o3⟩
  refine q v H' G' B3 C' e3 rr hr ⟨cc, f2, fun a z y => (s3 a y).elim (fun u => d3 a u (.inr z)) (ds a z), ?_⟩ ov
  have s4 : Step H1 G1 (fun a => D a ∨ B2 a) H' G' (fun a => (B' a ∨ C' a) ∨ B2 a) := st.wide B2
  have s5 : Step H G B H1 G1 (fun a => D a ∨ B2 a) := r.step.less fun a z => z.elim (fun y => (q3 a y).elim .inr .inl) fun y => .inl (q4 a y)
  refine (s5.tr s4).less fun a z => ?_
  rcases z with z | z
  · exact (s3 a z).elim .inr fun u => .inl (.inl u)
  · exact .inl (.inr z)
theorem den_call {es : List Expr} {AA : WA} {j : Nat} {f : Addr} {fd : FuncData} {ps : List Str} {mask : List Bool} {fs : FS} (F : Cal P w K mg base j x f fd ps mask fs) (hj : j ≤ k) (hg : GloB sc x = true) (ha : DenA P w K mg base k N sc (e :: es) AA) (hdb : (x == ("__debug__" : Str)) = false := by decide)
    (hs : ∀ env, starEach (e :: es) env = (false, eval e env) :: starEach es env := by intros; rfl) (hpl : ∀ env, (backTo pos (starEach es env)).any (·.1) = false := by intros; rfl) : DenE P w K mg base k N sc (.Call (.Name x p) (e :: es) [] pos) (wCall mask fs AA) := by
  obtain ⟨ta, h1, h2⟩ := ha
  refine ⟨tCall (spOf K mask fs) [] E0 ta, fun X hX => ?_, snd_call h2⟩
  have F' : FnG X.prog X.w X.K X.mg X.base j f fd ps (spOf K mask fs) := by rw [hX.eP, hX.ew, hX.eK, hX.eg, hX.eb]; exact F.ok
  exact pe_callG F' (hX.room.mono hj) hX.gd (gl_of hX hg) (by rw [hX.eg]; exact F.gl) (by rw [hX.eK]; exact F.kp) (by rw [hX.eK]; exact F.bd) (h1 X hX) hdb (hs X.env) (hpl X.env)

/-- by names alone: ks the keywords in their order, ix the places of the parameters among them -/
def pick {α : Type} (d : α) (ix : List Nat) (l : List α) : List α := ix.map fun i => l.getD i d
def aPick (ix : List Nat) (AA : WA) : WA := fun env Q => AA env fun avs e => avs.length = ix.length ∧ Q (pick (.val (.data .none)) ix avs) e
/-- all arguments data: no more than that is wanted of a call by names -/
def wCallK (n : Nat) (ix : List Nat) (fs : FS) (AA : WA) : WE := fun env Q => AA env fun avs e => match dvsOf avs with
  | some dvs => (match allDat dvs with
    | some ds => ds.length = n ∧ fs ((pick .none ix ds).map .data) fun r _ => Q r e
    | none => False)
  | none => False
theorem vals_getD : ∀ {vs : List V} {us : List Value} (i : Nat), Vals vs us → RelV (vs.getD i .non) (us.getD i .none)
  | _, _, _, .nil => rfl
  | _, _, 0, .cons r _ => r
  | _, _, i + 1, .cons _ t => by simpa using vals_getD i t
theorem vals_pick {vs : List V} {us : List Value} (r : Vals vs us) : ∀ ix : List Nat, Vals (pick .non ix vs) (pick .none ix us)
  | [] => .nil
  | i :: ix => .cons (vals_getD i r) (vals_pick r ix)
theorem dpa_getD : ∀ {vs : List V} {ds : List PyData} (i : Nat), DpAll K G vs ds → Dp K G (vs.getD i .non) (ds.getD i .none)
  | _, _, _, .nil => .non
  | _, _, 0, .cons r _ => r
  | _, _, i + 1, .cons _ t => by simpa using dpa_getD i t
theorem dpa_pick {vs : List V} {ds : List PyData} (r : DpAll K G vs ds) : ∀ ix : List Nat, DpAll K G (pick .non ix vs) (pick .none ix ds)
  | [] => .nil
  | i :: ix => .cons (dpa_getD i r) (dpa_pick r ix)
theorem own_of_dat : ∀ {vs : List V} {ds : List PyData}, DpAll K G vs ds → OwnVs K G H (fun _ => False) vs (ds.map .data)
  | _, _, .nil => .nil
  | _, _, .cons h t => .cons (B1 := fun _ => False) (B2 := fun _ => False) (fun _ z => z) (fun _ z => z) (fun _ z => z.elim) (.data h) (own_of_dat t)
theorem sel_none : ∀ {vs : List V} (n : Nat), sel (List.replicate n false) vs = []
  | _, 0 => by cases ‹List V› <;> rfl
  | [], n + 1 => rfl
  | _ :: _, n + 1 => sel_none n
theorem args_of_keys {es : List Expr} {ta : TA} {X : Cx} {kws : List Keyword} (h : PK X kws ta) : True := trivial
theorem den_callK {kws : List Keyword} {AA : WA} {j n : Nat} {f : Addr} {fd : FuncData} {ps ks : List Str} {ix : List Nat} {fs : FS} (F : Cal P w K mg base j x f fd ps (List.replicate ps.length false) fs) (hj : j ≤ k) (hg : GloB sc x = true)
    (hb : ∀ (s : Shared) (ws : List Value), ws.length = n → BindsTo s fd ⟨[], ks.zip ws⟩ (ps.zip (pick .none ix ws))) (hix : ix.length = ps.length)
    (ha : ∃ ta, (∀ X, CxOk P w K mg base k N sc X → PK X kws ta) ∧ SndA K ta AA) (hdb : (x == ("__debug__" : Str)) = false := by decide)
    (hall : ∀ env, (backToKw pos (keywordEach kws env)).all (·.1.isSome) = true := by intros; rfl) (hks : ∀ env, (backToKw pos (keywordEach kws env)).filterMap (·.1) = ks := by intros; rfl)
    (hpl : ∀ env, ((backTo pos (starEach [] env)).any (·.1) || (backToKw pos (keywordEach kws env)).any (·.1.isNone)) = false := by intros; rfl) : DenE P w K mg base k N sc (.Call (.Name x p) [] kws pos) (wCallK n ix fs AA) := by
  obtain ⟨ta, h1, h2⟩ := ha
  refine ⟨fun σ H Q => ta σ H fun zs H1 => zs.length = n ∧ spOf K (List.replicate ps.length false) fs (pick .non ix zs) H1 Q E0, fun X hX => ?_, fun σ H G B env Q Qv c hw q => ?_⟩
  · have F' : FnG X.prog X.w X.K X.mg X.base j f fd ps (spOf K (List.replicate ps.length false) fs) := by rw [hX.eP, hX.ew, hX.eK, hX.eg, hX.eb]; exact F.ok
    constructor
    intro pins s σ H Q I h
    refine wpAny_Call_Name_kw (ld_glob I (gl_of hX hg) (show X.mg x = some (.ref f) by rw [hX.eg]; exact F.gl) ?_ hdb)
    refine PySem.W.callWith_KW0 (h₀ := X.base) I.ok.mod.kin (by rw [hX.eK]; exact F.kp) (hall X.env) (thn ((h1 X hX).run pos pins s σ H _ I h) fun ws s1 ⟨zs, H1, I1, rz, hl, q2⟩ => ⟨I1.kIn, ?_⟩) (hpl X.env)
    rw [hks X.env]
    exact run_g F' (hX.room.mono hj) hX.gd (hb s1 ws (by rw [← rz.length]; exact hl)) I1 (vals_pick rz ix) q2
  · refine h2 σ H G B env _ _ c hw fun vs H1 G1 B1 C1 e1 avs hq r o => ?_
    split at hq
    case h_2 => exact hq.elim
    rename_i dvs ed
    split at hq
    case h_2 => exact hq.elim
    rename_i ds ea
    have dp := allDat_ok (dvsOf_ok o ed) ea
    refine ⟨by rw [dpa_len dp]; exact hq.1, by unfold pick; rw [List.length_map, List.length_replicate]; exact hix, G1, fun _ => False, _, _, r.conc.le, fun _ z => z.elim, own_of_dat (dpa_pick dp ix), hq.2, fun v H' G' B' C' rr ups hr st le f1 f2 dis ov ou => ?_⟩
    have fB := r.conc.fr
    have o2 : OwnE K G' H' B1 σ e1 := r.conc.own.mono st.g (fun a o z e => st.keep fB (fun _ _ z => z.elim) a o z e) fun _ z => z
    have f3 : Fr0 B1 G' H' := st.hold fB fun _ _ z => z.elim
    have d3 : ∀ a, B1 a → ¬ (B' a ∨ C' a) := st.dis fB fun _ _ z => z.elim
    refine q v H' G' B1 C' e1 rr hr ⟨⟨le, f3, o2⟩, f2, fun a z y => d3 a y (.inr z), ?_⟩ ov
    have s1 : Step H G B H1 G1 (fun a => False ∨ B1 a) := r.drop.less fun a z => z.elim False.elim id
    exact s1.tr ((st.wide B1).less fun a z => z.elim .inr fun y => .inl (.inr y))
end
end Kb
namespace Kb
open PySem PySem.Spec PyProof.Rows L2 RZ
section
variable {P : Program} {w : World} {K : PySem.W.Frag} {mg : Str → Option Value} {base : Heap} {k : Nat} {N : List Str} {sc : Scf} {pin : List Bool}
variable {H G H1 G1 H2 G2 H' G' : Hp} {B B1 B2 B' C C1 C2 : Addr → Prop} {σ σ1 σ2 : L2.St} {env env1 env2 env' : Ev}
variable {a b c e tg : Expr} {pos p : Pos} {A O : WO} {W W1 W2 : WE} {T T1 T2 : WT} {x : Str} {id : String}

/-! ### what is gone through -/
structure ItOk (K : PySem.W.Frag) (J : It) (G : Hp) (ds : List PyData) : Prop where
  go : ∀ (H : Hp) (i : Nat), Le G H → i < ds.length → J.go i H
  stop : ∀ (H : Hp), Le G H → J.stop ds.length H
  yld : ∀ (H G1 H' : Hp) (i : Nat) (x : V), Le G G1 → Le G1 H → i < ds.length → J.yld i H x H' → ∃ (d : PyData) (G' : Hp), ds[i]? = some d ∧ Alloc H G1 H' G' (fun _ => False) ∧ Dp K G' x d
abbrev WI := Ev → (List PyData → Ev → Prop) → Prop
def SndI (K : PySem.W.Frag) (ti : TI) (W : WI) : Prop := ∀ (σ : L2.St) (H G : Hp) (B : Addr → Prop) (env : Ev) (Q : List PyData → Ev → Prop) (R : It → Hp → Prop), Conc K H G B σ env → W env Q →
  (∀ ds J H' G' B' env', Q ds env' → Conc K H' G' B' σ env' → Step H G B H' G' B' → ItOk K J G' ds → R J H') → ti σ H R
def DenI (P : Program) (w : World) (K : PySem.W.Frag) (mg : Str → Option Value) (base : Heap) (k : Nat) (N : List Str) (sc : Scf) (tg e : Expr) (W : WI) : Prop := ∃ ti, (∀ X, CxOk P w K mg base k N sc X → PI X tg e ti) ∧ SndI K ti W
/-- a list or a tuple -/
def iSeq (K : PySem.W.Frag) (tl : TE) : TI := fun σ H R => tl σ H fun x H1 => ∃ a, x = .ref a ∧ (((∃ xs, SqL K H1 a xs) ∧ R (Itl K a) H1) ∨ ((∃ xs, SqT K H1 a xs) ∧ R (Itt K a) H1))
theorem pi_seq {X : Cx} {l : Expr} {tl : TE} (hl : PE X l tl) : PI X tg l (iSeq X.K tl) := by
  constructor
  intro pins s σ H R I h
  refine thn (hl.run pins s σ H _ I h) ?_
  rintro v s1 ⟨y, H1, I1, r1, ad, rfl, q⟩
  cases r1
  have young : ∀ b ∈ [s1.heap.objs.size], FpOk X pins H1 b := fun b hb => by
    cases List.mem_singleton.mp hb
    exact I1.fpOk (Nat.le_refl _) I1.fresh
  have I2 : ∀ o : Obj, Inv X pins σ H1 { s1 with heap := s1.heap.push o } := fun o => I1.kept (t' := s1.toks) fun b u z => Heap.get?_push_of_some _ z
  rcases q with ⟨⟨xs, hq⟩, q⟩ | ⟨⟨xs, hq⟩, q⟩
  · obtain ⟨its, rv, pl, hz⟩ := I1.list hq
    exact wpAny_pyIter_list pl.isList ⟨s1.heap.objs.size, [s1.heap.objs.size], _, _, H1, rfl, I2 _, turn_list ad _, ⟨_, Heap.get?_push_size _ rfl, rfl, rfl⟩, young, q⟩
  · obtain ⟨its, rv, pl, hz⟩ := I1.tuple hq
    exact wpAny_pyIter_tuple (items := its.toArray) pl ⟨s1.heap.objs.size, [s1.heap.objs.size], _, _, H1, rfl, I2 _, turn_tuple ad _, ⟨_, Heap.get?_push_size _ rfl, rfl, rfl⟩, young, q⟩
theorem itl_ok {ad : Addr} {vs : List V} {ds : List PyData} (s : SqL K G ad vs) (t : DpAll K G vs ds) : ItOk K (Itl K ad) G ds where
  go := fun H i l hi => ⟨vs, vs[i]'(by rw [dpa_len t]; exact hi), sql_le l s, by simp⟩
  stop := fun H l => ⟨vs, sql_le l s, by rw [dpa_len t]; exact Nat.le_refl _⟩
  yld := fun H G1 H' i x l l1 hi y => by
    obtain ⟨e, f⟩ := y
    subst e
    obtain ⟨d, e1, e2⟩ := dpa_get' t (f vs (sql_le (l.tr l1) s))
    exact ⟨d, G1, e1, Alloc.refl l1, dp_le l e2⟩
theorem itt_ok {ad : Addr} {vs : List V} {ds : List PyData} (s : SqT K G ad vs) (t : DpAll K G vs ds) : ItOk K (Itt K ad) G ds where
  go := fun H i l hi => ⟨vs, vs[i]'(by rw [dpa_len t]; exact hi), sqt_le l s, by simp⟩
  stop := fun H l => ⟨vs, sqt_le l s, by rw [dpa_len t]; exact Nat.le_refl _⟩
  yld := fun H G1 H' i x l l1 hi y => by
    obtain ⟨e, f⟩ := y
    subst e
    obtain ⟨d, e1, e2⟩ := dpa_get' t (f vs (sqt_le (l.tr l1) s))
    exact ⟨d, G1, e1, Alloc.refl l1, dp_le l e2⟩
def seqD : PyData → Option (List PyData)
  | .list ds => some ds
  | .tuple ds => some ds
  | _ => none
def iVal (W : WE) : WI := fun env Q => W env fun dv e => match seqD dv.dat with
  | some ds => Q ds e
  | none => False
theorem deni_seq (h : DenE P w K mg base k N sc e W) : DenI P w K mg base k N sc tg e (iVal W) := by
  obtain ⟨te, h1, h2⟩ := h
  refine ⟨iSeq K te, fun X hX => by rw [← hX.eK]; exact pi_seq (h1 X hX), fun σ H G B env Q R c hw q => ?_⟩
  refine h2 σ H G B env _ _ c hw fun v H1 G1 B1 C1 e1 dv hq r o => ?_
  split at hq
  case h_2 => exact hq.elim
  rename_i ds es
  obtain ⟨r2, dp⟩ := r.freeze o (by cases dv with | odict k => cases es | sdict k => cases es | _ => rfl)
  revert dp
  generalize dv.dat = d at es
  intro dp
  cases dp with
  | lst s t => cases es; exact ⟨_, rfl, .inl ⟨⟨_, sql_le r2.conc.le s⟩, q _ _ _ _ _ _ hq r2.conc r2.drop (itl_ok s t)⟩⟩
  | tup s t => cases es; exact ⟨_, rfl, .inr ⟨⟨_, sqt_le r2.conc.le s⟩, q _ _ _ _ _ _ hq r2.conc r2.drop (itt_ok s t)⟩⟩
  | _ => cases es
/-- range(n), range(a, b) -/
def intsF (lo : Int) (n : Nat) : List PyData := (List.range n).map fun i => .int (lo + (i : Nat))
def iRg1 (W : WE) : WI := fun env Q => W env fun dv e => match dv with
  | .data (.int n) => (-1000000 ≤ n ∧ n ≤ 1000000) ∧ Q (intsD n.toNat) e
  | _ => False
def iRg2 (W U : WE) : WI := fun env Q => W env fun dv e => U e fun du e2 => match dv, du with
  | .data (.int m), .data (.int n) => (-1000000 ≤ m ∧ m ≤ 1000000 ∧ -1000000 ≤ n ∧ n ≤ 1000000) ∧ Q (intsF m (n - m).toNat) e2
  | _, _ => False
theorem itr_ok {lo : Int} {n : Nat} (l : Le G H) : ItOk K (Itr lo n) G (intsF lo n) where
  go := fun H i _ hi => by unfold intsF at hi; rw [List.length_map, List.length_range] at hi; exact hi
  stop := fun H _ => by show n ≤ _; unfold intsF; rw [List.length_map, List.length_range]; exact Nat.le_refl _
  yld := fun H G1 H' i x l l1 hi y => by
    obtain ⟨e, f⟩ := y
    subst e f
    unfold intsF at hi ⊢
    rw [List.length_map, List.length_range] at hi
    exact ⟨.int (lo + i), G1, by rw [List.getElem?_map, List.getElem?_range hi]; rfl, Alloc.refl l1, .int _⟩
theorem intsF0 (n : Nat) : intsF 0 n = intsD n := by
  unfold intsF intsD
  congr 1
  funext i
  rw [Int.zero_add]
theorem deni_range1 (hm : mg "range" = none) (hg : GloB sc "range" = true) (h : DenE P w K mg base k N sc e W) (hs : ∀ env, starEach [e] env = [(false, eval e env)] := by intros; rfl) : DenI P w K mg base k N sc tg (.Call (.Name "range" p) [e] [] pos) (iRg1 W) := by
  obtain ⟨te, h1, h2⟩ := h
  refine ⟨iRng1 (tCons te tNil), fun X hX => pi_range1 (gl_of hX hg) (by rw [hX.eg]; exact hm) (pa_cons (h1 X hX) pa_nil (hs X.env)) (hs X.env), fun σ H G B env Q R c hw q => ?_⟩
  refine h2 σ H G B env _ _ c hw fun v H1 G1 B1 C1 e1 dv hq r o => ?_
  split at hq
  case h_2 => exact hq.elim
  rename_i n
  refine ⟨n, by rw [int_of o], by omega, by omega, ?_⟩
  have it : ItOk K (Itr 0 n.toNat) G1 (intsD n.toNat) := by rw [← intsF0]; exact itr_ok r.conc.le
  exact q _ _ _ _ _ _ hq.2 r.conc r.drop it
theorem deni_range2 {u : Expr} {U : WE} (hm : mg "range" = none) (hg : GloB sc "range" = true) (h : DenE P w K mg base k N sc e W) (h' : DenE P w K mg base k N sc u U) (hs : ∀ env, starEach [e, u] env = [(false, eval e env), (false, eval u env)] := by intros; rfl) (hs2 : ∀ env, starEach [u] env = [(false, eval u env)] := by intros; rfl) :
    DenI P w K mg base k N sc tg (.Call (.Name "range" p) [e, u] [] pos) (iRg2 W U) := by
  obtain ⟨te, h1, h2⟩ := h
  obtain ⟨tu, h3, h4⟩ := h'
  refine ⟨iRng2 (tCons te (tCons tu tNil)), fun X hX => pi_range2 (gl_of hX hg) (by rw [hX.eg]; exact hm) (pa_cons (h1 X hX) (pa_cons (h3 X hX) pa_nil (hs2 X.env)) (by rw [hs X.env, hs2 X.env])) (hs X.env) (hs2 X.env), fun σ H G B env Q R c hw q => ?_⟩
  refine h2 σ H G B env _ _ c hw fun v H1 G1 B1 C1 e1 dv hq r o => ?_
  refine h4 σ H1 G1 B1 e1 _ _ r.conc hq fun v2 H2 G2 B2 C2 e2 du hq2 r2 o2 => ?_
  have o' := o.later r2.step r.frC r.dis
  split at hq2
  case h_2 => exact hq2.elim
  rename_i m n
  refine ⟨m, n, by rw [int_of o', int_of o2], by omega, ?_⟩
  exact q _ _ _ _ _ _ hq2.2 r2.conc (r.drop.tr r2.drop) (itr_ok r2.conc.le)
/-- enumerate(xs), xs a list -/
def enumD (ds : List PyData) : List PyData := (List.range ds.length).map fun i => .tuple [.int (i : Nat), ds.getD i .none]
def iEnu (W : WE) : WI := fun env Q => W env fun dv e => match dv.dat with
  | .list ds => Q (enumD ds) e
  | _ => False
theorem two_le : 2 ≤ sizeLine := by decide
theorem ite_ok {ad : Addr} {vs : List V} {ds : List PyData} (s : SqL K G ad vs) (t : DpAll K G vs ds) : ItOk K (Ite K ad) G (enumD ds) where
  go := fun H i l hi => by
    unfold enumD at hi
    rw [List.length_map, List.length_range] at hi
    exact ⟨vs, vs[i]'(by rw [dpa_len t]; exact hi), sql_le l s, by simp⟩
  stop := fun H l => by
    show ∃ xs : List V, _ ∧ xs.length ≤ _
    unfold enumD
    rw [List.length_map, List.length_range]
    exact ⟨vs, sql_le l s, by rw [dpa_len t]; exact Nat.le_refl _⟩
  yld := fun H G1 H' i x l l1 hi y => by
    obtain ⟨T, z, rfl, nT, rfl, f⟩ := y
    unfold enumD at hi
    rw [List.length_map, List.length_range] at hi
    obtain ⟨d, e1, e2⟩ := dpa_get' t (f vs (sql_le (l.tr l1) s))
    have al := Alloc.dat (o := .tup [.int (i : Nat), z]) l1 nT
    refine ⟨.tuple [.int (i : Nat), d], _, ?_, al, .tup (.inl (.inl upd_same)) (.cons (.int _) (.cons (dp_le (l.tr al.g) e2) .nil))⟩
    unfold enumD
    rw [List.getElem?_map, List.getElem?_range hi]
    have e3 : ds.getD i .none = d := by rw [List.getD_eq_getElem?_getD, e1]; rfl
    show some (PyData.tuple [PyData.int (i : Nat), ds.getD i .none]) = _
    rw [e3]
theorem deni_enum {elts : List Expr} {kk : Nat} {tpos : Pos} (hm : mg "enumerate" = none) (hg : GloB sc "enumerate" = true) (h : DenE P w K mg base k N sc e W) (hs : ∀ env, starEach [e] env = [(false, eval e env)] := by intros; rfl) :
    DenI P w K mg base k N sc (.Tuple elts kk tpos) (.Call (.Name "enumerate" p) [e] [] pos) (iEnu W) := by
  obtain ⟨te, h1, h2⟩ := h
  refine ⟨iEnum K (tCons te tNil), fun X hX => by rw [← hX.eK]; exact pi_enum (gl_of hX hg) (by rw [hX.eg]; exact hm) (pa_cons (h1 X hX) pa_nil (hs X.env)) (hs X.env), fun σ H G B env Q R c hw q => ?_⟩
  refine h2 σ H G B env _ _ c hw fun v H1 G1 B1 C1 e1 dv hq r o => ?_
  split at hq
  case h_2 => exact hq.elim
  rename_i ds es
  obtain ⟨r2, dp⟩ := r.freeze o (by cases dv with | odict k => cases es | sdict k => cases es | _ => rfl)
  rw [es] at dp
  cases dp with
  | lst s t => exact ⟨_, _, rfl, sql_le r2.conc.le s, q _ _ _ _ _ _ hq r2.conc r2.drop (ite_ok s t)⟩
/-- zip(xs, ys), two lists or two tuples -/
def zipD : List PyData → List PyData → List PyData
  | x :: xs, y :: ys => .tuple [x, y] :: zipD xs ys
  | _, _ => []
theorem zipD_len : ∀ xs ys : List PyData, (zipD xs ys).length = min xs.length ys.length
  | [], _ => by simp [zipD]
  | _ :: _, [] => by simp [zipD]
  | x :: xs, y :: ys => by
    show (zipD xs ys).length + 1 = min (xs.length + 1) (ys.length + 1)
    rw [zipD_len xs ys]
    omega
theorem zipD_get : ∀ {xs ys : List PyData} {i : Nat} {x y : PyData}, xs[i]? = some x → ys[i]? = some y → (zipD xs ys)[i]? = some (.tuple [x, y])
  | [], _, _, _, _, h, _ => by simp at h
  | _ :: _, [], _, _, _, _, h => by simp at h
  | a :: xs, b :: ys, 0, x, y, h, h' => by
    simp only [List.getElem?_cons_zero, Option.some.injEq] at h h'
    subst h h'
    rfl
  | a :: xs, b :: ys, i + 1, x, y, h, h' => by
    show (zipD xs ys)[i]? = _
    exact zipD_get (by simpa using h) (by simpa using h')
def iZp (W U : WE) : WI := fun env Q => W env fun dv e => U e fun du e2 => match dv.dat, du.dat with
  | .list ds, .list es => Q (zipD ds es) e2
  | .tuple ds, .tuple es => Q (zipD ds es) e2
  | _, _ => False
theorem itz_ok {a1 a2 : Addr} {vs us : List V} {ds es : List PyData} (s : SqL K G a1 vs) (t : DpAll K G vs ds) (s' : SqL K G a2 us) (t' : DpAll K G us es) : ItOk K (Itz K a1 a2) G (zipD ds es) where
  go := fun H i l hi => by
    rw [zipD_len] at hi
    exact ⟨vs, us, vs[i]'(by rw [dpa_len t]; omega), us[i]'(by rw [dpa_len t']; omega), sql_le l s, sql_le l s', by simp, by simp⟩
  stop := fun H l => by
    refine ⟨vs, us, sql_le l s, sql_le l s', ?_⟩
    rw [zipD_len, dpa_len t, dpa_len t']
    omega
  yld := fun H G1 H' i x l l1 hi y => by
    obtain ⟨T, z1, z2, rfl, nT, rfl, f, f'⟩ := y
    obtain ⟨d, e1, e2⟩ := dpa_get' t (f vs (sql_le (l.tr l1) s))
    obtain ⟨d', e1', e2'⟩ := dpa_get' t' (f' us (sql_le (l.tr l1) s'))
    have al := Alloc.dat (o := .tup [z1, z2]) l1 nT
    exact ⟨_, _, zipD_get e1 e1', al, .tup (.inl (.inl upd_same)) (.cons (dp_le (l.tr al.g) e2) (.cons (dp_le (l.tr al.g) e2') .nil))⟩
theorem itzT_ok {a1 a2 : Addr} {vs us : List V} {ds es : List PyData} (s : SqT K G a1 vs) (t : DpAll K G vs ds) (s' : SqT K G a2 us) (t' : DpAll K G us es) : ItOk K (ItzT K a1 a2) G (zipD ds es) where
  go := fun H i l hi => by
    rw [zipD_len] at hi
    exact ⟨vs, us, vs[i]'(by rw [dpa_len t]; omega), us[i]'(by rw [dpa_len t']; omega), sqt_le l s, sqt_le l s', by simp, by simp⟩
  stop := fun H l => by
    refine ⟨vs, us, sqt_le l s, sqt_le l s', ?_⟩
    rw [zipD_len, dpa_len t, dpa_len t']
    omega
  yld := fun H G1 H' i x l l1 hi y => by
    obtain ⟨T, z1, z2, rfl, nT, rfl, f, f'⟩ := y
    obtain ⟨d, e1, e2⟩ := dpa_get' t (f vs (sqt_le (l.tr l1) s))
    obtain ⟨d', e1', e2'⟩ := dpa_get' t' (f' us (sqt_le (l.tr l1) s'))
    have al := Alloc.dat (o := .tup [z1, z2]) l1 nT
    exact ⟨_, _, zipD_get e1 e1', al, .tup (.inl (.inl upd_same)) (.cons (dp_le (l.tr al.g) e2) (.cons (dp_le (l.tr al.g) e2') .nil))⟩
theorem deni_zip {u : Expr} {U : WE} {elts : List Expr} {kk : Nat} {tpos : Pos} (hm : mg "zip" = none) (hg : GloB sc "zip" = true) (h : DenE P w K mg base k N sc e W) (h' : DenE P w K mg base k N sc u U)
    (hs : ∀ env, starEach [e, u] env = (false, eval e env) :: starEach [u] env := by intros; rfl) (hs2 : ∀ env, starEach [u] env = (false, eval u env) :: starEach [] env := by intros; rfl) (hpl : ∀ env, (backTo pos (starEach [u] env)).any (·.1) = false := by intros; rfl) :
    DenI P w K mg base k N sc (.Tuple elts kk tpos) (.Call (.Name "zip" p) [e, u] [] pos) (iZp W U) := by
  obtain ⟨te, h1, h2⟩ := h
  obtain ⟨tu, h3, h4⟩ := h'
  refine ⟨iZipA K (tCons te (tCons tu tNil)), fun X hX => by rw [← hX.eK]; exact pi_zipA (gl_of hX hg) (by rw [hX.eg]; exact hm) (pa_cons (h1 X hX) (pa_cons (h3 X hX) pa_nil (hs2 X.env)) (hs X.env)) (hs X.env) (hpl X.env), fun σ H G B env Q R c hw q => ?_⟩
  refine h2 σ H G B env _ _ c hw fun v H1 G1 B1 C1 e1 dv hq r o => ?_
  refine h4 σ H1 G1 B1 e1 _ _ r.conc hq fun v2 H2 G2 B2 C2 e2 du hq2 r2 o2 => ?_
  obtain ⟨r3, d3⟩ := r.seq r2
  -- both frozen together
  have o1 := o.later r2.step r.frC r.dis
  have f1 := ice_le r3.frC
  have dp1 : dv.nd = true → Dp K (ice H2 G2 fun a => C1 a ∨ C2 a) v dv.dat := o1.freeze f1 fun a o z q => by rw [ice_in (Or.inl z)]; exact q
  have dp2 : du.nd = true → Dp K (ice H2 G2 fun a => C1 a ∨ C2 a) v2 du.dat := o2.freeze f1 fun a o z q => by rw [ice_in (Or.inr z)]; exact q
  have r4 : Res K H G B H2 (ice H2 G2 fun a => C1 a ∨ C2 a) B2 (fun _ => False) σ e2 := by
    refine ⟨⟨ice_le' r3.conc.le, fun a z => ?_, r3.conc.own.mono f1 (fun _ _ _ q => q) fun _ z => z⟩, fun _ z => z.elim, fun _ z => z.elim, r3.step.g.tr f1, fun a z => r3.step.own a (z.elim .inl False.elim), fun a z n => ?_, r3.step.th⟩
    · rw [ice_out fun y => r3.dis a y z]
      exact r3.conc.fr a z
    · obtain ⟨e1, e2⟩ := r3.step.fr a z n
      refine ⟨e1, ?_⟩
      rw [ice_out fun y => (r3.step.own a (.inr y)).elim n z]
      exact e2
  split at hq2
  · rename_i ds es x1 x2
    replace dp1 := dp1 (by cases dv with | odict k => cases x1 | sdict k => cases x1 | _ => rfl)
    replace dp2 := dp2 (by cases du with | odict k => cases x2 | sdict k => cases x2 | _ => rfl)
    rw [x1] at dp1
    rw [x2] at dp2
    cases dp1 with
    | lst s t =>
      cases dp2 with
      | lst s' t' => exact ⟨_, _, _, _, rfl, .inl ⟨sql_le r4.conc.le s, sql_le r4.conc.le s', q _ _ _ _ _ _ hq2 r4.conc r4.drop (itz_ok s t s' t')⟩⟩
  · rename_i ds es x1 x2
    replace dp1 := dp1 (by cases dv with | odict k => cases x1 | sdict k => cases x1 | _ => rfl)
    replace dp2 := dp2 (by cases du with | odict k => cases x2 | sdict k => cases x2 | _ => rfl)
    rw [x1] at dp1
    rw [x2] at dp2
    cases dp1 with
    | tup s t =>
      cases dp2 with
      | tup s' t' => exact ⟨_, _, _, _, rfl, .inr ⟨sqt_le r4.conc.le s, sqt_le r4.conc.le s', q _ _ _ _ _ _ hq2 r4.conc r4.drop (itzT_ok s t s' t')⟩⟩
  · exact hq2.elim
end
end Kb
namespace Kb
open PySem PySem.Spec PyProof.Rows L2
section
variable {P : Program} {w : World} {K : PySem.W.Frag} {mg : Str → Option Value} {base : Heap} {k : Nat} {N : List Str} {sc : Scf} {pin : List Bool}
variable {H G H1 G1 H2 G2 H' G' : Hp} {B B1 B2 B' C C1 C2 : Addr → Prop} {σ σ1 σ2 : L2.St} {env env1 env2 env' : Ev}
variable {a b c e tg : Expr} {pos p : Pos} {A O : WO} {W W1 W2 : WE} {T T1 T2 : WT} {x : Str} {id : String}

/-! ### targets -/
def free (pin : List Bool) (i : Nat) : Bool := match pin[i]? with
  | some true => false
  | _ => true
def gNm (i : Nat) : WG := fun dv env Q => Q (env.set i (some dv))
theorem pin_set {i : Nat} {v : Option V} (h : free pin i = true) : pinned pin σ (σ.set i v) := by
  refine ⟨List.length_set, fun j hj => ?_⟩
  have : i ≠ j := fun e => by
    subst e
    unfold free at h
    rw [hj] at h
    cases h
  rw [List.getElem?_set_ne this]
theorem pinned.refl : pinned pin σ σ := ⟨rfl, fun _ _ => rfl⟩
theorem pinned.tr (x : pinned pin σ σ1) (y : pinned pin σ1 σ2) : pinned pin σ σ2 := ⟨y.1.trans x.1, fun i h => (y.2 i h).trans (x.2 i h)⟩
theorem sndG_nm {i : Nat} (hp : free pin i = true) : SndG K pin (gName i) (gNm i) := by
  intro v dv σ H G B C env Q Qg c f d o hw q
  refine q _ (fun a => B a ∨ C a) _ hw ⟨c.le, c.fr.or f, OwnE.put i c.own o d⟩ (fun _ z => z) (pin_set hp)
theorem pg_nm {X : Cx} {i : Nat} (hX : CxOk P w K mg base k N sc X) (hN : N[i]? = some x) (hl : LocB sc x = true) : PG X (.Name x pos) (gName i) :=
  pg_name (by rw [hX.eN]; exact hX.nd) (by rw [hX.eN]; exact hN) (by rw [hX.es]; exact loc_of hl) (by rw [hX.es, hX.fn]; exact fn_of_loc hl)
theorem deng_nm {i : Nat} (hN : N[i]? = some x) (hl : LocB sc x = true) (hp : free pin i = true) : DenG P w K mg base k N sc pin (.Name x pos) (gNm i) :=
  ⟨_, fun X hX => pg_nm hX hN hl, sndG_nm hp⟩
/-- a, b = a pair of names (more likewise) -/
def parts : DV → Option (List DV)
  | .data (.tuple ds) => some (ds.map .data)
  | .otup dvs => some dvs
  | _ => none
def setAll : Ev → List Nat → List DV → Ev
  | env, i :: is, d :: ds => setAll (env.set i (some d)) is ds
  | env, _, _ => env
def gTp (is : List Nat) : WG := fun dv env Q => match parts dv with
  | some ds => ds.length = is.length ∧ Q (setAll env is ds)
  | none => False
def gNms : List Nat → TGs
  | [] => gNil
  | i :: is => gCons (gName i) (gNms is)
theorem gNms_run : ∀ (is : List Nat) (vs : List V) (dvs : List DV) {σ : L2.St} {B C : Addr → Prop} {env : Ev} {Qg : L2.St → Hp → Prop}, (∀ i ∈ is, free pin i = true) → dvs.length = is.length → Conc K H G B σ env → OwnVs K G H C vs dvs → Fr0 C G H → (∀ a, C a → ¬ B a) →
    (∀ σ' B', Conc K H G B' σ' (setAll env is dvs) → (∀ a, B' a → B a ∨ C a) → pinned pin σ σ' → Qg σ' H) → gNms is vs σ H Qg
  | [], vs, dvs, σ, B, C, env, Qg, _, hl, c, o, f, d, q => by
    cases o with
    | nil => exact ⟨rfl, q σ B c (fun _ z => .inl z) pinned.refl⟩
    | cons _ _ _ _ _ => cases hl
  | i :: is, vs, dvs, σ, B, C, env, Qg, hp, hl, c, o, f, d, q => by
    cases o with
    | nil => cases hl
    | @cons _ D1 D2 v dv vs dvs s1 s2 d1 h t =>
      refine ⟨v, vs, rfl, ?_⟩
      show gNms is vs (σ.set i (some v)) H Qg
      have c2 : Conc K H G (fun a => B a ∨ D1 a) (σ.set i (some v)) (env.set i (some dv)) := ⟨c.le, c.fr.or fun a z => f a (s1 a z), OwnE.put i c.own h fun a z => d a (s1 a z)⟩
      refine gNms_run is vs dvs (fun j hj => hp j (List.mem_cons_of_mem _ hj)) (by simpa using hl) c2 t (fun a z => f a (s2 a z)) (fun a z y => y.elim (d a (s2 a z)) fun u => d1 a u z) fun σ' B' c3 s3 p3 => ?_
      exact q σ' B' c3 (fun a z => (s3 a z).elim (fun y => y.imp (fun z => z) (s1 a)) fun y => .inr (s2 a y)) ((pin_set (hp i List.mem_cons_self)).tr p3)
theorem sndG_tp {is : List Nat} (hp : ∀ i ∈ is, free pin i = true) : SndG K pin (gTup K is.length (gNms is)) (gTp is) := by
  intro v dv σ H G B C env Q Qg c f d o hw q
  unfold gTp at hw
  split at hw
  case h_2 => exact hw.elim
  rename_i ds ep
  have two : ∃ t vs, v = .ref t ∧ SqT K H t vs ∧ OwnVs K G H C vs ds := by
    unfold parts at ep
    split at ep
    · cases ep
      cases o with
      | data h =>
        cases h with
        | tup s t => exact ⟨_, _, rfl, sqt_le c.le s, (own_of_dat t).mono Le.rfl' (fun _ _ _ z => z) fun _ z => z.elim⟩
    · cases ep
      cases o with
      | otup s t => exact ⟨_, _, rfl, sqt_le c.le s, t⟩
    · cases ep
  obtain ⟨t, vs, rfl, s, os⟩ := two
  refine ⟨t, vs, rfl, s, by rw [ownVs_len os]; exact hw.1, ?_⟩
  exact gNms_run is vs ds hp hw.1 c os f d fun σ' B' c3 s3 p3 => q σ' B' _ hw.2 c3 s3 p3
theorem deng_tp {es : List Expr} {kk : Nat} {is : List Nat} (hg : ∀ X, CxOk P w K mg base k N sc X → PGs X es (gNms is)) (hl : es.length = is.length) (hp : ∀ i ∈ is, free pin i = true) (hn : ∀ X, CxOk P w K mg base k N sc X → PGs X es (gNms is) → PG X (.Tuple es kk pos) (gTup X.K is.length (gNms is))) :
    DenG P w K mg base k N sc pin (.Tuple es kk pos) (gTp is) :=
  ⟨_, fun X hX => by rw [← hX.eK]; exact hn X hX (hg X hX), sndG_tp hp⟩

/-! ### statements -/
theorem EndsOk.step {DW : EndW} {D : Ends} (x : EndsOk K pin H G B σ DW D) (s : Step H G B H1 G1 B1) (pn : pinned pin σ σ1) : EndsOk K pin H1 G1 B1 σ1 DW D where
  nx := fun σ' H' G' B' env' h c t q => x.nx σ' H' G' B' env' h c (s.tr t) (pn.tr q)
  rt := fun v σ' H' G' B' C env' dv h r o q => x.rt v σ' H' G' B' C env' dv h (r.tr s) o (pn.tr q)
  bk := fun σ' H' G' B' env' h c t q => x.bk σ' H' G' B' env' h c (s.tr t) (pn.tr q)
  ct := fun σ' H' G' B' env' h c t q => x.ct σ' H' G' B' env' h c (s.tr t) (pn.tr q)
def sSeq (S U : WS) : WS := fun D env => S { D with nx := fun e => U D e } env
def sNil : WS := fun D env => D.nx env
variable {st : Stmt} {rest : List Stmt} {S U : WS}
theorem denb_nil : DenB P w K mg base k N sc pin [] sNil := ⟨_, fun X _ => pss_nil, fun σ H G B env D DW c hw q => q.nx σ H G B env hw c Step.refl pinned.refl⟩
theorem denb_one (h : DenS P w K mg base k N sc pin st S) : DenB P w K mg base k N sc pin [st] S := by
  obtain ⟨ts, h1, h2⟩ := h
  exact ⟨ts, fun X hX => pss_one (h1 X hX), h2⟩
theorem denb_cons (h : DenS P w K mg base k N sc pin st S) (h' : DenB P w K mg base k N sc pin rest U) : DenB P w K mg base k N sc pin (st :: rest) (sSeq S U) := by
  obtain ⟨ts, h1, h2⟩ := h
  obtain ⟨tr, h3, h4⟩ := h'
  refine ⟨_, fun X hX => pss_cons (h1 X hX) (h3 X hX), fun σ H G B env D DW c hw q => ?_⟩
  refine h2 σ H G B env _ _ c hw ⟨fun σ1 H1 G1 B1 e1 h c1 s1 p1 => ?_, q.rt, q.bk, q.ct⟩
  exact h4 σ1 H1 G1 B1 e1 D DW c1 h (q.step s1 p1)
def sAsg (W : WE) (g : WG) : WS := fun D env => W env fun dv e => g dv e D.nx
theorem snd_asg {te : TE} {g : TG} {Wg : WG} (h : SndE K te W) (hg : SndG K pin g Wg) : SndS K pin (tAsg te g) (sAsg W Wg) := by
  intro σ H G B env D DW c hw q
  refine h σ H G B env _ _ c hw fun v H1 G1 B1 C1 e1 dv hq r o => ?_
  refine hg v dv σ H1 G1 B1 C1 e1 _ _ r.conc r.frC r.dis o hq fun σ' B' env' hn c2 s2 p2 => ?_
  exact q.nx σ' H1 G1 B' env' hn c2 (r.step.less s2) p2
theorem dens_asg {Wg : WG} (h : DenE P w K mg base k N sc e W) (hg : DenG P w K mg base k N sc pin tg Wg) (hs : ∀ env, swapsWithSole [tg] e pos.line env = pure false := by intros; rfl) (hw : ∀ env, swappedStores [tg] e env = pure none := by intros; rfl)
    (hm : ∀ env, (assignEach [tg] env).map (·.2) = [assign tg env] := by intros; rfl) : DenS P w K mg base k N sc pin (.Assign [tg] e pos) (sAsg W Wg) := by
  obtain ⟨te, h1, h2⟩ := h
  obtain ⟨g, g1, g2⟩ := hg
  exact ⟨_, fun X hX => ps_asg (h1 X hX) (g1 X hX) (hs X.env) (hw X.env) (hm X.env), snd_asg h2 g2⟩
theorem dens_set {i : Nat} {pos' : Pos} (hN : N[i]? = some x) (hl : LocB sc x = true) (hp : free pin i = true) (h : DenE P w K mg base k N sc e W) (hs : ∀ env, swapsWith e (some (.Name x pos')) pos.line env = pure false := by intros; rfl) :
    DenS P w K mg base k N sc pin (.Assign [.Name x pos'] e pos) (sAsg W (gNm i)) := by
  obtain ⟨te, h1, h2⟩ := h
  exact ⟨_, fun X hX => ps_set (by rw [hX.eN]; exact hX.nd) (by rw [hX.eN]; exact hN) (by rw [hX.es]; exact loc_of hl) (h1 X hX) (hs X.env) (by rw [hX.es, hX.fn]; exact fn_of_loc hl), snd_asg h2 (sndG_nm hp)⟩
def sExpr (W : WE) : WS := fun D env => W env fun _ e => D.nx e
theorem dens_expr (h : DenE P w K mg base k N sc e W) (hs : ∀ env, swapsWith e none pos.line env = pure false := by intros; rfl) : DenS P w K mg base k N sc pin (.Expr e pos) (sExpr W) := by
  obtain ⟨te, h1, h2⟩ := h
  refine ⟨_, fun X hX => ps_expr (h1 X hX) (hs X.env), fun σ H G B env D DW c hw q => ?_⟩
  exact h2 σ H G B env _ _ c hw fun v H1 G1 B1 C1 e1 dv hq r o => q.nx σ H1 G1 B1 e1 hq r.conc r.drop pinned.refl
def sRet (W : WE) : WS := fun D env => W env fun dv e => D.rt dv e
theorem dens_ret (h : DenE P w K mg base k N sc e W) : DenS P w K mg base k N sc pin (.Return (some e) pos) (sRet W) := by
  obtain ⟨te, h1, h2⟩ := h
  refine ⟨_, fun X hX => ps_ret (h1 X hX), fun σ H G B env D DW c hw q => ?_⟩
  exact h2 σ H G B env _ _ c hw fun v H1 G1 B1 C1 e1 dv hq r o => q.rt v σ H1 G1 B1 C1 e1 dv hq r o pinned.refl
def sIf (T : WT) (S U : WS) : WS := fun D env => T env fun b e => if b = true then S D e else U D e
theorem dens_if {bs cs : List Stmt} (ht : DenT P w K mg base k N sc c T) (h : DenB P w K mg base k N sc pin bs S) (h' : DenB P w K mg base k N sc pin cs U) : DenS P w K mg base k N sc pin (.If c bs cs pos) (sIf T S U) := by
  obtain ⟨tt, t1, t2⟩ := ht
  obtain ⟨ts, h1, h2⟩ := h
  obtain ⟨tu, h3, h4⟩ := h'
  refine ⟨_, fun X hX => ps_if (t1 X hX) (h1 X hX) (h3 X hX), fun σ H G B env D DW c hw q => ?_⟩
  refine t2 σ H G B env _ _ c hw fun b H1 G1 B1 e1 hq c1 s1 => ?_
  cases b with
  | true => exact h2 σ H1 G1 B1 e1 D DW c1 hq (q.step s1 pinned.refl)
  | false => exact h4 σ H1 G1 B1 e1 D DW c1 hq (q.step s1 pinned.refl)
def sNever : WS := fun _ _ => False
theorem dens_never : DenS P w K mg base k N sc pin st sNever := ⟨_, fun X _ => ps_never, fun σ H G B env D DW c hw q => hw⟩
theorem denb_never {sts : List Stmt} : DenB P w K mg base k N sc pin sts sNever := ⟨_, fun X _ => pss_never, fun σ H G B env D DW c hw q => hw⟩
def sBreak : WS := fun D env => D.bk env
def sCont : WS := fun D env => D.ct env
theorem dens_break : DenS P w K mg base k N sc pin (.Break pos) sBreak := ⟨_, fun X _ => ps_break, fun σ H G B env D DW c hw q => q.bk σ H G B env hw c Step.refl pinned.refl⟩
theorem dens_cont : DenS P w K mg base k N sc pin (.Continue pos) sCont := ⟨_, fun X _ => ps_continue, fun σ H G B env D DW c hw q => q.ct σ H G B env hw c Step.refl pinned.refl⟩
theorem dens_pass : DenS P w K mg base k N sc pin (.Pass pos) sNil := ⟨_, fun X _ => ps_pass, fun σ H G B env D DW c hw q => q.nx σ H G B env hw c Step.refl pinned.refl⟩

/-! #### for -/
def forGo (g : WG) (S : WS) (D : EndW) : List PyData → Ev → Prop
  | [], env => D.nx env
  | d :: ds, env => g (.data d) env fun e => S { nx := forGo g S D ds, ct := forGo g S D ds, bk := D.nx, rt := D.rt } e
def sFor (I : WI) (g : WG) (S : WS) : WS := fun D env => I env fun ds e => forGo g S D ds e
theorem dens_for {iter : Expr} {body : List Stmt} {I : WI} {g : WG} (hi : DenI P w K mg base k N sc tg iter I) (hg : DenG P w K mg base k N sc pin tg g) (hb : DenB P w K mg base k N sc pin body S) (hs : ∀ env x, foldedSetIterable iter env x = pure x := by intros; rfl) :
    DenS P w K mg base k N sc pin (.For tg iter body [] pos) (sFor I g S) := by
  obtain ⟨ti, i1, i2⟩ := hi
  obtain ⟨tg', g1, g2⟩ := hg
  obtain ⟨tb, b1, b2⟩ := hb
  refine ⟨tFor ti tg' tb, fun X hX => ps_for (by rw [hX.xe]; exact PassesOwn.never) hX.calm (i1 X hX) (g1 X hX) (b1 X hX) (hs X.env), fun σ H G B env D DW c hw q => ?_⟩
  refine i2 σ H G B env _ _ c hw fun ds J H1 G1 B1 e1 hq c1 s1 it => ?_
  refine ⟨fun i m σ' H' => m = ds.length - i ∧ i ≤ ds.length ∧ ∃ G' B' env', forGo g S DW (ds.drop i) env' ∧ Conc K H' G' B' σ' env' ∧ Step H G B H' G' B' ∧ pinned pin σ σ' ∧ Le G1 G', ⟨ds.length, by simp, Nat.zero_le _, G1, B1, e1, hq, c1, s1, pinned.refl, Le.rfl'⟩, ?_⟩
  rintro i m σ' H' ⟨rfl, hi, G', B', env', hf, c', s', p', l'⟩
  by_cases hlt : i < ds.length
  · refine .inr ⟨it.go H' i (l'.tr c'.le) hlt, fun σ2 H2 => i + 1 ≤ ds.length ∧ ∃ G2 B2 env2, forGo g S DW (ds.drop (i + 1)) env2 ∧ Conc K H2 G2 B2 σ2 env2 ∧ Step H G B H2 G2 B2 ∧ pinned pin σ σ2 ∧ Le G1 G2, fun σ2 H2 ⟨h1, h2⟩ => ⟨ds.length - (i + 1), by omega, rfl, h1, h2⟩, fun x H2 hy => ?_⟩
    obtain ⟨d, G2, ed, al, dp⟩ := it.yld H' G' H2 i x l' c'.le hlt hy
    have r2 := al.res c'
    have hd : ds.drop i = d :: ds.drop (i + 1) := by
      rw [List.drop_eq_getElem_cons hlt]
      have : ds[i] = d := by
        rw [List.getElem?_eq_getElem hlt] at ed
        exact Option.some.inj ed
      rw [this]
    rw [hd] at hf
    have s2 := s'.tr r2.drop
    refine g2 x (.data d) σ' H2 G2 B' (fun _ => False) env' _ _ r2.conc (fun _ z => z.elim) (fun _ z => z.elim) (.data dp) hf fun σ3 B3 env3 hb3 c3 w3 p3 => ?_
    have s3 : Step H G B H2 G2 B3 := s2.less fun a z => (w3 a z).elim id False.elim
    have p03 := p'.tr p3
    have l3 : Le G1 G2 := l'.tr al.g
    refine b2 σ3 H2 G2 B3 env3 _ _ c3 hb3 ⟨fun σ4 H4 G4 B4 e4 h c4 s4 p4 => ?_, fun v σ4 H4 G4 B4 C4 e4 dv h r4 o4 p4 => ?_, fun σ4 H4 G4 B4 e4 h c4 s4 p4 => ?_, fun σ4 H4 G4 B4 e4 h c4 s4 p4 => ?_⟩
    · exact ⟨hlt, G4, B4, e4, h, c4, s3.tr s4, p03.tr p4, l3.tr s4.g⟩
    · exact q.rt v σ4 H4 G4 B4 C4 e4 dv h (r4.tr s3) o4 (p03.tr p4)
    · exact q.nx σ4 H4 G4 B4 e4 h c4 (s3.tr s4) (p03.tr p4)
    · exact ⟨hlt, G4, B4, e4, h, c4, s3.tr s4, p03.tr p4, l3.tr s4.g⟩
  · have e : i = ds.length := by omega
    subst e
    rw [List.drop_length] at hf
    exact .inl ⟨it.stop H' (l'.tr c'.le), q.nx σ' H' G' B' env' hf c' s' p'⟩

/-! #### items stored -/
/-- xs[j] = e -/
def sSetIx (i : Nat) (W WI : WE) : WS := fun D env => W env fun dv e => dv.nd = true ∧ match e[i]? with
  | some (some (.olist _)) => (WI e fun x e2 => match x, e2[i]? with
    | .data (.int j), some (some (.olist ds)) => (match ixN ds.length j with
      | some n => D.nx (e2.set i (some (.olist (ds.set n dv.dat))))
      | none => False)
    | _, _ => False)
  | _ => False
theorem dens_setIx {i : Nat} {ie : Expr} {pt : Pos} {WI' : WE} (hN : N[i]? = some x) (hv : SeeB sc x = true) (h : DenE P w K mg base k N sc e W) (hi : DenE P w K mg base k N sc ie WI')
    (hs : ∀ env, swapsWithSole [.Subscript (.Name x p) ie pt] e pos.line env = pure false := by intros; rfl) (hw : ∀ env, swappedStores [.Subscript (.Name x p) ie pt] e env = pure none := by intros; rfl)
    (hm : ∀ env, (assignEach [.Subscript (.Name x p) ie pt] env).map (·.2) = [assign (.Subscript (.Name x p) ie pt) env] := by intros; rfl)
    (hg : ∀ X to ti, PE X (.Name x p) to → PE X ie ti → PG X (.Subscript (.Name x p) ie pt) (gSub to ti rSetL) := by intro X to ti h1 h2; exact pg_sub h1 h2 set_list) (hd : (x == ("__debug__" : Str)) = false := by decide) (hcd : (x == ("__classdict__" : Str)) = false := by decide) :
    DenS P w K mg base k N sc pin (.Assign [.Subscript (.Name x p) ie pt] e pos) (sSetIx i W WI') := by
  obtain ⟨te, h1, h2⟩ := h
  obtain ⟨ti, i1, i2⟩ := hi
  refine ⟨tAsg te (gSub (tVar i) ti rSetL), fun X hX => ps_asg (h1 X hX) (hg X _ _ (pe_nm hX hN hv hd hcd) (i1 X hX)) (hs X.env) (hw X.env) (hm X.env), fun σ H G B env D DW c hw q => ?_⟩
  refine h2 σ H G B env _ _ c hw fun v H1 G1 B1 C1 e1 dv hq r o => ?_
  obtain ⟨hnd, hq⟩ := hq
  obtain ⟨r2, dp⟩ := r.freeze o hnd
  split at hq
  case h_2 => exact hq.elim
  rename_i ds0 e0
  obtain ⟨p0, vs0, a0, _⟩ := r2.conc.mut e0
  refine ⟨_, a0, ?_⟩
  refine i2 σ H1 _ B1 e1 _ _ r2.conc hq fun z H2 G2 B2 C2 e2 dz hq2 r3 o3 => ?_
  split at hq2
  case h_2 => exact hq2.elim
  rename_i j ds e3
  split at hq2
  case h_2 => exact hq2.elim
  rename_i n en
  obtain ⟨p1, vs, a1, hp, t, m⟩ := r3.conc.mut e3
  rw [a0] at a1
  cases a1
  refine ⟨p0, vs, j, n, rfl, int_of o3, hp, by rw [dpa_len t]; exact en, ?_⟩
  obtain ⟨c4, s4⟩ := m (vs.set n v) (ds.set n dv.dat) (dpa_set t (dp_le r3.step.g dp))
  exact q.nx σ _ _ _ _ hq2 c4 ((r2.drop.tr r3.drop).tr s4) pinned.refl
/-- xs[j] += e, -= e, of whole numbers -/
def sAugIx (g : Int → Int → Int) (i : Nat) (WI W : WE) : WS := fun D env => match env[i]? with
  | some (some (.olist _)) => (WI env fun x e1 => match x, e1[i]? with
    | .data (.int j), some (some (.olist ds)) => (match ds[j.toNat]? with
      | some (.int m) => 0 ≤ j ∧ j < 1000000 ∧ W e1 fun y e2 => (match y, e2[i]? with
        | .data (.int n), some (some (.olist es)) => j.toNat < es.length ∧ D.nx (e2.set i (some (.olist (es.set j.toNat (.int (g m n))))))
        | _, _ => False)
      | _ => False)
    | _, _ => False)
  | _ => False
def rGetL : V → V → Hp → VK → Prop := fun x y H Q => ∃ p xs j v, x = .ref p ∧ y = .int j ∧ H p = some (.lst xs) ∧ 0 ≤ j ∧ j < 1000000 ∧ xs[j.toNat]? = some v ∧ Q v H
theorem pget_list {X : Cx} : PGet X rGetL := by
  intro pins s σ H o i ov iv Q I ro ri h
  obtain ⟨p, xs, j, v, rfl, rfl, hp, j0, j1, hx, q⟩ := h
  cases ro
  obtain ⟨t, rfl⟩ := ri
  obtain ⟨its, rv, pl, hz⟩ := I.list (a := p) (xs := xs) (.inl (.inl hp))
  obtain ⟨u, eu, ru⟩ := rv.get hx
  exact wpAny_getItem_list (x := u) pl.isList j0 (by omega) (by simpa using eu) ⟨v, H, I, ru, q⟩
theorem dens_augIx {g : Int → Int → Int} {op : Operator} {i : Nat} {ie : Expr} {pt : Pos} {WI' : WE} (hop : ∀ X, PIp X op (ipI g)) (hN : N[i]? = some x) (hv : SeeB sc x = true) (hi : DenE P w K mg base k N sc ie WI') (h : DenE P w K mg base k N sc e W)
    (hst : ∀ X to ti te, PE X (.Name x p) to → PE X ie ti → PE X e te → PS X (.AugAssign (.Subscript (.Name x p) ie pt) op e pos) (tAugS to ti te rGetL (ipI g) rSetL)) (hd : (x == ("__debug__" : Str)) = false := by decide) (hcd : (x == ("__classdict__" : Str)) = false := by decide) :
    DenS P w K mg base k N sc pin (.AugAssign (.Subscript (.Name x p) ie pt) op e pos) (sAugIx g i WI' W) := by
  obtain ⟨te, h1, h2⟩ := h
  obtain ⟨ti, i1, i2⟩ := hi
  refine ⟨tAugS (tVar i) ti te rGetL (ipI g) rSetL, fun X hX => hst X _ _ _ (pe_nm hX hN hv hd hcd) (i1 X hX) (h1 X hX), fun σ H G B env D DW c hw q => ?_⟩
  unfold sAugIx at hw
  split at hw
  case h_2 => exact hw.elim
  rename_i ds0 e0
  obtain ⟨p0, vs0, a0, _⟩ := c.mut e0
  refine ⟨_, a0, ?_⟩
  refine i2 σ H G B env _ _ c hw fun z H1 G1 B1 C1 e1 dz hq r o => ?_
  split at hq
  case h_2 => exact hq.elim
  rename_i j ds e3
  split at hq
  case h_2 => exact hq.elim
  rename_i m ed
  obtain ⟨p1, vs, a1, hp, t, mm⟩ := r.conc.mut e3
  rw [a0] at a1
  cases a1
  obtain ⟨j0, j1, hq⟩ := hq
  obtain ⟨y, ey, dy⟩ := dpa_get t ed
  cases dy
  refine ⟨p0, vs, j, .int m, rfl, int_of o, hp, j0, j1, ey, ?_⟩
  refine h2 σ H1 G1 B1 e1 _ _ r.conc hq fun u H2 G2 B2 C2 e2 du hq2 r2 o2 => ?_
  split at hq2
  case h_2 => exact hq2.elim
  rename_i n es e4
  obtain ⟨p2, ws, a2, hp2, t2, m2⟩ := r2.conc.mut e4
  rw [a0] at a2
  cases a2
  refine ⟨m, n, rfl, int_of o2, p0, ws, j, j.toNat, rfl, int_of o, hp2, ?_, ?_⟩
  · unfold ixN
    rw [if_pos j0, if_pos (by have := hq2.1; rw [dpa_len t2]; omega)]
  · obtain ⟨c4, s4⟩ := m2 (ws.set j.toNat (.int (g m n))) (es.set j.toNat (.int (g m n))) (dpa_set t2 (.int _))
    exact q.nx σ _ _ _ _ hq2.2 c4 ((r.drop.tr r2.drop).tr s4) pinned.refl
end
end Kb
namespace Kb
open PySem PySem.Spec PyProof.Rows L2
section
variable {P : Program} {w : World} {K : PySem.W.Frag} {mg : Str → Option Value} {base : Heap} {k : Nat} {N : List Str} {sc : Scf} {pin : List Bool}
variable {H G H1 G1 H2 G2 H' G' : Hp} {B B1 B2 B' C C1 C2 : Addr → Prop} {σ σ1 σ2 : L2.St} {env env1 env2 env' : Ev}
variable {a b c e tg : Expr} {pos p : Pos} {A O : WO} {W W1 W2 : WE} {T T1 T2 : WT} {x : Str} {id : String}

/-! ### comprehensions -/
def kill : Ev → List Nat → Ev
  | env, [] => env
  | env, i :: is => (kill env is).set i none
def compGo (g : WG) (T : WT) (W : WE) (is : List Nat) (Q : List PyData → Ev → Prop) : List PyData → List PyData → Ev → Prop
  | [], acc, env => Q acc (kill env is)
  | d :: ds, acc, env => g (.data d) (kill env is) fun e1 => T e1 fun b e2 => if b = true then W e2 fun dv e3 => acc.length < lim ∧ dv.nd = true ∧ compGo g T W is Q ds (acc ++ [dv.dat]) e3 else compGo g T W is Q ds acc e2
/-- behind a comprehension a name of its own means again what it meant ahead of it, where that was data -/
def bring (env0 : Ev) : Ev → List Nat → Ev
  | env, [] => env
  | env, i :: is => match env0[i]? with
    | some (some (.data d)) => (bring env0 env is).set i (some (.data d))
    | _ => bring env0 env is
theorem conc_bring {env0 : Ev} (c : Conc K H G B σ env) (h : ∀ (i : Nat) (d : PyData), env0[i]? = some (some (.data d)) → ∃ v, σ[i]? = some (some v) ∧ Dp K G v d) : ∀ is : List Nat, Conc K H G B σ (bring env0 env is)
  | [] => c
  | i :: is => by
    unfold bring
    split
    · rename_i d e
      obtain ⟨v, e1, e2⟩ := h i d e
      exact (conc_bring c h is).putD e1 e2
    · exact conc_bring c h is
def wComp (I : WI) (g : WG) (T : WT) (W : WE) (is : List Nat) : WE := fun env Q => I env fun ds e => compGo g T W is (fun acc e2 => Q (.olist acc) (bring e e2 is)) ds [] e
def tYes' : WT := fun env Q => Q true env
/-- the tests of a comprehension: none, or one -/
def DenTs (P : Program) (w : World) (K : PySem.W.Frag) (mg : Str → Option Value) (base : Heap) (k : Nat) (N : List Str) (sc : Scf) (es : List Expr) (W : WT) : Prop := ∃ tt, (∀ X, CxOk P w K mg base k N sc X → PTs X es tt) ∧ SndT K tt W
theorem dents_nil : DenTs P w K mg base k N sc [] tYes' := ⟨_, fun X _ => pts_nil, fun σ H G B env Q Qv c hw q => q true H G B env hw c Step.refl⟩
theorem dents_one (h : DenT P w K mg base k N sc e T) : DenTs P w K mg base k N sc [e] T := by
  obtain ⟨tt, h1, h2⟩ := h
  exact ⟨tt, fun X hX => pts_one (h1 X hX), h2⟩
theorem ownE_kill (o : OwnE K G H B σ env) : ∀ is : List Nat, OwnE K G H B σ (kill env is)
  | [] => o
  | i :: is => (ownE_kill o is).kill i
theorem kill_live {i : Nat} {dv : DV} : ∀ {is : List Nat}, (kill env is)[i]? = some (some dv) → i ∉ is
  | [], h => by simp
  | j :: is, h => by
    unfold kill at h
    by_cases e : j = i
    · subst e
      by_cases hl : j < (kill env is).length
      · rw [List.getElem?_set_self hl] at h; cases h
      · rw [List.getElem?_eq_none (by simpa using hl)] at h; cases h
    · rw [List.getElem?_set_ne e] at h
      simp only [List.mem_cons, not_or]
      exact ⟨fun z => e z.symm, kill_live h⟩
theorem wipe_at {i : Nat} : ∀ {is : List Nat}, i ∉ is → (wipe σ is)[i]? = σ[i]?
  | [], _ => rfl
  | j :: is, h => by
    simp only [List.mem_cons, not_or] at h
    unfold wipe
    rw [List.getElem?_set_ne (Ne.symm h.1)]
    exact wipe_at h.2
theorem conc_kill {is : List Nat} (c : Conc K H G B σ env) : Conc K H G B (wipe σ is) (kill env is) :=
  ⟨c.le, c.fr, (ownE_kill c.own is).other (wipe_length σ is) fun i dv e => wipe_at (kill_live e)⟩
theorem conc_back {is : List Nat} (c : Conc K H G B (wipe σ is) (kill env is)) : Conc K H G B σ (kill env is) :=
  ⟨c.le, c.fr, c.own.other (wipe_length σ is).symm fun i dv e => (wipe_at (kill_live e)).symm⟩
theorem kill_set {dv : Option DV} : ∀ {is : List Nat} {i : Nat}, i ∈ is → kill (env.set i dv) is = kill env is
  | [], _, h => by simp at h
  | j :: is, i, h => by
    unfold kill
    by_cases e : i ∈ is
    · rw [kill_set e]
    · have hj : i = j := by
        simp only [List.mem_cons] at h
        exact h.elim id fun z => absurd z e
      subst hj
      have : ∀ {is : List Nat} {i : Nat} {dv : Option DV} {env : Ev}, i ∉ is → kill (env.set i dv) is = (kill env is).set i dv := by
        intro is
        induction is with
        | nil => intros; rfl
        | cons j is ih =>
          intro i dv env h
          simp only [List.mem_cons, not_or] at h
          unfold kill
          rw [ih h.2, List.set_comm _ _ h.1]
      rw [this e, List.set_set]
/-- a target's stores are wiped off -/
structure Wipes (g : TG) (is : List Nat) : Prop where
  own : ∀ (v : V) (σ : L2.St) (H : Hp) (Q : L2.St → Hp → Prop), g v σ H (fun σ2 H2 => wipe σ2 is = wipe σ is → Q σ2 H2) → g v σ H fun σ2 H2 => wipe σ2 is = wipe σ is ∧ Q σ2 H2
theorem wipe_set {v : Option V} : ∀ {is : List Nat} {i : Nat} {σ : L2.St}, i ∈ is → wipe (σ.set i v) is = wipe σ is
  | [], _, _, h => by simp at h
  | j :: is, i, σ, h => by
    unfold wipe
    by_cases e : i ∈ is
    · rw [wipe_set e]
    · have hj : i = j := by
        simp only [List.mem_cons] at h
        exact h.elim id fun z => absurd z e
      subst hj
      have : ∀ {is : List Nat} {i : Nat} {v : Option V} {σ : L2.St}, i ∉ is → wipe (σ.set i v) is = (wipe σ is).set i v := by
        intro is
        induction is with
        | nil => intros; rfl
        | cons j is ih =>
          intro i v σ h
          simp only [List.mem_cons, not_or] at h
          unfold wipe
          rw [ih h.2, List.set_comm _ _ h.1]
      rw [this e, List.set_set]
theorem wipes_nm {i : Nat} {is : List Nat} (h : i ∈ is) : Wipes (gName i) is := ⟨fun v σ H Q q => ⟨wipe_set h, q (wipe_set h)⟩⟩
theorem wipes_nms : ∀ {js is : List Nat}, (∀ j ∈ js, j ∈ is) → ∀ (vs : List V) (σ : L2.St) (H : Hp) (Q : L2.St → Hp → Prop), gNms js vs σ H (fun σ2 H2 => wipe σ2 is = wipe σ is → Q σ2 H2) → gNms js vs σ H fun σ2 H2 => wipe σ2 is = wipe σ is ∧ Q σ2 H2
  | [], is, _, vs, σ, H, Q, ⟨e, q⟩ => ⟨e, rfl, q rfl⟩
  | j :: js, is, h, vs, σ, H, Q, ⟨v, r, e, q⟩ => by
    refine ⟨v, r, e, ?_⟩
    have ws : wipe (σ.set j (some v)) is = wipe σ is := wipe_set (h j List.mem_cons_self)
    rw [← ws] at q ⊢
    exact wipes_nms (fun i hi => h i (List.mem_cons_of_mem _ hi)) r (σ.set j (some v)) H Q q
theorem wipes_tp {js is : List Nat} {n : Nat} (h : ∀ j ∈ js, j ∈ is) : Wipes (gTup K n (gNms js)) is :=
  ⟨fun v σ H Q ⟨a, xs, e, s, l, q⟩ => ⟨a, xs, e, s, l, wipes_nms h xs σ H Q q⟩⟩
theorem wipe_wipe : ∀ is : List Nat, wipe (wipe σ is) is = wipe σ is := by
  have out : ∀ (is : List Nat) (σ : L2.St) (i : Nat), i ∈ is → (wipe σ is)[i]? = if i < σ.length then some none else none := by
    intro is
    induction is with
    | nil => intro σ i h; simp at h
    | cons j is ih =>
      intro σ i h
      unfold wipe
      by_cases e : j = i
      · subst e
        by_cases hl : j < σ.length
        · rw [if_pos hl, List.getElem?_set_self (by rw [wipe_length]; exact hl)]
        · rw [if_neg hl, List.getElem?_eq_none (by rw [List.length_set, wipe_length]; omega)]
      · rw [List.getElem?_set_ne e]
        simp only [List.mem_cons] at h
        exact ih σ i (h.elim (fun z => absurd z.symm e) id)
  intro is
  apply List.ext_getElem?
  intro i
  by_cases h : i ∈ is
  · rw [out is _ i h, out is _ i h, wipe_length]
  · rw [wipe_at h]
/-- what a comprehension asks of its parts -/
structure CompOk (P : Program) (w : World) (K : PySem.W.Frag) (mg : Str → Option Value) (base : Heap) (k : Nat) (N : List Str) (scope : Scf) (tg elt : Expr) (ifs : List Expr) (own : List (Str × Nat)) (g : WG) (T : WT) (W : WE) : Prop where
  ex : ∃ (g' : TG) (tt : TT) (te : TE), (∀ X, CxOk P w K mg base k N scope X → PG X tg g') ∧ (∀ X, CxOk P w K mg base k N scope X → PTs X ifs tt) ∧ (∀ X, CxOk P w K mg base k N scope X → PE X elt te) ∧
    SndG K [] g' g ∧ SndT K tt T ∧ SndE K te W ∧ Wipes g' (own.map (·.2))
theorem snd_comp {ti : TI} {I : WI} {g' : TG} {g : WG} {tt : TT} {te : TE} {is : List Nat} (hi : SndI K ti I) (hg : SndG K [] g' g) (ht : SndT K tt T) (he : SndE K te W) (hw : Wipes g' is) : SndE K (tLc ti g' tt te is) (wComp I g T W is) := by
  intro σ H G B env Q Qv c hw' q
  refine hi σ H G B env _ _ c hw' fun ds J H1 G1 B1 e1 hq c1 s1 it => ?_
  intro D hD
  -- the list that grows stands at D, no part of the state
  have gD : G1 D = none := by
    cases e : G1 D with
    | none => rfl
    | some u => rw [c1.le D u e] at hD; cases hD
  have c0 : Conc K (upd H1 D (.lst [])) G1 B1 (wipe σ is) (kill e1 is) := by
    have r := (Alloc.own (o := .lst []) c1.le hD).res c1
    exact conc_kill r.conc
  let W0 : Nat → Hp → Prop := fun i H' => i ≤ ds.length ∧ ∃ G' B' env' acc us, compGo g T W is (fun acc e2 => Q (.olist acc) (bring e1 e2 is)) (ds.drop i) acc env' ∧ Conc K H' G' B' (wipe σ is) (kill env' is) ∧ H' D = some (.lst us) ∧ DpAll K G' us acc ∧ G' D = none ∧ ¬ B' D ∧
    (Le G1 G' ∧ (∀ a, B' a → B1 a ∨ H1 a = none) ∧ (∀ a, H1 a ≠ none → ¬ B1 a → H' a = H1 a ∧ G' a = G1 a) ∧ ∀ a, H1 a ≠ none → H' a ≠ none)
  refine ⟨fun i m H' => m = ds.length - i ∧ W0 i H', ⟨ds.length, by simp, Nat.zero_le _, G1, B1, e1, [], [], hq, c0, upd_same, .nil, gD, fun z => (c1.fr D z).2 hD, Le.rfl', fun _ z => .inl z, fun a z n => ⟨upd_ne fun y => by rw [y] at z; exact z hD, rfl⟩, fun a z => by rw [upd_ne fun y => by rw [y] at z; exact z hD]; exact z⟩, ?_⟩
  rintro i m H' ⟨rfl, hi', G', B', env', acc, us, hf, c', hDl, da, gD', nB, l', ow, fr, th⟩
  have hdn : H1 D = none := hD
  by_cases hlt : i < ds.length
  · refine .inr ⟨it.go H' i (l'.tr c'.le) hlt, W0 (i + 1), fun H2 h2 => ⟨ds.length - (i + 1), by omega, rfl, h2⟩, fun x H2 hy => ?_⟩
    obtain ⟨d, G2, ed, al, dp⟩ := it.yld H' G' H2 i x l' c'.le hlt hy
    have r2 := al.res c'
    have hd : ds.drop i = d :: ds.drop (i + 1) := by
      rw [List.drop_eq_getElem_cons hlt]
      have : ds[i] = d := by
        rw [List.getElem?_eq_getElem hlt] at ed
        exact Option.some.inj ed
      rw [this]
    rw [hd] at hf
    have s2 : Step H' G' B' H2 G2 B' := r2.drop
    -- D is untouched by what owns it not
    have keepD : ∀ {H3 G3 : Hp} {B3 : Addr → Prop}, Step H' G' B' H3 G3 B3 → H3 D = some (.lst us) ∧ G3 D = none ∧ ¬ B3 D := fun {H3 G3 B3} s3 => by
      have nn : H' D ≠ none := by rw [hDl]; exact fun q => nomatch q
      obtain ⟨e1, e2⟩ := s3.fr D nn nB
      exact ⟨e1.trans hDl, e2.trans gD', fun z => (s3.own D z).elim nB nn⟩
    have thru : ∀ {H3 G3 : Hp} {B3 : Addr → Prop}, Step H' G' B' H3 G3 B3 → (Le G1 G3 ∧ (∀ a, B3 a → B1 a ∨ H1 a = none) ∧ (∀ a, H1 a ≠ none → ¬ B1 a → H3 a = H1 a ∧ G3 a = G1 a) ∧ ∀ a, H1 a ≠ none → H3 a ≠ none) := fun {H3 G3 B3} s3 => by
      refine ⟨l'.tr s3.g, fun a z => (s3.own a z).elim (ow a) fun n => ?_, fun a z n => ?_, fun a z => s3.th a (th a z)⟩
      · by_cases h : H1 a = none
        · exact .inr h
        · exact absurd n (th a h)
      · obtain ⟨e1, e2⟩ := fr a z n
        have nb : ¬ B' a := fun y => (ow a y).elim n z
        obtain ⟨e3, e4⟩ := s3.fr a (th a z) nb
        exact ⟨e3.trans e1, e4.trans e2⟩
    have own := hw.own x (wipe σ is) H2 (fun σ2 H3 => tt σ2 H3 fun b H4 => if b = true then te σ2 H4 fun y H5 => ∃ acc, H5 D = some (.lst acc) ∧ acc.length < sizeLine ∧ W0 (i + 1) (upd H5 D (.lst (acc ++ [y]))) else W0 (i + 1) H4) ?_
    · rw [wipe_wipe] at own
      exact own
    refine hg x (.data d) (wipe σ is) H2 G2 B' (fun _ => False) (kill env' is) _ _ r2.conc (fun _ z => z.elim) (fun _ z => z.elim) (.data dp) hf fun σ3 B3 env3 hb3 c3 w3 p3 ws => ?_
    rw [wipe_wipe] at ws
    have s3 : Step H' G' B' H2 G2 B3 := s2.less fun a z => (w3 a z).elim id False.elim
    refine ht σ3 H2 G2 B3 env3 _ _ c3 hb3 fun b H4 G4 B4 e4 hq4 c4 s4 => ?_
    have s34 := s3.tr s4
    cases b with
    | false =>
      have c5 : Conc K H4 G4 B4 (wipe σ is) (kill e4 is) := by
        have := conc_kill (is := is) c4
        rw [ws] at this
        exact this
      obtain ⟨k1, k2, k3⟩ := keepD s34
      exact ⟨hlt, G4, B4, e4, acc, us, hq4, c5, k1, dpa_le s34.g da, k2, k3, thru s34⟩
    | true =>
      refine he σ3 H4 G4 B4 e4 _ _ c4 hq4 fun y H5 G5 B5 C5 e5 dv hq5 r5 o5 => ?_
      obtain ⟨r6, dp6⟩ := r5.freeze o5 hq5.2.1
      have s36 := s34.tr r6.drop
      obtain ⟨k1, k2, k3⟩ := keepD s36
      have c7 : Conc K H5 (ice H5 G5 C5) B5 (wipe σ is) (kill e5 is) := by
        have := conc_kill (is := is) r6.conc
        rw [ws] at this
        exact this
      have da' := dpa_le s36.g da
      refine ⟨us, k1, by rw [dpa_len da]; exact Nat.lt_of_lt_of_le hq5.1 (by decide), hlt, ice H5 G5 C5, B5, e5, acc ++ [dv.dat], us ++ [y], hq5.2.2, ⟨fun a o z => ?_, fun a z => ⟨(c7.fr a z).1, ?_⟩, c7.own.mono Le.rfl' (fun a o z w => ?_) fun _ z => z⟩, upd_same, dpa_app da' (.cons dp6 .nil), k2, k3, ?_⟩
      · rw [upd_ne fun w => by rw [w, k2] at z; cases z]
        exact c7.le a o z
      · by_cases w : a = D
        · rw [w, upd_same]; exact fun q => nomatch q
        · rw [upd_ne w]; exact (c7.fr a z).2
      · rw [upd_ne fun y => k3 (by rw [← y]; exact z)]
        exact w
      · obtain ⟨t1, t2, t3, t4⟩ := thru s36
        refine ⟨t1, t2, fun a z n => ?_, fun a z => ?_⟩
        · rw [upd_ne fun y => by rw [y] at z; exact z hD]
          exact t3 a z n
        · rw [upd_ne fun y => by rw [y] at z; exact z hD]
          exact t4 a z
  · have e : i = ds.length := by omega
    subst e
    rw [List.drop_length] at hf
    refine .inl ⟨it.stop H' (l'.tr c'.le), ?_⟩
    have cc : Conc K H' G' B' σ (bring e1 (kill env' is) is) := conc_bring (conc_back c') (fun i d e => by
      obtain ⟨v, e3, o⟩ := c1.own.look e
      cases o with
      | data h => exact ⟨v, e3, dp_le l' h⟩) is
    refine q (.ref D) H' G' B' (fun a => a = D) (bring e1 (kill env' is) is) (.olist acc) hf ⟨cc, fun a z => by subst z; exact ⟨gD', by rw [hDl]; exact fun q => nomatch q⟩, fun a z => by subst z; exact nB, ?_⟩ (.olist rfl hDl da)
    refine s1.tr ⟨l', fun a z => z.elim (ow a) fun y => by subst y; exact .inr hdn, fr, th⟩
/-- a comprehension's block is a context -/
def scB (scope : Scope) (sc : Scf) : Scf where
  sc := { scope with names := scope.names.map fun (n, kd) => if (kd == NameKind.free && sc.sc.kind == .function && sc.sc.names.lookup n == some .cell) then (n, NameKind.cell) else (n, kd) }
  fn := fun x => scope.names.lookup x == some .cell
theorem blk_ok {X : Cx} {scope : Scope} (hX : CxOk P w K mg base k N sc X) (hk : scope.kind = .function) (s : Shared) (H : Hp) (Cc : Addr) (cl : List (Str × Addr)) (fp : List Addr) : CxOk P w K mg base k N (scB scope sc) (X.blk s H scope (compEnvC scope cl Cc X.env) fp) where
  eP := hX.eP
  ew := hX.ew
  eK := hX.eK
  eg := hX.eg
  eb := hX.eb
  eN := hX.eN
  es := by
    show relabel scope X.env = _
    unfold relabel scB
    rw [← hX.es]
    rfl
  calm := hX.calm
  room := hX.room
  gd := hX.gd
  nd := hX.nd
  kd := hk
  fn := rfl
  xe := rfl
variable {elt iter : Expr} {ifs : List Expr} {scope : Scope} {own : List (Str × Nat)} {I : WI} {g : WG}
theorem den_comp (hk : scope.kind = .function) (ok : blkC N sc.sc scope own = true) (hi : DenI P w K mg base k N sc tg iter I) (hc : CompOk P w K mg base k N (scB scope sc) tg elt ifs own g T W) (hs : ∀ env x, foldedSetIterable iter env x = pure x := by intros; rfl) :
    DenE P w K mg base k N sc (.ListComp elt [⟨tg, iter, ifs, 0⟩] scope pos) (wComp I g T W (own.map (·.2))) := by
  obtain ⟨ti, i1, i2⟩ := hi
  obtain ⟨g', tt, te, g1, t1, e1, g2, t2, e2, hw⟩ := hc.ex
  refine ⟨tLc ti g' tt te (own.map (·.2)), fun X hX => ?_, snd_comp i2 g2 t2 e2 hw⟩
  exact pe_lc hX.calm (by rw [hX.eN]; exact hX.nd) (i1 X hX) (blkOk_by (by rw [hX.eN, hX.es]; exact ok)) (fun s H Cc cl fp => g1 _ (blk_ok hX hk s H Cc cl fp)) (fun s H Cc cl fp => t1 _ (blk_ok hX hk s H Cc cl fp)) (fun s H Cc cl fp => e1 _ (blk_ok hX hk s H Cc cl fp)) (hs X.env)
theorem dens_setComp {i : Nat} {py spos : Pos} (hk : scope.kind = .function) (ok : blkC N sc.sc scope own = true) (hy : N[i]? = some x) (hyl : sc.sc.names.lookup x = some .local) (hp : free pin i = true) (hl : (py.line == pos.line) = true) (hsk : sc.sc.kind = .function)
    (hnot : (scope.names.any fun (n, k) => n == x && (k == .local || k == .cell)) = false) (hi : DenI P w K mg base k N sc tg iter I) (hc : CompOk P w K mg base k N (scB scope sc) tg elt ifs own g T W) (hs : ∀ env x, foldedSetIterable iter env x = pure x := by intros; rfl) :
    DenS P w K mg base k N sc pin (.Assign [.Name x py] (.ListComp elt [⟨tg, iter, ifs, 0⟩] scope pos) spos) (sAsg (wComp I g T W (own.map (·.2))) (gNm i)) := by
  obtain ⟨ti, i1, i2⟩ := hi
  obtain ⟨g', tt, te, g1, t1, e1, g2, t2, e2, hw⟩ := hc.ex
  refine ⟨tAsg (tLc ti g' tt te (own.map (·.2))) (gName i), fun X hX => ?_, snd_asg (snd_comp i2 g2 t2 e2 hw) (sndG_nm hp)⟩
  refine ps_setLc hX.calm (by rw [hX.eN]; exact hX.nd) (by rw [hX.eN]; exact hy) (by rw [hX.es]; exact hyl) (sw_true (by rw [hX.es]; exact hsk) (by rw [hX.es]; exact hyl) hl hnot) (i1 X hX) (blkOk_by (by rw [hX.eN, hX.es]; exact ok)) (fun s H Cc cl fp => g1 _ (blk_ok hX hk s H Cc cl fp)) (fun s H Cc cl fp => t1 _ (blk_ok hX hk s H Cc cl fp)) (fun s H Cc cl fp => e1 _ (blk_ok hX hk s H Cc cl fp)) (hs X.env)
variable {bsc : Scf}
theorem comp_nm {y : Str} {i : Nat} {ty : Pos} (hN : N[i]? = some y) (hl : LocB bsc y = true) (hin : i ∈ own.map (·.2)) (ht : DenTs P w K mg base k N bsc ifs T) (he : DenE P w K mg base k N bsc elt W) : CompOk P w K mg base k N bsc (.Name y ty) elt ifs own (gNm i) T W := by
  obtain ⟨tt, t1, t2⟩ := ht
  obtain ⟨te, e1, e2⟩ := he
  exact ⟨_, tt, te, fun X hX => pg_nm hX hN hl, t1, e1, sndG_nm rfl, t2, e2, wipes_nm hin⟩
theorem comp_tp {es : List Expr} {kk : Nat} {js : List Nat} {ty : Pos} (hg : ∀ X, CxOk P w K mg base k N bsc X → PG X (.Tuple es kk ty) (gTup X.K js.length (gNms js))) (hin : ∀ j ∈ js, j ∈ own.map (·.2)) (ht : DenTs P w K mg base k N bsc ifs T) (he : DenE P w K mg base k N bsc elt W) :
    CompOk P w K mg base k N bsc (.Tuple es kk ty) elt ifs own (gTp js) T W := by
  obtain ⟨tt, t1, t2⟩ := ht
  obtain ⟨te, e1, e2⟩ := he
  exact ⟨gTup K js.length (gNms js), tt, te, fun X hX => by rw [← hX.eK]; exact hg X hX, t1, e1, sndG_tp fun _ _ => rfl, t2, e2, wipes_tp hin⟩
/-- a tuple of names as a target -/
theorem pgs_nm0 {X : Cx} : PGs X [] (gNms []) := pgs_nil
theorem pgs_nm1 {X : Cx} {i : Nat} {is : List Nat} {y : Str} {ty : Pos} {es : List Expr} (hX : CxOk P w K mg base k N sc X) (hN : N[i]? = some y) (hl : LocB sc y = true) (h : PGs X es (gNms is)) : PGs X (.Name y ty :: es) (gNms (i :: is)) := pgs_cons (pg_nm hX hN hl) h

/-! ### keywords' values -/
theorem denk_nil : ∃ ta, (∀ X, CxOk P w K mg base k N sc X → PK X [] ta) ∧ SndA K ta aNil := ⟨_, fun X _ => pk_nil, fun σ H G B env Q Qv c hw q => q [] H G B _ env [] hw c.step0 .nil⟩
theorem denk_cons {nm : Option Str} {kpos : Pos} {kws : List Keyword} {AA : WA} (h : DenE P w K mg base k N sc e W) (ha : ∃ ta, (∀ X, CxOk P w K mg base k N sc X → PK X kws ta) ∧ SndA K ta AA) : ∃ ta, (∀ X, CxOk P w K mg base k N sc X → PK X (⟨nm, e, kpos⟩ :: kws) ta) ∧ SndA K ta (aCons W AA) := by
  obtain ⟨te, h1, h2⟩ := h
  obtain ⟨ta, h3, h4⟩ := ha
  refine ⟨tCons te ta, fun X hX => pk_cons (h1 X hX) (h3 X hX), fun σ H G B env Q Qv c hw q => ?_⟩
  refine h2 σ H G B env _ _ c hw fun v H1 G1 B1 C1 e1 dv hq r o => ?_
  refine h4 σ H1 G1 B1 e1 _ _ r.conc hq fun vs H2 G2 B2 C2 e2 avs hq2 r2 o2 => ?_
  obtain ⟨r3, d3⟩ := r.seq r2
  exact q _ H2 G2 B2 _ e2 _ hq2 r3 (.val (fun _ z => .inl z) (fun _ z => .inr z) d3 (o.later r2.step r.frC r.dis) o2)

/-! ### a def -/
def selO : List Bool → Ev → Option (List DV)
  | [], _ => some []
  | true :: m, some d :: e => match selO m e with
    | some l => some (d :: l)
    | none => none
  | false :: m, _ :: e => selO m e
  | _, _ => none
def initE (n : Nat) (dvs : List DV) : Ev := dvs.map some ++ List.replicate (n - dvs.length) none
def endsOf (mask : List Bool) (R : DV → List DV → Prop) : EndW where
  nx := fun e => match selO mask e with
    | some ups => R (.data .none) ups
    | none => False
  rt := fun r e => match selO mask e with
    | some ups => R r ups
    | none => False
theorem selO_ok : ∀ {m : List Bool} {B : Addr → Prop} {σ : L2.St} {env : Ev} {vs : List V} {ups : List DV}, OwnE K G H B σ env → vs.length = m.length → (∀ (i : Nat), m[i]? = some true → σ[i]? = (vs.map some)[i]?) → selO m env = some ups → OwnVs K G H B (sel m vs) ups
  | [], _, _, _, vs, _, _, _, _, e => by
    cases e
    cases vs <;> exact .nil
  | true :: m, _, _, _, [], _, o, l, _, e => by cases l
  | false :: m, _, _, _, [], _, o, l, _, e => by cases l
  | true :: m, _, _, _, v :: vs, _, .nil, l, f, e => by cases e
  | false :: m, _, _, _, v :: vs, _, .nil, l, f, e => by cases e
  | true :: m, _, _, _, v :: vs, _, .dead t, l, f, e => by cases e
  | true :: m, _, _, _, v :: vs, _, .live (dv := dv) s1 s2 d h t, l, f, e => by
    unfold selO at e
    split at e
    case h_2 => cases e
    rename_i l2 e2
    cases e
    have e0 := f 0 rfl
    simp only [List.getElem?_cons_zero, List.map_cons, Option.some.injEq] at e0
    subst e0
    exact .cons s1 s2 d h (selO_ok t (by simpa using l) (fun i hi => by simpa using f (i + 1) (by simpa using hi)) e2)
  | false :: m, _, _, none :: _, v :: vs, _, .dead t, l, f, e => selO_ok (m := m) t (by simpa using l) (fun i hi => by simpa using f (i + 1) (by simpa using hi)) e
  | false :: m, _, _, _, v :: vs, _, .live s1 s2 d h t, l, f, e => (selO_ok (m := m) t (by simpa using l) (fun i hi => by simpa using f (i + 1) (by simpa using hi)) e).mono Le.rfl' (fun _ _ _ z => z) s2
theorem own_start : ∀ {B : Addr → Prop} {vs : List V} {dvs : List DV} (n : Nat), OwnVs K G H B vs dvs → OwnE K G H B (vs.map some ++ List.replicate n none) (dvs.map some ++ List.replicate n none)
  | B, _, _, 0, .nil => .nil
  | B, _, _, n + 1, .nil => .dead (own_start n .nil)
  | B, _, _, n, .cons s1 s2 d h t => .live s1 s2 d h (own_start n t)
theorem def_ok {xq qual : Str} {st : Stmt} {f : Addr} {fd : FuncData} {ps : List Str} {mask : List Bool} {fs : FS} {S : WS} (F : Fun K xq qual st f fd) (Sc : FnScope N ps (defScope st)) (hmask : mask.length = ps.length)
    (D : DenB P w K mg base k N ⟨defScope st, fun _ => true⟩ mask (defBody st) S) (hfs : ∀ dvs R, dvs.length = mask.length → fs dvs R → S (endsOf mask R) (initE N.length dvs)) : FnG P w K mg base (k + 1) f fd ps (spOf K mask fs) := by
  obtain ⟨ts, d1, d2⟩ := D
  refine fn_g F Sc (fun vs H Q E h => h.1.trans hmask) fun cdv A outer s H vs Q E hr hgu hsp => ⟨ts, d1 _ ⟨rfl, rfl, rfl, rfl, rfl, rfl, rfl, rfl, hr, deeper_guards _ _ hgu, Sc.nd, Sc.kind, rfl, rfl⟩, ?_⟩
  obtain ⟨hl, G, B, dvs, R, l, fr, o, hf, fin⟩ := hsp
  have hld : dvs.length = mask.length := by rw [← ownVs_len o]; exact hl
  have c : Conc K H G B (L2.start N vs) (initE N.length dvs) := by
    refine ⟨l, fr, ?_⟩
    unfold L2.start initE
    rw [hl, hld]
    exact own_start _ o
  have pins : ∀ {σ' : L2.St}, pinned mask (L2.start N vs) σ' → ∀ i, mask[i]? = some true → σ'[i]? = (vs.map some)[i]? := fun {σ'} p i hi => by
    have hlt : i < mask.length := (List.getElem?_eq_some_iff.mp hi).1
    rw [p.2 i hi]
    unfold L2.start
    rw [List.getElem?_append_left (by rw [List.length_map, hl]; exact hlt)]
  refine d2 _ H G B _ _ _ c (hfs dvs R hld hf) ⟨fun σ' H' G' B' env' h c' s' p' => ?_, fun v σ' H' G' B' C env' dv h r' o' p' => ?_, fun _ _ _ _ _ h _ _ _ => h.elim, fun _ _ _ _ _ h _ _ _ => h.elim⟩
  · unfold endsOf at h
    simp only at h
    split at h
    case h_2 => exact h.elim
    rename_i ups eu
    exact fin .non H' G' B' (fun _ => False) _ ups h (s'.less fun a z => z.elim id False.elim) c'.le c'.fr (fun _ z => z.elim) (fun _ z => z.elim) (.data .non) (selO_ok c'.own hl (pins p') eu)
  · unfold endsOf at h
    simp only at h
    split at h
    case h_2 => exact h.elim
    rename_i ups eu
    exact fin v H' G' B' C dv ups h r'.step r'.conc.le r'.conc.fr r'.frC r'.dis o' (selO_ok r'.conc.own hl (pins p') eu)
end
end Kb
namespace Kb
open PySem PySem.Spec PyProof.Rows L2
/-- the law is called: from its def's promise -/
theorem law_go {P : Program} {w : World} {K : PySem.W.Frag} {mg mb : Str → Option Value} {k : Nat} {fa a : Addr} {fd : FuncData} {x : Str} {sp : Sp} {s1 : Shared} {vs : List Value} {ns : List Int}
    (KX : K.In s1.heap) (hns : s1.heap.Ns mainGlobals mg) (hb : s1.heap.Ns builtinsNs mb) (hbb : ∀ x : Str, x ≠ "__name__" → mb x = bootBuiltins x) (hlim : s1.heap.NoLimit) (hg : s1.gens = #[])
    (ha : s1.heap.get? a = some { cls := .type "list", data := .seq vs.toArray }) (hi : IntsAre vs ns) (hl : ns.length ≤ sizeLine) (hr : Room k callerA)
    (F : ∀ base : Heap, K.In base → base.Ns mainGlobals mg → FnG P w K mg base k fa fd [x] sp) (hbind : ∀ (s : Shared) (u : Value), BindsTo s fd ⟨[u], []⟩ [(x, u)])
    (hsp : ∀ H : Hp, SqL K H a (ns.map V.int) → sp [.ref a] H (fun v _ => v = .bl true) E0) :
    codeAny (model P w) callerA (.call (.ref fa) ⟨[.ref a], []⟩) (fun r s' => r = .ok (.ret (.bool true)) ∧ OldK s1.heap s'.heap ∧ s'.os = s1.os ∧ AllBare s'.gens) s1 := by
  have rv := vals_ints hi
  -- the abstract heap: the script alone, locked, or nothing where the module itself holds it
  let obj : Obj := { cls := .type "list", data := .seq vs.toArray }
  let H : Hp := fun b => if b = a ∧ K.lookup a = none then some (.frz obj (.lst (ns.map V.int))) else none
  have only : ∀ {b : Addr} {u : HO}, H b = some u → b = a ∧ K.lookup a = none ∧ u = .frz obj (.lst (ns.map V.int)) := fun {b u} e => by
    by_cases z : b = a ∧ K.lookup a = none
    · have e' : H b = some (.frz obj (.lst (ns.map V.int))) := if_pos z
      rw [e'] at e
      exact ⟨z.1, z.2, (Option.some.inj e).symm⟩
    · have e' : H b = none := if_neg z
      rw [e'] at e
      cases e
  have hS : SqL K H a (ns.map V.int) := by
    cases hk : K.lookup a with
    | none => exact .inl (.inr ⟨obj, if_pos ⟨rfl, hk⟩⟩)
    | some o =>
      have e := KX a o hk
      rw [ha] at e
      cases e
      exact .inr ⟨_, vs.toArray, _, hk, rfl, rfl, rfl, by rw [List.size_toArray, hi.length]; exact hl, by simpa using rv⟩
  have hok : HOk P w H s1.heap := fun b u e => by
    obtain ⟨rfl, _, rfl⟩ := only e
    exact ⟨ha, by rw [List.length_map]; exact hl, vs, _, rv, ha⟩
  have seen : ∀ {b : Addr} {o : Obj}, s1.heap.get? b = some o → H b = none → (hidT s1.heap H).get? b = some o := fun e n => hidT_get e n
  have off : ∀ {b : Addr}, (b = a → K.lookup a = none → False) → H b = none := fun {b} z => if_neg fun y => z y.1 y.2
  have keepNs : ∀ {b : Addr} {m : Str → Option Value}, s1.heap.Ns b m → (hidT s1.heap H).Ns b m := by
    rintro b m ⟨o, es, ep, e, d, r⟩
    refine ⟨o, es, ep, seen e (off fun y _ => ?_), d, r⟩
    subst y
    rw [ha] at e
    cases e
    cases d
  have hKb : K.In (hidT s1.heap H) := fun b o e => seen (KX b o e) (off fun y n => by rw [← y, e] at n; cases n)
  obtain ⟨mc, l1, l2⟩ := hlim
  have hM : Mod K mg (hidT s1.heap H) := ⟨hKb, keepNs hns, ⟨mb, keepNs hb, hbb⟩, mc, keepNs l1, l2⟩
  have e0 : Env0 P w K mg (hidT s1.heap H) callerA [] s1 H := ⟨rfl, hM, fun b o e => of_hidT e, Nat.le_of_eq (hidT_size _ _), trivial, (fun b hb => nomatch hb), hok, .of_eq hg⟩
  refine codeAny_mono ((F _ hKb (keepNs hns)).go callerA [] s1 H ⟨[.ref a], []⟩ [.ref a] [.ref a] _ _ hr rfl e0 (hbind s1 (.ref a)) (.cons rfl .nil) (hsp H hS)) ?_
  intro r s' h
  match r, h with
  | .ok (.ret u), ⟨v, H', os, bare, un, hok', r', q⟩ =>
    have q' : v = .bl true := q
    subst q'
    cases (show u = Value.bool true from r')
    refine ⟨rfl, OldK.of_keep fun b o e => ?_, os, bare⟩
    cases q : H b with
    | none => exact un.keep b o e q (fun z => nomatch z) (by simp)
    | some u =>
      obtain ⟨rfl, _, rfl⟩ := only q
      obtain ⟨e2, _⟩ := hok' b _ (un.frzs b _ _ q)
      rw [ha] at e
      cases e
      exact e2
  | .ok .next, h => exact h.elim
  | .ok .brk, h => exact h.elim
  | .ok .cont, h => exact h.elim
  | .error _, h => exact h.elim
/-- what k_head leaves of a law, from its def's contract -/
theorem walk_g {l : PySem.W.OpenLaw} {n k : Nat} {q : Program} {loose : List Str} {XP : (Str → Option Value) → Heap → Prop} {YP : World → Heap → Prop} {d : DefRec} {K : Params → PySem.W.Frag} {fs : FS} {x : Str}
    (hn : l.most = some n) (hn2 : n ≤ sizeLine) (hdf : d.params.defaults = []) (hr : Room k callerA) (hY : ∀ (w : World) (h : Heap), YP w h → (K w.params).In h)
    (F : ∀ (w : World) (mg : Str → Option Value) (fa : Addr) (h : Heap), (K w.params).In h → h.Ns mainGlobals mg → mg d.name = some (.ref fa) →
      ∃ fd : FuncData, (∀ (s : Shared) (u : Value), BindsTo s fd ⟨[u], []⟩ [(x, u)]) ∧ ∀ base : Heap, (K w.params).In base → base.Ns mainGlobals mg → FnG l.prog w (K w.params) mg base k fa fd [x] (spOf (K w.params) [false] fs))
    (hfs : ∀ ns : List Int, ns.length ≤ n → fs [.data (.list (ns.map .int))] fun r _ => r = .data (.bool true)) :
    PySem.W.WalkO q loose XP YP l.row.toRowW d [] (fun f vs => PySem.call f vs) := by
  refine Att.attach_call hn hdf ?_
  intro w s0 s1 mg mb fa o pm cd doc a vs ns G Y ho hd hcd hmg hobj hints hlen hg
  have KX := hY w _ Y
  obtain ⟨fd, hb, hF⟩ := F w mg fa _ KX G.T.g hmg
  refine law_go KX G.T.g G.T.b G.T.builtins G.T.nolimit hg hobj hints (Nat.le_trans hlen hn2) hr hF hb fun H hS => ?_
  -- the script is data of a heap in which nothing else stands
  refine ⟨rfl, H, fun _ => False, [.data (.list (ns.map .int))], _, Le.rfl', fun _ z => z.elim, ?_, hfs ns hlen, fun v H' G' B' C r ups hr st le f1 f2 d o ou => ?_⟩
  · exact .cons (B1 := fun _ => False) (B2 := fun _ => False) (fun _ z => z) (fun _ z => z) (fun _ z => z.elim) (.data (.lst hS (dpa_of_ints ns))) .nil
  · subst hr
    exact bool_of o
end Kb
namespace Kb
open PySem PySem.Spec PyProof.Rows L2
section
variable {P : Program} {w : World} {K : PySem.W.Frag} {mg : Str → Option Value} {base : Heap} {k : Nat} {N : List Str} {sc : Scf} {pin : List Bool}
variable {H G H1 G1 H2 G2 H' G' : Hp} {B B1 B2 B' C C1 C2 : Addr → Prop} {σ σ1 σ2 : L2.St} {env env1 env2 env' : Ev}
variable {a b c e tg : Expr} {pos p : Pos} {A O O2 : WO} {W W1 W2 : WE} {T T1 T2 : WT} {x : Str} {id : String} {f2 f3 : F2} {op op' : CmpOp}

/-! ### comparisons as values and as tests -/
structure CmpR (P : Program) (w : World) (K : PySem.W.Frag) (mg : Str → Option Value) (base : Heap) (k : Nat) (N : List Str) (sc : Scf) (op : CmpOp) (f : F2) : Prop where
  ex : ∃ r : R2, (∀ X, CxOk P w K mg base k N sc X → OpR X (compareOp op) r) ∧ SndR2 K r f
theorem cmp_lt : CmpR P w K mg base k N sc .Lt fLt := ⟨_, fun _ _ => op_lt, snd_i0 fun _ _ _ => .bl _⟩
theorem cmp_le : CmpR P w K mg base k N sc .LtE fLe := ⟨_, fun _ _ => op_le, snd_i0 fun _ _ _ => .bl _⟩
theorem cmp_gt : CmpR P w K mg base k N sc .Gt fGt := ⟨_, fun _ _ => op_gt, snd_i0 fun _ _ _ => .bl _⟩
theorem cmp_ge : CmpR P w K mg base k N sc .GtE fGe := ⟨_, fun _ _ => op_ge, snd_i0 fun _ _ _ => .bl _⟩
theorem cmp_eq : CmpR P w K mg base k N sc .Eq fEq := ⟨rEqD K, fun X hX => by rw [← hX.eK]; exact op_eqD hX.room.units, fun G H x y dx dy Q Qv l px py h q => ⟨_, _, px.dp l h.1, py.dp l h.2.1, h.1, h.2.1, q _ H G _ _ h.2.2 (Alloc.refl l) (.data (.bl _))⟩⟩
theorem cmp_ne : CmpR P w K mg base k N sc .NotEq fNe := ⟨rNeD K, fun X hX => by rw [← hX.eK]; exact op_neD hX.room.units, fun G H x y dx dy Q Qv l px py h q => ⟨_, _, px.dp l h.1, py.dp l h.2.1, h.1, h.2.1, q _ H G _ _ h.2.2 (Alloc.refl l) (.data (.bl _))⟩⟩
theorem den_cmpR (cr : CmpR P w K mg base k N sc op f2) (ha : DenO P w K mg base k N sc a A) (hb : DenO P w K mg base k N sc b O) (hm : behindInMarks op b = false := by first | exact nobehind _ (by decide) (by decide) | rfl) : DenE P w K mg base k N sc (.Compare a [op] [b] pos) (w2 f2 A O) := by
  obtain ⟨r, ho, hr⟩ := cr.ex
  exact den_cmp ho hr ha hb hm
theorem dent_cmpR (cr : CmpR P w K mg base k N sc op f2) (ha : DenO P w K mg base k N sc a A) (hb : DenO P w K mg base k N sc b O) (hm : behindInMarks op b = false := by first | exact nobehind _ (by decide) (by decide) | rfl) : DenT P w K mg base k N sc (.Compare a [op] [b] pos) (tOf (w2 f2 A O)) := by
  obtain ⟨r, ho, hr⟩ := cr.ex
  obtain ⟨ta, a1, a2⟩ := ha
  obtain ⟨tb, b1, b2⟩ := hb
  exact ⟨_, fun X hX => pt_cmpR (ho X hX) (a1 X hX) (b1 X hX) hm, snd_tOf (snd_w2 hr a2 b2)⟩
theorem dent_isN {j pos'} (ha : DenO P w K mg base k N sc a A) : DenT P w K mg base k N sc (.Compare a [.Is] [.Constant .none j pos'] pos) (tOf (w1 fIsN A)) := by
  obtain ⟨ta, a1, a2⟩ := ha
  refine ⟨tB (tUn (fun x H Q => Q (.bl (decide (x = .non))) H) ta), fun X hX => pt_cmp (pc_isN (a1 X hX)), snd_tOf (snd_w1 (fun G H x dx Q Qv l px h q => ?_) a2)⟩
  rw [px.non]
  exact q _ H G _ _ h (Alloc.refl l) (.data (.bl _))
theorem dent_notN {j pos'} (ha : DenO P w K mg base k N sc a A) : DenT P w K mg base k N sc (.Compare a [.IsNot] [.Constant .none j pos'] pos) (tOf (w1 fNotN A)) := by
  obtain ⟨ta, a1, a2⟩ := ha
  refine ⟨tB (tUn (fun x H Q => Q (.bl (!decide (x = .non))) H) ta), fun X hX => pt_cmp (pc_notN (a1 X hX)), snd_tOf (snd_w1 (fun G H x dx Q Qv l px h q => ?_) a2)⟩
  rw [px.non]
  exact q _ H G _ _ h (Alloc.refl l) (.data (.bl _))
/-- a < b < c -/
def w3 (f g : F2) (A O O2 : WO) : WE := fun env Q => A env fun x e1 => O e1 fun y e2 => match x.get e2, y.get e2 with
  | some dx, some dy => f dx dy fun r => (match r with
    | .data (.bool true) => O2 e2 fun z e3 => (match y.get e3, z.get e3 with
      | some dy', some dz => g dy' dz fun r2 => Q r2 e3
      | _, _ => False)
    | .data (.bool false) => Q (.data (.bool false)) e2
    | _ => False)
  | _, _ => False
theorem snd_chain {r r' : R2} {ta tb tc : TE} (hr : SndR2 K r f2) (hr' : SndR2 K r' f3) (a2 : SndO K ta A) (b2 : SndO K tb O) (c2 : SndO K tc O2) : SndE K (tChain r r' ta tb tc) (w3 f2 f3 A O O2) := by
  intro σ H G B env Q Qv c hw q
  refine a2 σ H G B env _ _ c hw fun x H1 G1 B1 C1 e1 ox hq r1 o1 => ?_
  refine b2 σ H1 G1 B1 e1 _ _ r1.conc hq fun y H2 G2 B2 C2 e2 oy hq2 r2 o2 => ?_
  have o1' := o1.later r2.step r1.frC r1.dis
  split at hq2
  case h_2 => exact hq2.elim
  rename_i dx dy e3 e4
  refine hr G2 H2 x y dx dy _ _ r2.conc.le (o1'.pk r2.conc e3) (o2.pk r2.conc e4) hq2 fun z H3 G3 C3 dz hz al oz => ?_
  have r3 := al.res r2.conc
  have o2' := o2.later r3.step r2.frC r2.dis
  have f2' := r3.step.hold r2.frC r2.dis
  have d2' := r3.step.dis r2.frC r2.dis
  split at hz
  · refine ⟨true, bool_of oz, ?_⟩
    refine c2 σ H3 G3 B2 e2 _ _ r3.conc hz fun u H4 G4 B4 C4 e5 ou hq4 r4 o4 => ?_
    have o2'' := o2'.later (r4.step) f2' (fun a z y => d2' a z (.inl y))
    split at hq4
    case h_2 => exact hq4.elim
    rename_i dy' dz' e6 e7
    refine hr' G4 H4 y u dy' dz' _ _ r4.conc.le (o2''.pk r4.conc e6) (o4.pk r4.conc e7) hq4 fun v H' G' C dv hv al2 ov => ?_
    exact q v H' G' B4 C e5 dv hv (Res.tr (((r1.drop.tr r2.drop).tr r3.drop).tr r4.drop) (al2.res r4.conc)) ov
  · refine ⟨false, bool_of oz, ?_⟩
    exact q _ H3 G3 B2 _ e2 _ hz (Res.tr (r1.drop.tr r2.drop) r3.bare) (.data (.bl false))
  · exact hz.elim
theorem den_chain (cr : CmpR P w K mg base k N sc op f2) (cs : CmpR P w K mg base k N sc op' f3) (ha : DenO P w K mg base k N sc a A) (hb : DenO P w K mg base k N sc b O) (hc : DenO P w K mg base k N sc c O2)
    (hp : ∀ X r r' ta tb tc, OpR X (compareOp op) r → OpR X (compareOp op') r' → PE X a ta → PE X b tb → PE X c tc → PE X (.Compare a [op, op'] [b, c] pos) (tChain r r' ta tb tc) := by intro X r r' ta tb tc h1 h2 h3 h4 h5; exact pe_chain h1 h2 h3 h4 h5) :
    DenE P w K mg base k N sc (.Compare a [op, op'] [b, c] pos) (w3 f2 f3 A O O2) := by
  obtain ⟨r, ho, hr⟩ := cr.ex
  obtain ⟨r', ho', hr'⟩ := cs.ex
  obtain ⟨ta, a1, a2⟩ := ha
  obtain ⟨tb, b1, b2⟩ := hb
  obtain ⟨tc, c1, c2⟩ := hc
  exact ⟨_, fun X hX => hp X _ _ _ _ _ (ho X hX) (ho' X hX) (a1 X hX) (b1 X hX) (c1 X hX), snd_chain hr hr' a2 b2 c2⟩
theorem dent_chain (cr : CmpR P w K mg base k N sc op f2) (cs : CmpR P w K mg base k N sc op' f3) (ha : DenO P w K mg base k N sc a A) (hb : DenO P w K mg base k N sc b O) (hc : DenO P w K mg base k N sc c O2)
    (hp : ∀ X r r' ta tb tc, OpR X (compareOp op) r → OpR X (compareOp op') r' → PE X a ta → PE X b tb → PE X c tc → PE X (.Compare a [op, op'] [b, c] pos) (tChain r r' ta tb tc) := by intro X r r' ta tb tc h1 h2 h3 h4 h5; exact pe_chain h1 h2 h3 h4 h5)
    (hpt : ∀ (env : Env) whole, isTrue (.Compare a [op, op'] [b, c] pos) env whole = isTrue (.Compare a [op, op'] [b, c] pos) env whole := by intros; rfl)
    (ht : ∀ X r r' ta tb tc, OpR X (compareOp op) r → OpR X (compareOp op') r' → PE X a ta → PE X b tb → PE X c tc → PT X (.Compare a [op, op'] [b, c] pos) (tTest (tChain r r' ta tb tc)) := by intro X r r' ta tb tc h1 h2 h3 h4 h5; exact pt_chain h1 h2 h3 h4 h5) :
    DenT P w K mg base k N sc (.Compare a [op, op'] [b, c] pos) (tOf (w3 f2 f3 A O O2)) := by
  obtain ⟨r, ho, hr⟩ := cr.ex
  obtain ⟨r', ho', hr'⟩ := cs.ex
  obtain ⟨ta, a1, a2⟩ := ha
  obtain ⟨tb, b1, b2⟩ := hb
  obtain ⟨tc, c1, c2⟩ := hc
  exact ⟨_, fun X hX => ht X _ _ _ _ _ (ho X hX) (ho' X hX) (a1 X hX) (b1 X hX) (c1 X hX), snd_tOf (snd_chain hr hr' a2 b2 c2)⟩
/-- a module's whole number -/
theorem den_globI {i : Int} {t : Tok} (hm : mg x = some (.int i t)) (hg : GloB sc x = true) (hd : (x == ("__debug__" : Str)) = false := by decide) : DenE P w K mg base k N sc (.Name x pos) (wC (.int i)) :=
  ⟨_, fun X hX => pe_glob (v := .int i) (gl_of hX hg) (by rw [hX.eg]; exact hm) ⟨t, rfl⟩ hd, snd_c fun _ => .int i⟩

/-! ### isinstance of a built-in class -/
def tyNm : DV → String
  | .data .none => "NoneType"
  | .data (.bool _) => "bool"
  | .data (.int _) => "int"
  | .data (.str _) => "str"
  | .data (.list _) => "list"
  | .data (.tuple _) => "tuple"
  | .data (.dict _) => "dict"
  | .olist _ => "list"
  | .otup _ => "tuple"
  | .odict _ => "dict"
  | .sdict _ => "dict"
def isTy (T a : String) : Bool := a == T || (a == "bool" && T == "int")
def fIsi (T : String) : F1 := fun x Q => x.nd = true ∧ Q (.data (.bool (isTy T (tyNm x))))
theorem sql_ty {ad : Addr} {vs : List V} (s : SqL K H ad vs) : TyX K H (.ref ad) (.type "list") := by
  rcases s with (s | ⟨o, s⟩) | ⟨o, its, n, h1, h2, _⟩
  · exact .base (.lst s)
  · exact .base (.frz s)
  · exact .kList h1 h2
theorem sqt_ty {ad : Addr} {vs : List V} (s : SqT K H ad vs) : TyX K H (.ref ad) (.type "tuple") := by
  rcases s with (s | ⟨o, s⟩) | ⟨o, its, n, h1, h2, _⟩
  · exact .base (.tup s)
  · exact .fTuple s
  · exact .kTuple h1 h2
theorem Pk.ty {v : V} {dv : DV} (h : Pk K G H v dv) (l : Le G H) (hnd : dv.nd = true) : TyX K H v (.type (tyNm dv)) ∧ (tyNm dv ∈ ["NoneType", "bool", "int", "str", "list", "tuple"]) := by
  obtain ⟨C, h⟩ := h
  cases h with
  | data h =>
    cases h with
    | non => exact ⟨.base .non, by simp [tyNm]⟩
    | bl b => exact ⟨.base (.bl b), by simp [tyNm]⟩
    | int i => exact ⟨.base (.int i), by simp [tyNm]⟩
    | str s => exact ⟨.base (.str s), by simp [tyNm]⟩
    | lst s t => exact ⟨sql_ty (sql_le l s), by simp [tyNm]⟩
    | tup s t => exact ⟨sqt_ty (sqt_le l s), by simp [tyNm]⟩
  | olist b h t => exact ⟨.base (.lst h), by simp [tyNm]⟩
  | otup s t => exact ⟨sqt_ty (sqt_le l s), by simp [tyNm]⟩
  | odict _ _ _ _ _ => cases hnd
  | sdict _ _ _ _ => cases hnd
theorem den_isi {Tn : Str} {Tm : String} {p2 : Pos} (hk : ∀ a ∈ ["NoneType", "bool", "int", "str", "list", "tuple"], kitB a Tm = some (isTy Tm a)) (hm : mg "isinstance" = none) (hg : GloB sc "isinstance" = true) (hm2 : mg Tn = none) (hg2 : GloB sc Tn = true) (hv : bootBuiltins Tn = some (.type Tm))
    (ha : DenO P w K mg base k N sc a A) (hs : ∀ env, starEach [a, .Name Tn p2] env = (false, eval a env) :: starEach [.Name Tn p2] env := by intros; rfl) (hs' : ∀ env, starEach [.Name Tn p2] env = (false, eval (.Name Tn p2) env) :: starEach [] env := by intros; rfl)
    (hpl : ∀ env, (backTo pos (starEach [.Name Tn p2] env)).any (·.1) = false := by intros; rfl) (hn : Tn ≠ "__name__" := by decide) (hd : (Tn == ("__debug__" : Str)) = false := by decide) : DenE P w K mg base k N sc (.Call (.Name "isinstance" p) [a, .Name Tn p2] [] pos) (w1 (fIsi Tm) A) := by
  obtain ⟨ta, a1, a2⟩ := ha
  refine ⟨tCB (rIsi K) (tCons ta (tCons (tC (.ty Tm)) tNil)), fun X hX => by
    rw [← hX.eK]
    exact pe_callB call_isi (gl_of hX hg) (by rw [hX.eg]; exact hm) boot_isinstance (pa_cons (a1 X hX) (pa_cons (pe_bltn (gl_of hX hg2) (by rw [hX.eg]; exact hm2) hv rfl hn hd) pa_nil (hs' X.env)) (hs X.env)) (by decide) (by decide) (hs X.env) (hpl X.env), ?_⟩
  refine snd_w1 (r := fun x H Q => rIsi K [x, .ty Tm] H Q) (fun G H x dx Q Qv l px h q => ?_) a2
  obtain ⟨t1, t2⟩ := px.ty l h.1
  exact ⟨x, .ty Tm, .type (tyNm dx), .type Tm, _, rfl, .ty Tm, t1, kit_ty (hk _ t2), q _ H G _ _ h.2 (Alloc.refl l) (.data (.bl _))⟩

/-! ### all, any of a list of truths; len(set(tuple of whole numbers)) -/
def boolsOf : List PyData → Option (List Bool)
  | [] => some []
  | .bool b :: r => match boolsOf r with
    | some l => some (b :: l)
    | none => none
  | _ :: _ => none
def intsOf : List PyData → Option (List Int)
  | [] => some []
  | .int b :: r => match intsOf r with
    | some l => some (b :: l)
    | none => none
  | _ :: _ => none
theorem boolsOf_ok : ∀ {ds : List PyData} {bs : List Bool}, boolsOf ds = some bs → ds = bs.map .bool
  | [], _, h => by cases h; rfl
  | .bool b :: r, bs, h => by
    unfold boolsOf at h
    split at h
    · rename_i l e; cases h; rw [boolsOf_ok e]; rfl
    · cases h
  | .none :: _, _, h | .int _ :: _, _, h | .str _ :: _, _, h | .list _ :: _, _, h | .tuple _ :: _, _, h | .dict _ :: _, _, h => by cases h
theorem intsOf_ok : ∀ {ds : List PyData} {bs : List Int}, intsOf ds = some bs → ds = bs.map .int
  | [], _, h => by cases h; rfl
  | .int b :: r, bs, h => by
    unfold intsOf at h
    split at h
    · rename_i l e; cases h; rw [intsOf_ok e]; rfl
    · cases h
  | .none :: _, _, h | .bool _ :: _, _, h | .str _ :: _, _, h | .list _ :: _, _, h | .tuple _ :: _, _, h | .dict _ :: _, _, h => by cases h
theorem boolsOf_map (bs : List Bool) : boolsOf (bs.map .bool) = some bs := by
  induction bs with
  | nil => rfl
  | cons b r ih => show (match boolsOf (r.map .bool) with | some l => some (b :: l) | none => none) = _; rw [ih]
theorem intsOf_map (bs : List Int) : intsOf (bs.map .int) = some bs := by
  induction bs with
  | nil => rfl
  | cons b r ih => show (match intsOf (r.map .int) with | some l => some (b :: l) | none => none) = _; rw [ih]
def fAll : F1 := fun x Q => match lstOf x with
  | some ds => (match boolsOf ds with
    | some bs => Q (.data (.bool (bs.all fun b => b)))
    | none => False)
  | none => False
theorem den_all (hm : mg "all" = none) (hg : GloB sc "all" = true) (ha : DenO P w K mg base k N sc a A) (hs : ∀ env, starEach [a] env = (false, eval a env) :: starEach [] env := by intros; rfl) : DenE P w K mg base k N sc (.Call (.Name "all" p) [a] [] pos) (w1 fAll A) :=
  den_b1 (r := rAll K) (fun X hX => by rw [← hX.eK]; exact cr_all hX.calm) (fun G H x dx Q Qv l px h q => by
    unfold fAll at h
    split at h
    case h_2 => exact h.elim
    rename_i ds es
    split at h
    case h_2 => exact h.elim
    rename_i bs eb
    obtain ⟨p, vs, ex, s, t⟩ := px.lst l es
    rw [boolsOf_ok eb] at t
    have := dpa_bools t
    subst this
    exact ⟨p, bs, by rw [ex], s, q _ H G _ _ h (Alloc.refl l) (.data (.bl _))⟩) boot_all hm hg ha hs
/-- each once -/
def once : List Int → List Int
  | [] => []
  | n :: r => if n ∈ r then once r else n :: once r
theorem mem_once {n : Int} : ∀ {l : List Int}, n ∈ once l ↔ n ∈ l
  | [] => Iff.rfl
  | m :: r => by
    unfold once
    by_cases h : m ∈ r
    · rw [if_pos h, mem_once, List.mem_cons]
      exact ⟨.inr, fun z => z.elim (fun e => by rw [e]; exact h) fun y => y⟩
    · rw [if_neg h, List.mem_cons, List.mem_cons, mem_once]
theorem once_nodup : ∀ l : List Int, (once l).Nodup
  | [] => List.nodup_nil
  | m :: r => by
    unfold once
    by_cases h : m ∈ r
    · rw [if_pos h]; exact once_nodup r
    · rw [if_neg h, List.nodup_cons]
      exact ⟨fun z => h (mem_once.mp z), once_nodup r⟩
theorem once_of_nodup : ∀ {l : List Int}, l.Nodup → once l = l
  | [], _ => rfl
  | m :: r, h => by
    rw [List.nodup_cons] at h
    unfold once
    rw [if_neg h.1, once_of_nodup h.2]
theorem len_le_of_sub : ∀ {l m : List Int}, l.Nodup → (∀ n, n ∈ l → n ∈ m) → l.length ≤ m.length
  | [], _, _, _ => Nat.zero_le _
  | a :: r, m, h, s => by
    rw [List.nodup_cons] at h
    have ha := s a List.mem_cons_self
    have := len_le_of_sub (m := m.erase a) h.2 fun n hn => (List.mem_erase_of_ne (fun e => h.1 (by rw [← e]; exact hn))).mpr (s n (List.mem_cons_of_mem _ hn))
    rw [List.length_erase_of_mem ha] at this
    have hp : 0 < m.length := List.length_pos_of_mem ha
    rw [List.length_cons]
    omega
theorem len_eq_of_mem {l m : List Int} (h1 : l.Nodup) (h2 : m.Nodup) (s : ∀ n, n ∈ l ↔ n ∈ m) : l.length = m.length :=
  Nat.le_antisymm (len_le_of_sub h1 fun n => (s n).mp) (len_le_of_sub h2 fun n => (s n).mpr)
def fLenSet : F1 := fun x Q => match tupOf x with
  | some ds => (match intsOf ds with
    | some ns => ns.length < 4000 ∧ Q (.data (.int ((once ns).length : Nat)))
    | none => False)
  | none => False
def rLenSet (K : PySem.W.Frag) : V → Hp → VK → Prop := fun x H Q => ∃ (t : Addr) (ns : List Int), x = .ref t ∧ SqT K H t (ns.map V.int) ∧ ns.length < 4000 ∧ Q (.int ((once ns).length : Nat)) H
theorem pe_lenSet {X : Cx} {ta : TE} {p2 q : Pos} (hg : Gl X "len") (hm : X.mg "len" = none) (hg2 : Gl X "set") (hm2 : X.mg "set" = none) (ha : PE X a ta) (hc : X.calm = true) (na : starEach [a] X.env = (false, eval a X.env) :: starEach [] X.env)
    (nb : starEach [.Call (.Name "set" p2) [a] [] q] X.env = (false, eval (.Call (.Name "set" p2) [a] [] q) X.env) :: starEach [] X.env) : PE X (.Call (.Name "len" p) [.Call (.Name "set" p2) [a] [] q] [] pos) (tUn (rLenSet X.K) ta) := by
  constructor
  intro pins s σ H Q I h
  refine Call_ (ld_blt (u := .builtin "len") I hg hm boot_len ?_)
  refine PyProof.Rows.callWith_builtin1 ?_ nb rfl
  refine PyProof.Rows.args_cons ?_ nb
  refine Call_ (ld_blt (u := .type "set") I hg2 hm2 boot_set ?_)
  refine PyProof.Rows.callWith_type1 ?_ na rfl
  refine PyProof.Rows.args_cons (thn (ha.run pins s σ H _ I h) ?_) na
  rintro v s1 ⟨y, H1, I1, r1, t, ns, rfl, hq, hl, q1⟩
  apply PyProof.Rows.args_nil
  cases r1
  obtain ⟨its, rv, pl, hz⟩ := I1.tuple hq
  have hi : IntsAre its.toArray.toList ns := by simpa using intsAre_of rv
  refine call_set_tupI ns (I1.ok.hd hc) pl hi (by unfold scanBound; omega) ?_
  rintro h' tk n ⟨o, es, ep, tb, ho, hex, hd, hgood, hnd, hmem, hsz, hf, hn, _⟩ hle hk
  apply PyProof.Rows.args_nil
  have I2 : Inv X pins σ H1 { s1 with heap := h', toks := tk } := I1.kept hk
  have e1 : es.size = (once ns).length := by
    have := len_eq_of_mem hnd (once_nodup ns) fun m => by rw [mem_once, ← hmem m]; exact decide_eq_true_iff
    rw [← this, List.length_map, Array.length_toList]
  exact call_len_set ho hex hd hf (by rw [hn]; omega) ⟨.int (once ns).length, H1, I2.tok _, ⟨_, by rw [e1]⟩, q1⟩
theorem den_lenSet {p2 q : Pos} (hm : mg "len" = none) (hg : GloB sc "len" = true) (hm2 : mg "set" = none) (hg2 : GloB sc "set" = true) (ha : DenO P w K mg base k N sc a A) (hs : ∀ env, starEach [a] env = (false, eval a env) :: starEach [] env := by intros; rfl)
    (hs2 : ∀ env, starEach [.Call (.Name "set" p2) [a] [] q] env = (false, eval (.Call (.Name "set" p2) [a] [] q) env) :: starEach [] env := by intros; rfl) : DenE P w K mg base k N sc (.Call (.Name "len" p) [.Call (.Name "set" p2) [a] [] q] [] pos) (w1 fLenSet A) := by
  obtain ⟨ta, a1, a2⟩ := ha
  refine ⟨tUn (rLenSet K) ta, fun X hX => by rw [← hX.eK]; exact pe_lenSet (gl_of hX hg) (by rw [hX.eg]; exact hm) (gl_of hX hg2) (by rw [hX.eg]; exact hm2) (a1 X hX) hX.calm (hs X.env) (hs2 X.env), snd_w1 (fun G H x dx Q Qv l px h q => ?_) a2⟩
  unfold fLenSet at h
  split at h
  case h_2 => exact h.elim
  rename_i ds es
  split at h
  case h_2 => exact h.elim
  rename_i ns en
  obtain ⟨p, vs, ex, s, t⟩ := px.tup l es
  rw [intsOf_ok en] at t
  have := dpa_ints t
  subst this
  exact ⟨p, ns, ex, s, h.1, q _ H G _ _ h.2 (Alloc.refl l) (.data (.int _))⟩

/-! ### what a call told is changed: t[j].append(e), t[j].reverse(), t an own tuple -/
theorem nds_set {ds' : List PyData} : ∀ {dvs : List DV} {j : Nat}, nds dvs = true → nds (dvs.set j (.olist ds')) = true
  | [], _, h => h
  | v :: vs, 0, h => by
    show (if (DV.olist ds').nd = true then nds vs else false) = true
    rw [if_pos (show (DV.olist ds').nd = true from rfl)]; exact (nds_cons h).2
  | v :: vs, j + 1, h => by
    show (if v.nd = true then nds (vs.set j (.olist ds')) else false) = true
    rw [if_pos (nds_cons h).1]
    exact nds_set (nds_cons h).2
theorem ownVs_mut : ∀ {dvs : List DV} {C : Addr → Prop} {vs : List V} {j : Nat} {ds : List PyData}, OwnVs K G H C vs dvs → Fr0 C G H → dvs[j]? = some (.olist ds) → ∃ (q : Addr) (us : List V), vs[j]? = some (.ref q) ∧ C q ∧ H q = some (.lst us) ∧ DpAll K G us ds ∧
    ∀ us' ds', DpAll K G us' ds' → OwnVs K G (upd H q (.lst us')) C vs (dvs.set j (.olist ds'))
  | _, _, _, _, _, .nil, _, e => by simp at e
  | _, C, _, 0, _, .cons s1 s2 d h t, f, e => by
    simp only [List.getElem?_cons_zero, Option.some.injEq] at e
    subst e
    cases h with
    | @olist _ q us _ b hq tq =>
      refine ⟨q, us, by simp, s1 q b, hq, tq, fun us' ds' t' => .cons s1 s2 d (.olist b upd_same t') (t.mono Le.rfl' (fun a o z w => ?_) fun _ z => z)⟩
      rw [upd_ne fun y => d q b (by rw [← y]; exact z)]
      exact w
  | _, C, _, j + 1, _, .cons s1 s2 d h t, f, e => by
    obtain ⟨q, us, a, b, hq, tq, m⟩ := ownVs_mut (j := j) t (fun a z => f a (s2 a z)) (by simpa using e)
    refine ⟨q, us, by simpa using a, s2 q b, hq, tq, fun us' ds' t' => .cons s1 s2 d (h.mono Le.rfl' (fun a o z w => ?_) fun _ z => z) (m us' ds' t')⟩
    rw [upd_ne fun y => d a z (by rw [y]; exact b)]
    exact w
theorem Conc.mutT {i j : Nat} {dvs : List DV} {ds : List PyData} (c : Conc K H G B σ env) (e : env[i]? = some (some (.otup dvs))) (ej : dvs[j]? = some (.olist ds)) : ∃ (t : Addr) (ws : List V) (q : Addr) (us : List V), σ[i]? = some (some (.ref t)) ∧ SqT K H t ws ∧ ws[j]? = some (.ref q) ∧ ws.length = dvs.length ∧ H q = some (.lst us) ∧ DpAll K G us ds ∧
    ∀ us' ds', DpAll K G us' ds' → Conc K (upd H q (.lst us')) G B σ (env.set i (some (.otup (dvs.set j (.olist ds'))))) ∧ Step H G B (upd H q (.lst us')) G B := by
  obtain ⟨v, C, B', a, h, o, c1, c2, c3⟩ := c.own.take e
  cases h with
  | @otup _ t ws _ s os hnds =>
    obtain ⟨q, us, e1, b, hq, tq, m⟩ := ownVs_mut os (fun a z => c.fr a (c1 a z)) ej
    have qB := c1 q b
    have gq := (c.fr q qB).1
    refine ⟨t, ws, q, us, a, sqt_le c.le s, e1, ownVs_len os, hq, tq, fun us' ds' t' => ⟨⟨fun a o z => ?_, fun a z => ⟨(c.fr a z).1, ?_⟩, ?_⟩, Le.rfl', fun a z => .inl z, fun a z n => ?_, fun a z => ?_⟩⟩
    · rw [upd_ne fun y => by rw [y, gq] at z; cases z]
      exact c.le a o z
    · by_cases y : a = q
      · rw [y, upd_same]; exact fun q => nomatch q
      · rw [upd_ne y]; exact (c.fr a z).2
    · have q2 : OwnE K G (upd H q (.lst us')) B' σ (env.set i none) := o.mono Le.rfl' (fun a o z y => by
        rw [upd_ne fun w => c3 q b (by rw [← w]; exact z)]; exact y) fun _ z => z
      have q3 := OwnE.put (C := C) i q2 (OwnV.otup s (m us' ds' t') (nds_set hnds)) c3
      rw [set_self a, List.set_set] at q3
      exact q3.mono Le.rfl' (fun _ _ _ y => y) fun a z => z.elim (c2 a) (c1 a)
    · exact ⟨upd_ne fun y => n (by rw [y]; exact qB), rfl⟩
    · by_cases y : a = q
      · rw [y, upd_same]; exact fun q => nomatch q
      · rw [upd_ne y]; exact z
def wAppendT (i j : Nat) (d : PyData) : WE := fun env Q => match env[i]? with
  | some (some (.otup dvs)) => (match dvs[j]? with
    | some (.olist ds) => ds.length < lim ∧ Q (.data .none) (env.set i (some (.otup (dvs.set j (.olist (ds ++ [d]))))))
    | _ => False)
  | _ => False
def wReverseT (i j : Nat) : WE := fun env Q => match env[i]? with
  | some (some (.otup dvs)) => (match dvs[j]? with
    | some (.olist ds) => Q (.data .none) (env.set i (some (.otup (dvs.set j (.olist ds.reverse)))))
    | _ => False)
  | _ => False
theorem at_nat {vs : List V} {j : Nat} {v : V} (h : vs[j]? = some v) : atI vs ((j : Nat) : Int) = some v := atI_nat h
variable {i j : Nat} {apos q1 q2 q3 : Pos} {jj : Int} {kk : Nat} {v : V} {d : PyData}
theorem den_appendT (hN : N[i]? = some x) (hv : SeeB sc x = true) (hj : jj = (j : Int)) (he : ∀ X, CxOk P w K mg base k N sc X → PE X e (tC v)) (hd0 : ∀ G, Dp K G v d) (hbase : ∀ env, attributeBase (.Subscript (.Name x p) (.Constant (.int jj) kk q1) q2) "append" env (eval (.Subscript (.Name x p) (.Constant (.int jj) kk q1) q2) env) = eval (.Subscript (.Name x p) (.Constant (.int jj) kk q1) q2) env := by intros; rfl)
    (hfew : ∀ env, ((backTo pos (starEach [e] env)).all (fun x => !x.1) && (backToKw pos (keywordEach [] env)).all (fun x => x.1.isSome) && decide (([e] : List Expr).length + ([] : List Keyword).length + (if ([] : List Keyword).isEmpty then 0 else 1) < 30)) = true := by intros; rfl)
    (hline : (apos.endLine == pos.line) = true := by rfl) (hs : ∀ env, starEach [e] env = (false, eval e env) :: starEach [] env := by intros; rfl) (hpi : PlainIx (.Constant (.int jj) kk q1) := by intros _ _; rfl) (hd : (x == ("__debug__" : Str)) = false := by decide) (hcd : (x == ("__classdict__" : Str)) = false := by decide) :
    DenE P w K mg base k N sc (.Call (.Attribute (.Subscript (.Name x p) (.Constant (.int jj) kk q1) q2) "append" apos) [e] [] pos) (wAppendT i j d) := by
  subst hj
  refine ⟨tBM K "list" rAppend (tOp (rIxT K) (tVar i) (tC (.int (j : Int)))) (tCons (tC v) tNil), fun X hX => by
    rw [← hX.eK]
    exact pe_bm PySem.F.plainAttrs_list PySem.F.slot_list_append PySem.F.type_list_append mt_append (pe_ix ix_tup (pe_nm hX hN hv hd hcd) pe_int hpi) (pa_cons (he X hX) pa_nil (hs X.env)) (hbase X.env) (hfew X.env) hline (hs X.env) rfl, fun σ H G B env Q Qv c hw q => ?_⟩
  unfold wAppendT at hw
  split at hw
  case h_2 => exact hw.elim
  rename_i dvs e0
  split at hw
  case h_2 => exact hw.elim
  rename_i ds ej0
  obtain ⟨t0, ws, q0, us, a0, s0, b0, l0, hq0, tq, m⟩ := c.mutT e0 ej0
  refine ⟨_, a0, t0, ws, (j : Int), .ref q0, rfl, rfl, s0, at_nat b0, tyV_lst hq0, q0, us, v, rfl, rfl, hq0, by rw [dpa_len tq]; exact Nat.lt_of_lt_of_le hw.1 (by decide), ?_⟩
  obtain ⟨c3, s3⟩ := m (us ++ [v]) (ds ++ [d]) (dpa_app tq (.cons (hd0 G) .nil))
  exact q _ _ _ _ _ _ _ hw.2 (Res.tr s3 c3.step0) (.data .non)
theorem den_reverseT (hN : N[i]? = some x) (hv : SeeB sc x = true) (hj : jj = (j : Int)) (hbase : ∀ env, attributeBase (.Subscript (.Name x p) (.Constant (.int jj) kk q1) q2) "reverse" env (eval (.Subscript (.Name x p) (.Constant (.int jj) kk q1) q2) env) = eval (.Subscript (.Name x p) (.Constant (.int jj) kk q1) q2) env := by intros; rfl)
    (hline : (apos.endLine == pos.line) = true := by rfl) (hpi : PlainIx (.Constant (.int jj) kk q1) := by intros _ _; rfl) (hd : (x == ("__debug__" : Str)) = false := by decide) (hcd : (x == ("__classdict__" : Str)) = false := by decide) :
    DenE P w K mg base k N sc (.Call (.Attribute (.Subscript (.Name x p) (.Constant (.int jj) kk q1) q2) "reverse" apos) [] [] pos) (wReverseT i j) := by
  subst hj
  refine ⟨tBM0 K "list" rReverse (tOp (rIxT K) (tVar i) (tC (.int (j : Int)))), fun X hX => by
    rw [← hX.eK]
    exact pe_bm0 PySem.F.plainAttrs_list PySem.F.slot_list_reverse PySem.F.type_list_reverse mt_reverse (pe_ix ix_tup (pe_nm hX hN hv hd hcd) pe_int hpi) (hbase X.env) hline, fun σ H G B env Q Qv c hw q => ?_⟩
  unfold wReverseT at hw
  split at hw
  case h_2 => exact hw.elim
  rename_i dvs e0
  split at hw
  case h_2 => exact hw.elim
  rename_i ds ej0
  obtain ⟨t0, ws, q0, us, a0, s0, b0, l0, hq0, tq, m⟩ := c.mutT e0 ej0
  refine ⟨_, a0, t0, ws, (j : Int), .ref q0, rfl, rfl, s0, at_nat b0, tyV_lst hq0, q0, us, rfl, rfl, hq0, ?_⟩
  obtain ⟨c3, s3⟩ := m us.reverse ds.reverse (dpa_rev tq)
  exact q _ _ _ _ _ _ _ hw (Res.tr s3 c3.step0) (.data .non)
end
/-- how keywords bind -/
theorem kwb {K : PySem.W.Frag} {xq qual : Str} {st : Stmt} {f : Addr} {fd : FuncData} {kw bs : List (Str × Value)} {s : Shared} (F : Fun K xq qual st f fd)
    (h : ∀ (kV doc pm : Value) (an : Option Addr) (cdv ct : Value), bindArgs (PySem.W.fnOf xq qual (defArgs st) (defBody st) (defScope st) .none kV doc pm an cdv ct) ⟨[], kw⟩ = pure bs) : BindsTo s fd ⟨[], kw⟩ bs := by
  obtain ⟨oc, od, kV, doc, pm, an, cdv, ct, osl, rfl, _⟩ := F.ex
  exact .of_eq (h kV doc pm an cdv ct)
end Kb
namespace Kb
open PySem PySem.Spec PyProof.Rows L2
/-! ### sum, least, greatest of a row of whole numbers; one of a row -/
section
variable {prog : Program} {w : World} {A : Around} {E : Value → Shared → Prop} {s : Shared} {l : Addr} {its : List Value} {ns : List Int} {Q : Value → Shared → Prop}
theorem sum_tup_raw (hh : A.handled = none) (hl : s.heap.IsTuple l its.toArray) (hi : IntsAre its ns)
    (h : ∀ h' tk t', (∀ b o, s.heap.get? b = some o → h'.get? b = some o) → Q (.int ns.sum t') { s with heap := h', toks := tk }) : wpAny (model prog w) A (call (.builtin "sum") [.ref l]) Q E s := by
  obtain ⟨xs, e⟩ := hi.allInts.items
  have hn : numsOf (intItems xs).toList = ns := by rw [← e]; exact hi.numsOf
  rw [nums_intItems] at hn
  rw [e] at hl
  have hlt : l < s.heap.objs.size := by obtain ⟨_, e, _⟩ := hl; exact Heap.lt_size e
  refine call_sum_walkG (wpAny_pyIter_tuple hl ⟨_, [s.heap.objs.size, l], [s.heap.objs.size], _, _, _, numAt xs, rfl, Walks.tuple (A := A.in1) hh _ l (Nat.ne_of_lt hlt) (intItems xs), ⟨⟨_, Heap.get?_push_size _ rfl, rfl, rfl⟩, hl.push _⟩, fun b hb => ?_, fun _ _ => intItems_at, fun h' tk t' hk => ?_⟩)
  · show b < (s.heap.push _).objs.size
    rw [Heap.size_push]
    rcases List.mem_cons.mp hb with rfl | hb
    · exact Nat.lt_succ_self _
    · rw [List.mem_singleton.mp hb]; exact Nat.lt_succ_of_lt hlt
  · have := h h' tk t' fun b o e => hk b o (fun m => by
      have := Heap.lt_size e
      rw [List.mem_singleton.mp m] at this
      exact Nat.lt_irrefl _ this) (Heap.get?_push_of_some _ e)
    have e2 : preSum (numAt xs) (intItems xs).size = ns.sum := by
      rw [show (intItems xs).size = xs.size by simp [intItems], preSum_eq, List.take_of_length_le (by simp), hn]
    rw [e2]
    exact this
end
def rSumS (K : PySem.W.Frag) : List V → Hp → VK → Prop := fun vs H Q => ∃ (a : Addr) (ns : List Int), vs = [V.ref a] ∧ (SqL K H a (ns.map V.int) ∨ SqT K H a (ns.map V.int)) ∧ Q (.int ns.sum) H
theorem cr_sumS {X : Cx} (hc : X.calm = true) : CallR X (.builtin "sum") (rSumS X.K) := by
  intro pins s σ H vs us Q I r h
  obtain ⟨a, ns, rfl, hs, q⟩ := h
  rcases hs with hs | hs
  · obtain ⟨its, rv, hl, _⟩ := I.list hs
    rw [Vals.ref1 r]
    exact sum_raw (I.ok.hd hc) hl.isList rv.ints fun h' tk t' hk => ⟨.int _, H, I.kept hk, ⟨_, rfl⟩, q⟩
  · obtain ⟨its, rv, hl, _⟩ := I.tuple hs
    rw [Vals.ref1 r]
    exact sum_tup_raw (I.ok.hd hc) (show s.heap.IsTuple a its.toArray from hl) rv.ints fun h' tk t' hk => ⟨.int _, H, I.kept hk, ⟨_, rfl⟩, q⟩
section
variable {P : Program} {w : World} {K : PySem.W.Frag} {mg : Str → Option Value} {base : Heap} {k : Nat} {N : List Str} {sc : Scf} {pin : List Bool}
variable {a b c e tg : Expr} {pos p : Pos} {A O O2 : WO} {W W1 W2 : WE} {T T1 T2 : WT} {x : Str} {id : String} {f2 f3 : F2} {op op' : CmpOp}
def fSum : F1 := fun x Q => match seqOf x with
  | some ds => (match intsOf ds with
    | some ns => Q (.data (.int ns.sum))
    | none => False)
  | none => False
def fMinL : F1 := fun x Q => match lstOf x with
  | some ds => (match intsOf ds with
    | some ns => 0 < ns.length ∧ ∀ m, m ∈ ns → (∀ y, y ∈ ns → m ≤ y) → Q (.data (.int m))
    | none => False)
  | none => False
def fMaxL : F1 := fun x Q => match lstOf x with
  | some ds => (match intsOf ds with
    | some ns => 0 < ns.length ∧ ∀ m, m ∈ ns → (∀ y, y ∈ ns → y ≤ m) → Q (.data (.int m))
    | none => False)
  | none => False
theorem den_sum (hm : mg "sum" = none) (hg : GloB sc "sum" = true) (ha : DenO P w K mg base k N sc a A) (hs : ∀ env, starEach [a] env = (false, eval a env) :: starEach [] env := by intros; rfl) : DenE P w K mg base k N sc (.Call (.Name "sum" p) [a] [] pos) (w1 fSum A) :=
  den_b1 (r := rSumS K) (fun X hX => by rw [← hX.eK]; exact cr_sumS hX.calm) (fun G H x dx Q Qv l px h q => by
    unfold fSum at h
    split at h
    case h_2 => exact h.elim
    rename_i ds es
    split at h
    case h_2 => exact h.elim
    rename_i ns en
    obtain ⟨p, vs, ex, s, t⟩ := px.seq l es
    rw [intsOf_ok en] at t
    have := dpa_ints t
    subst this
    exact ⟨p, ns, by rw [ex], s, q _ H G _ _ h (Alloc.refl l) (.data (.int _))⟩) boot_sum hm hg ha hs
theorem den_minL (hm : mg "min" = none) (hg : GloB sc "min" = true) (ha : DenO P w K mg base k N sc a A) (hs : ∀ env, starEach [a] env = (false, eval a env) :: starEach [] env := by intros; rfl) : DenE P w K mg base k N sc (.Call (.Name "min" p) [a] [] pos) (w1 fMinL A) :=
  den_b1 (r := rMin K) (fun X hX => by rw [← hX.eK]; exact cr_min hX.calm) (fun G H x dx Q Qv l px h q => by
    unfold fMinL at h
    split at h
    case h_2 => exact h.elim
    rename_i ds es
    split at h
    case h_2 => exact h.elim
    rename_i ns en
    obtain ⟨p, vs, ex, s, t⟩ := px.lst l es
    rw [intsOf_ok en] at t
    have := dpa_ints t
    subst this
    exact ⟨p, ns, by rw [ex], s, h.1, fun m h1 h2 => q _ H G _ _ (h.2 m h1 h2) (Alloc.refl l) (.data (.int _))⟩) boot_min hm hg ha hs
theorem den_maxL (hm : mg "max" = none) (hg : GloB sc "max" = true) (ha : DenO P w K mg base k N sc a A) (hs : ∀ env, starEach [a] env = (false, eval a env) :: starEach [] env := by intros; rfl) : DenE P w K mg base k N sc (.Call (.Name "max" p) [a] [] pos) (w1 fMaxL A) :=
  den_b1 (r := rMax K) (fun X hX => by rw [← hX.eK]; exact cr_max hX.calm) (fun G H x dx Q Qv l px h q => by
    unfold fMaxL at h
    split at h
    case h_2 => exact h.elim
    rename_i ds es
    split at h
    case h_2 => exact h.elim
    rename_i ns en
    obtain ⟨p, vs, ex, s, t⟩ := px.lst l es
    rw [intsOf_ok en] at t
    have := dpa_ints t
    subst this
    exact ⟨p, ns, by rw [ex], s, h.1, fun m h1 h2 => q _ H G _ _ (h.2 m h1 h2) (Alloc.refl l) (.data (.int _))⟩) boot_max hm hg ha hs
def fIn (neg : Bool) : F2 := fun x y Q => match x, seqOf y with
  | .data (.int i), some ds => (match intsOf ds with
    | some ns => Q (.data (.bool (if neg then !decide (i ∈ ns) else decide (i ∈ ns))))
    | none => False)
  | _, _ => False
theorem flat_ints (ns : List Int) : (ns.map V.int).all flatV = true := by
  rw [List.all_eq_true]
  intro x hx
  obtain ⟨n, _, rfl⟩ := List.mem_map.1 hx
  rfl
theorem inV_ints (i : Int) : ∀ ns : List Int, inV (.int i) (ns.map V.int) = decide (i ∈ ns)
  | [] => rfl
  | n :: ns => by
    have ih := inV_ints i ns
    unfold inV at ih ⊢
    rw [List.map_cons, List.any_cons, ih]
    have e : eqV (.int n) (.int i) = decide (i = n) := by
      unfold eqV
      by_cases h : i = n
      · subst h; simp
      · have : ¬ n = i := fun z => h z.symm
        simp [h, this]
    rw [e]
    by_cases h : i = n <;> simp [h]
theorem snd_in {neg : Bool} : SndR2 K (rIn K neg) (fIn neg) := fun G H x y dx dy Q Qv l px py h q => by
  unfold fIn at h
  split at h
  case h_2 => exact h.elim
  rename_i i ds es
  split at h
  case h_2 => exact h.elim
  rename_i ns en
  obtain ⟨p, vs, ex, s, t⟩ := py.seq l es
  rw [intsOf_ok en] at t
  have := dpa_ints t
  subst this
  have exi : x = .int i := px.int
  subst exi
  refine ⟨p, ns.map V.int, ex, s, rfl, flat_ints ns, ?_⟩
  rw [inV_ints]
  exact q _ H G _ _ h (Alloc.refl l) (.data (.bl _))
theorem cmp_in : CmpR P w K mg base k N sc .In (fIn false) := ⟨rIn K false, fun X hX => by rw [← hX.eK]; exact op_in_seq, snd_in⟩
theorem cmp_ni : CmpR P w K mg base k N sc .NotIn (fIn true) := ⟨rIn K true, fun X hX => by rw [← hX.eK]; exact op_notIn_seq, snd_in⟩
end
end Kb
namespace Kb
open PySem PySem.Spec PyProof.Rows L2
section
variable {P : Program} {w : World} {K : PySem.W.Frag} {mg : Str → Option Value} {base : Heap} {k : Nat} {N : List Str} {sc : Scf} {pin : List Bool}
variable {H G : Hp} {B : Addr → Prop} {σ : L2.St} {env : Ev}
variable {a b c e tg : Expr} {pos p : Pos} {A O O2 : WO} {W W1 W2 : WE} {x y : Str}
/-! ### a, b = x, y -/
theorem dens_asgT {Wg : WG} (h : DenE P w K mg base k N sc e W) (hg : DenG P w K mg base k N sc pin tg Wg) (hw : ∀ env : Env, env.scope = sc.sc → swappedStores [tg] e env = pure none) (hs : ∀ env, swapsWithSole [tg] e pos.line env = pure false := by intros; rfl)
    (hm : ∀ env, (assignEach [tg] env).map (·.2) = [assign tg env] := by intros; rfl) : DenS P w K mg base k N sc pin (.Assign [tg] e pos) (sAsg W Wg) := by
  obtain ⟨te, h1, h2⟩ := h
  obtain ⟨g, g1, g2⟩ := hg
  exact ⟨_, fun X hX => ps_asg (h1 X hX) (g1 X hX) (hs X.env) (hw X.env hX.es) (hm X.env), snd_asg h2 g2⟩
def sPar (i j : Nat) (AA : WA) : WS := fun D env => AA env fun avs e => match dvsOf avs with
  | some [d1, d2] => D.nx ((e.set i (some d1)).set j (some d2))
  | _ => False
theorem dens_par {i j : Nat} {AA : WA} {px py pt : Pos} {kt k2 pt2} (hi : N[i]? = some x) (hj : N[j]? = some y) (hij : i ≠ j) (hpi : free pin i = true) (hpj : free pin j = true) (hx : sc.sc.names.lookup x = some .local) (hy : sc.sc.names.lookup y = some .local) (ha : DenA P w K mg base k N sc [a, b] AA)
    (hw : ∀ env : Env, env.scope = sc.sc → swappedStores [.Tuple [.Name x px, .Name y py] kt pt] (.Tuple [a, b] k2 pt2) env = pure (some [x, y]))
    (hs : ∀ env, swapsWithSole [.Tuple [.Name x px, .Name y py] kt pt] (.Tuple [a, b] k2 pt2) pos.line env = pure false := by intros; rfl) : DenS P w K mg base k N sc pin (.Assign [.Tuple [.Name x px, .Name y py] kt pt] (.Tuple [a, b] k2 pt2) pos) (sPar i j AA) := by
  obtain ⟨ta, h1, h2⟩ := ha
  refine ⟨_, fun X hX => ps_par (i := i) (j := j) hX.calm (by rw [hX.eN]; exact hX.nd) (by rw [hX.eN]; exact hi) (by rw [hX.eN]; exact hj) hij (by rw [hX.es]; exact hx) (by rw [hX.es]; exact hy) (h1 X hX) (hw X.env hX.es) (hs X.env), fun σ H G B env D DW c hw q => ?_⟩
  refine h2 σ H G B env _ _ c hw fun vs H1 G1 B1 C1 e1 avs hq r o => ?_
  split at hq
  case h_2 => exact hq.elim
  rename_i d1 d2 e
  have o1 := dvsOf_ok o e
  cases o1 with
  | cons s1 s2 dj hv ht =>
    cases ht with
    | cons s3 s4 dj2 hv2 ht2 =>
      cases ht2
      rename_i Ca Cx v1 Cb Cy v2
      have cc := r.conc
      have d0 := r.dis
      have f0 := r.frC
      refine ⟨v1, v2, rfl, q.nx _ H1 G1 (fun a => (B1 a ∨ Ca a) ∨ Cb a) _ hq ⟨cc.le, (cc.fr.or fun a z => f0 a (s1 a z)).or fun a z => f0 a (s2 a (s3 a z)), OwnE.put j (OwnE.put i cc.own hv fun a z y => ?_) hv2 fun a z y => ?_⟩ (r.step.less fun a z => ?_) ?_⟩
      · exact d0 a (s1 a z) y
      · exact y.elim (d0 a (s2 a (s3 a z))) fun y => dj a y (s3 a z)
      · exact z.elim (fun z => z.elim .inl fun z => .inr (s1 a z)) fun z => .inr (s2 a (s3 a z))
      · exact (pin_set hpi).tr (pin_set hpj)
/-! ### int of a truth; sorted whole numbers -/
def fInt : F1 := fun x Q => match x with
  | .data (.bool b) => Q (.data (.int (cond b 1 0)))
  | .data (.int i) => Q (.data (.int i))
  | _ => False
theorem den_int1 (hm : mg "int" = none) (hg : GloB sc "int" = true) (ha : DenO P w K mg base k N sc a A) (hs : ∀ env, starEach [a] env = (false, eval a env) :: starEach [] env := by intros; rfl) : DenE P w K mg base k N sc (.Call (.Name "int" p) [a] [] pos) (w1 fInt A) :=
  den_t1 (r := fun xs H Q => (∃ i, xs = [.int i] ∧ Q (.int i) H) ∨ ∃ k, xs = [.bl k] ∧ Q (.int (if k then 1 else 0)) H) (fun X hX => call_int1) (fun G H x dx Q Qv l px h q => by
    unfold fInt at h
    split at h
    · rename_i b
      have ex : x = .bl b := by
        obtain ⟨C, px⟩ := px
        cases px with
        | data px => cases px; rfl
      have eb : (if b = true then (1 : Int) else 0) = cond b 1 0 := by cases b <;> rfl
      exact .inr ⟨b, by rw [ex], by rw [eb]; exact q _ H G _ _ h (Alloc.refl l) (.data (.int _))⟩
    · rename_i i
      exact .inl ⟨i, by rw [px.int], q _ H G _ _ h (Alloc.refl l) (.data (.int _))⟩
    · exact h.elim) boot_int hm hg ha hs
def fSorted : F1 := fun x Q => match lstOf x with
  | some ds => (match intsOf ds with
    | some ns => ∀ ns' : List Int, ns'.Perm ns → ns'.Pairwise (· ≤ ·) → Q (.olist (ns'.map .int))
    | none => False)
  | none => False
theorem den_sorted (hm : mg "sorted" = none) (hg : GloB sc "sorted" = true) (ha : DenO P w K mg base k N sc a A) (hs : ∀ env, starEach [a] env = (false, eval a env) :: starEach [] env := by intros; rfl) : DenE P w K mg base k N sc (.Call (.Name "sorted" p) [a] [] pos) (w1 fSorted A) :=
  den_b1 (r := rSortedI K) (fun X hX => by rw [← hX.eK]; exact cr_sortedI) (fun G H x dx Q Qv l px h q => by
    unfold fSorted at h
    split at h
    case h_2 => exact h.elim
    rename_i ds es
    split at h
    case h_2 => exact h.elim
    rename_i ns en
    obtain ⟨p, vs, ex, s, t⟩ := px.lst l es
    rw [intsOf_ok en] at t
    have := dpa_ints t
    subst this
    refine ⟨p, ns, by rw [ex], s, fun ns' r h1 h2 nr => ?_⟩
    exact q _ _ _ _ _ (h ns' h1 h2) (Alloc.own (o := .lst (ns'.map V.int)) l nr) (.olist rfl upd_same (dpa_of_ints ns'))) boot_sorted hm hg ha hs
end
end Kb
namespace Kb
open PySem PySem.Spec PyProof.Rows L2
section
variable {P : Program} {w : World} {K : PySem.W.Frag} {mg : Str → Option Value} {base : Heap} {k : Nat} {N : List Str} {sc : Scf} {pin : List Bool} {x : Str} {pos : Pos} {tg : Expr} {T : WT} {W : WE}
variable {elt iter e : Expr} {ifs : List Expr} {scope : Scope} {own : List (Str × Nat)} {I : WI} {g : WG}
/-- a comprehension put to a name that is a cell -/
theorem dens_setCompC {i : Nat} {py spos : Pos} (hk : scope.kind = .function) (ok : blkC N sc.sc scope own = true) (hy : N[i]? = some x) (hl : LocB sc x = true) (hyc : sc.sc.names.lookup x = some .cell) (hp : free pin i = true)
    (hi : DenI P w K mg base k N sc tg iter I) (hc : CompOk P w K mg base k N (scB scope sc) tg elt ifs own g T W) (hs : ∀ env x, foldedSetIterable iter env x = pure x := by intros; rfl) :
    DenS P w K mg base k N sc pin (.Assign [.Name x py] (.ListComp elt [⟨tg, iter, ifs, 0⟩] scope pos) spos) (sAsg (wComp I g T W (own.map (·.2))) (gNm i)) := by
  obtain ⟨te, h1, h2⟩ := den_comp (pos := pos) hk ok hi hc hs
  refine ⟨_, fun X hX => ps_set (by rw [hX.eN]; exact hX.nd) (by rw [hX.eN]; exact hy) (by rw [hX.es]; exact loc_of hl) (h1 X hX) ?_ (by rw [hX.es, hX.fn]; exact fn_of_loc hl), snd_asg h2 (sndG_nm hp)⟩
  have ky : X.env.kindOf x = some .cell := by unfold Env.kindOf; rw [hX.es]; exact hyc
  unfold swapsWith
  simp only [ky, show ((some NameKind.cell : Option NameKind) == some NameKind.local) = false from rfl, show (NameKind.cell == NameKind.local) = false from rfl, Bool.and_false, Bool.false_and]
  try rfl
/-- what a call hands back, as data -/
def wFz (W : WE) : WE := fun env Q => W env fun dv e => dv.nd = true ∧ Q (.data dv.dat) e
theorem den_fz (h : DenE P w K mg base k N sc e W) : DenE P w K mg base k N sc e (wFz W) := by
  obtain ⟨te, h1, h2⟩ := h
  refine ⟨te, h1, fun σ H G B env Q Qv c hw q => ?_⟩
  refine h2 σ H G B env _ _ c hw fun v H1 G1 B1 C1 e1 dv hq r o => ?_
  obtain ⟨r2, dp⟩ := r.freeze o hq.1
  exact q v H1 _ B1 _ e1 (.data dv.dat) hq.2 r2 (.data dp)
end
/-! ### isinstance of one of two built-in classes -/
section
variable {P : Program} {w : World} {K : PySem.W.Frag} {mg : Str → Option Value} {base : Heap} {k : Nat} {N : List Str} {sc : Scf} {pin : List Bool} {x : Str} {pos p : Pos} {a : Expr} {A : WO}
def fIsi2 (T U : String) : F1 := fun x Q => x.nd = true ∧ Q (.data (.bool (isTy T (tyNm x) || isTy U (tyNm x))))
theorem den_isi2 {Tn Un : Str} {Tm Um : String} {p2 p3 p4 : Pos} {kt} (hk : ∀ a ∈ ["NoneType", "bool", "int", "str", "list", "tuple"], kitB a Tm = some (isTy Tm a)) (hk3 : ∀ a ∈ ["NoneType", "bool", "int", "str", "list", "tuple"], kitB a Um = some (isTy Um a)) (hm : mg "isinstance" = none) (hg : GloB sc "isinstance" = true) (hm2 : mg Tn = none) (hg2 : GloB sc Tn = true) (hm3 : mg Un = none) (hg3 : GloB sc Un = true) (hv : bootBuiltins Tn = some (.type Tm)) (hv3 : bootBuiltins Un = some (.type Um))
    (ha : DenO P w K mg base k N sc a A) (hs : ∀ env, starEach [a, .Tuple [.Name Tn p2, .Name Un p3] kt p4] env = (false, eval a env) :: starEach [.Tuple [.Name Tn p2, .Name Un p3] kt p4] env := by intros; rfl) (hs' : ∀ env, starEach [.Tuple [.Name Tn p2, .Name Un p3] kt p4] env = (false, eval (.Tuple [.Name Tn p2, .Name Un p3] kt p4) env) :: starEach [] env := by intros; rfl)
    (hs2 : ∀ env, starEach [.Name Tn p2, .Name Un p3] env = (false, eval (.Name Tn p2) env) :: starEach [.Name Un p3] env := by intros; rfl) (hs3 : ∀ env, starEach [.Name Un p3] env = (false, eval (.Name Un p3) env) :: starEach [] env := by intros; rfl)
    (hpl : ∀ env, (backTo pos (starEach [.Tuple [.Name Tn p2, .Name Un p3] kt p4] env)).any (·.1) = false := by intros; rfl) (hn : Tn ≠ "__name__" := by decide) (hd : (Tn == ("__debug__" : Str)) = false := by decide) (hn3 : Un ≠ "__name__" := by decide) (hd3 : (Un == ("__debug__" : Str)) = false := by decide) :
    DenE P w K mg base k N sc (.Call (.Name "isinstance" p) [a, .Tuple [.Name Tn p2, .Name Un p3] kt p4] [] pos) (w1 (fIsi2 Tm Um) A) := by
  obtain ⟨ta, a1, a2⟩ := ha
  refine ⟨tCB (rIsiT K) (tCons ta (tCons (tTup (tCons (tC (.ty Tm)) (tCons (tC (.ty Um)) tNil))) tNil)), fun X hX => by
    rw [← hX.eK]
    exact pe_callB call_isiT (gl_of hX hg) (by rw [hX.eg]; exact hm) boot_isinstance (pa_cons (a1 X hX) (pa_cons (pe_tup (pa_cons (pe_bltn (gl_of hX hg2) (by rw [hX.eg]; exact hm2) hv rfl hn hd) (pa_cons (pe_bltn (gl_of hX hg3) (by rw [hX.eg]; exact hm3) hv3 rfl hn3 hd3) pa_nil (hs3 X.env)) (hs2 X.env))) pa_nil (hs' X.env)) (hs X.env)) (by decide) (by decide) (hs X.env) (hpl X.env), ?_⟩
  refine snd_w1 (r := fun x H Q => tTup (tCons (tC (.ty Tm)) (tCons (tC (.ty Um)) tNil)) [] H fun t H2 => rIsiT K [x, t] H2 Q) (fun G H x dx Q Qv l px h q => ?_) a2
  refine ⟨by show 2 ≤ sizeLine; rw [sizeLine_eq]; omega, fun tp ntp => ?_⟩
  have al := Alloc.dat (o := .tup [.ty Tm, .ty Um]) l ntp
  have px2 : Pk K (upd G tp (.tup [.ty Tm, .ty Um])) (upd H tp (.tup [.ty Tm, .ty Um])) x dx := by
    obtain ⟨C, hC⟩ := px
    exact ⟨C, hC.mono al.g (fun a o _ e => al.h a o e) fun _ z => z⟩
  obtain ⟨hnd, h⟩ := h
  obtain ⟨t1, t2⟩ := px2.ty al.gh hnd
  refine ⟨x, tp, [.ty Tm, .ty Um], .type (tyNm dx), [.type Tm, .type Um], isTy Tm (tyNm dx) || isTy Um (tyNm dx), rfl, upd_same, .cons (.ty Tm) (.cons (.ty Um) .nil), t1, ?_, q _ _ _ _ _ h al (.data (.bl _))⟩
  refine kitAny_cons (kit_ty (hk _ t2)) (fun e => ?_) fun e => by rw [e]; rfl
  rw [e, Bool.false_or]
  exact kitAny_cons (kit_ty (hk3 _ t2)) (fun e2 => by rw [e2]; exact kitAny_nil) fun e2 => by rw [e2]
end
/-! ### a call that only looks: what is handed over stays, what comes back is flat -/
section
variable {P : Program} {w : World} {K : PySem.W.Frag} {mg : Str → Option Value} {base : Heap} {k : Nat} {N : List Str} {sc : Scf} {pin : List Bool} {x : Str} {pos p : Pos} {e : Expr}
variable {H G H1 G1 : Hp} {B C : Addr → Prop} {σ : L2.St}
def flatD : DV → Bool
  | .data .none => true
  | .data (.bool _) => true
  | .data (.int _) => true
  | _ => false
def datsA : List AV → Ev → Option (List PyData)
  | [], _ => some []
  | .val dv :: r, env => if dv.nd = true then (match datsA r env with
    | some l => some (dv.dat :: l)
    | none => none) else none
  | .bor i :: r, env => match env[i]? with
    | some (some dv) => if dv.nd = true then (match datsA r env with
      | some l => some (dv.dat :: l)
      | none => none) else none
    | _ => none
def wCallV (n : Nat) (fs : FS) (AA : WA) : WE := fun env Q => AA env fun avs e => match datsA avs e with
  | some ds => ds.length = n ∧ fs (ds.map .data) fun r ups => flatD r = true ∧ Q r e
  | none => False
theorem datsA_ok : ∀ {avs : List AV} {C : Addr → Prop} {vs : List V} {env : Ev} {ds : List PyData}, Le G H → OwnAs K G H σ C vs avs → OwnE K G H B σ env → datsA avs env = some ds → DpAll K H vs ds
  | _, _, _, _, _, l, .nil, oe, e => by cases e; exact .nil
  | _, _, _, _, _, l, .val s1 s2 d h t, oe, e => by
    unfold datsA at e
    split at e
    case isFalse => cases e
    rename_i hnd
    split at e
    · rename_i l2 e2
      cases e
      exact .cons (h.deep l hnd) (datsA_ok l t oe e2)
    · cases e
  | _, _, _, _, _, l, .bor (i := i) s t, oe, e => by
    unfold datsA at e
    split at e
    case h_2 => cases e
    rename_i dv ei
    split at e
    case isFalse => cases e
    rename_i hnd
    split at e
    case h_2 => cases e
    rename_i l2 e2
    cases e
    obtain ⟨v, s', o⟩ := oe.look ei
    have : v = _ := Option.some.inj (Option.some.inj (s'.symm.trans s))
    subst this
    exact .cons (o.deep l hnd) (datsA_ok l t oe e2)
theorem sel_none' : ∀ {vs : List V} (n : Nat), sel (List.replicate n false) vs = [] := sel_none
theorem snd_callV {n : Nat} {fs : FS} {AA : WA} {ta : TA} {E : XK} (ha : SndA K ta AA) : SndE K (tCall (spOf K (List.replicate n false) fs) [] E ta) (wCallV n fs AA) := by
  intro σ H G B env Q Qv c hw q
  refine ha σ H G B env _ _ c hw fun vs H1 G1 B1 C1 e1 avs hq r o => ?_
  rw [List.append_nil]
  split at hq
  case h_2 => exact hq.elim
  rename_i ds ed
  have dd := datsA_ok r.conc.le o r.conc.own ed
  refine ⟨by rw [List.length_replicate, dpa_len dd]; exact hq.1, H1, fun _ => False, ds.map .data, _, Le.rfl', fun _ z => z.elim, own_of_dat dd, hq.2, fun v H' G' B' C' rr ups hr st le f1 f2 dis ov ou => ?_⟩
  obtain ⟨fl, hr⟩ := hr
  have keep : Le H1 H' := fun a o z => by rw [(st.fr a (by rw [z]; exact fun y => nomatch y) id).1]; exact z
  refine q v H' G1 B1 (fun _ => False) e1 rr hr ⟨⟨r.conc.le.tr keep, fun a z => ⟨(r.conc.fr a z).1, st.th a (r.conc.fr a z).2⟩, r.conc.own.mono Le.rfl' (fun a o _ z => keep a o z) fun _ z => z⟩, fun _ z => z.elim, fun _ z => z.elim, ?_⟩ ?_
  · refine (Step.tr r.drop (B2 := B1) ⟨Le.rfl', fun a z => .inl z, fun a z _ => ⟨(st.fr a z id).1, rfl⟩, st.th⟩).less fun a z => z.elim id False.elim
  · unfold flatD at fl
    split at fl
    · cases ov with
      | data h => cases h; exact .data .non
    · cases ov with
      | data h => cases h; exact .data (.bl _)
    · cases ov with
      | data h => cases h; exact .data (.int _)
    · cases fl
theorem den_callV {es : List Expr} {AA : WA} {j n : Nat} {f : Addr} {fd : FuncData} {ps : List Str} {fs : FS} (F : Cal P w K mg base j x f fd ps (List.replicate n false) fs) (hj : j ≤ k) (hg : GloB sc x = true) (ha : DenA P w K mg base k N sc (e :: es) AA) (hdb : (x == ("__debug__" : Str)) = false := by decide)
    (hs : ∀ env, starEach (e :: es) env = (false, eval e env) :: starEach es env := by intros; rfl) (hpl : ∀ env, (backTo pos (starEach es env)).any (·.1) = false := by intros; rfl) : DenE P w K mg base k N sc (.Call (.Name x p) (e :: es) [] pos) (wCallV n fs AA) := by
  obtain ⟨ta, h1, h2⟩ := ha
  refine ⟨tCall (spOf K (List.replicate n false) fs) [] E0 ta, fun X hX => ?_, snd_callV h2⟩
  have F' : FnG X.prog X.w X.K X.mg X.base j f fd ps (spOf K (List.replicate n false) fs) := by rw [hX.eP, hX.ew, hX.eK, hX.eg, hX.eb]; exact F.ok
  exact pe_callG F' (hX.room.mono hj) hX.gd (gl_of hX hg) (by rw [hX.eg]; exact F.gl) (by rw [hX.eK]; exact F.kp) (by rw [hX.eK]; exact F.bd) (h1 X hX) hdb (hs X.env) (hpl X.env)
theorem den_globS {i : Str} {t : Tok} (hm : mg x = some (.str i t)) (hg : GloB sc x = true) (hd : (x == ("__debug__" : Str)) = false := by decide) : DenE P w K mg base k N sc (.Name x pos) (wC (.str i)) :=
  ⟨_, fun X hX => pe_glob (v := .str i) (gl_of hX hg) (by rw [hX.eg]; exact hm) ⟨t, rfl⟩ hd, snd_c fun _ => .str i⟩
/-- a def of which nothing is asked -/
theorem fn_never {f : Addr} {fd : FuncData} {ps : List Str} {mask : List Bool} : FnG P w K mg base k f fd ps (spOf K mask fun _ _ => False) where
  len := fun vs H Q E h => by
    obtain ⟨_, _, _, _, _, _, _, _, h, _⟩ := h
    exact h.elim
  go := fun A outer s H args us vs Q E hr hg e0 hb r h => by
    obtain ⟨_, _, _, _, _, _, _, _, h, _⟩ := h
    exact h.elim
end
end Kb
namespace Kb
open PySem PySem.Spec PyProof.Rows L2
section
variable {P : Program} {w : World} {K : PySem.W.Frag} {mg : Str → Option Value} {base : Heap} {k : Nat} {N : List Str} {sc : Scf} {pin : List Bool} {x : Str} {pos p : Pos} {a b e : Expr} {A O : WO}
variable {G H : Hp}
/-! ### an own list, so many times over -/
def fRep : F2 := fun x y Q => match x, y with
  | .olist ds, .data (.int k) => (-1000000 ≤ k ∧ k ≤ 1000000 ∧ ds.length * k.toNat ≤ lim) ∧ Q (.olist (List.replicate k.toNat ds).flatten)
  | _, _ => False
theorem dpa_rep {vs : List V} {ds : List PyData} (h : DpAll K G vs ds) : ∀ n : Nat, DpAll K G (List.replicate n vs).flatten (List.replicate n ds).flatten
  | 0 => .nil
  | n + 1 => by
    rw [List.replicate_succ, List.replicate_succ, List.flatten_cons, List.flatten_cons]
    exact dpa_app h (dpa_rep h n)
theorem den_mulL (ha : DenO P w K mg base k N sc a A) (hb : DenO P w K mg base k N sc b O) : DenE P w K mg base k N sc (.BinOp a .Mult b pos) (w2 fRep A O) :=
  den_bin (r := rRep) (fun _ _ => op_rep) (fun G H x y dx dy Q Qv l px py h q => by
    unfold fRep at h
    split at h
    case h_2 => exact h.elim
    rename_i ds k
    obtain ⟨C, hx⟩ := px
    cases hx with
    | @olist _ p vs _ hb hH hd =>
      have hp63 : (1000000 : Int) < 2 ^ 63 := by decide
      refine ⟨p, k, vs, rfl, py.int, hH, by omega, by omega, by rw [dpa_len hd]; exact lim_le h.1.2.2, fun l9 n9 => ?_⟩
      exact q _ _ _ _ _ h.2 (Alloc.own l n9) (.olist rfl upd_same (dpa_rep hd k.toNat))) ha hb
/-! ### a range with a step upward -/
section
variable {tg e u v : Expr} {W U V9 : WE}
def intsC (m c : Int) (n : Nat) : List PyData := (List.range n).map fun (k : Nat) => .int (m + (k : Int) * c)
def iRg3 (W U V9 : WE) : WI := fun env Q => W env fun dv e => U e fun du e2 => V9 e2 fun dw e3 => match dv, du, dw with
  | .data (.int m), .data (.int n), .data (.int c) => (0 ≤ m ∧ m ≤ n ∧ n ≤ 1000000 ∧ 1 ≤ c ∧ c ≤ 1000000) ∧ ∀ k : Nat, (k ≤ (n - m).toNat) → (∀ i : Nat, i < k → m + (i : Int) * c < n) → Q (intsC m c k) e3
  | _, _, _ => False
theorem itc_ok {lo c : Int} {n : Nat} (l : Le G H) : ItOk K (Itc lo c n) G (intsC lo c n) where
  go := fun H i _ hi => by unfold intsC at hi; rw [List.length_map, List.length_range] at hi; exact hi
  stop := fun H _ => by show n ≤ _; unfold intsC; rw [List.length_map, List.length_range]; exact Nat.le_refl _
  yld := fun H G1 H' i x l l1 hi y => by
    obtain ⟨e, f⟩ := y
    subst e f
    unfold intsC at hi ⊢
    rw [List.length_map, List.length_range] at hi
    exact ⟨.int (lo + (i : Nat) * c), G1, by rw [List.getElem?_map, List.getElem?_range hi]; rfl, Alloc.refl l1, .int _⟩
theorem rg_ok {m n c : Int} (h : 0 ≤ m ∧ m ≤ n ∧ n ≤ 1000000 ∧ 1 ≤ c ∧ c ≤ 1000000) : ∃ k : Nat, RgC m n c k ∧ k ≤ (n - m).toNat ∧ ∀ i : Nat, i < k → m + (i : Int) * c < n := by
  obtain ⟨h1, h2, h3, h4, h5⟩ := h
  have hs : Builtin.Range.rangeSize m n c = if m < n then (n - m - 1) / c + 1 else 0 := by
    unfold Builtin.Range.rangeSize
    rw [if_pos (show c > 0 by omega)]
  have hle : (n - m - 1) / c ≤ n - m - 1 ∨ n - m - 1 < 0 := by
    by_cases z : 0 ≤ n - m - 1
    · exact .inl (Int.ediv_le_self c z)
    · exact .inr (by omega)
  have hge : m < n → 0 ≤ (n - m - 1) / c := fun z => Int.ediv_nonneg (by omega) (by omega)
  have hz : 0 ≤ Builtin.Range.rangeSize m n c ∧ Builtin.Range.rangeSize m n c ≤ n - m := by
    rw [hs]
    split
    · rename_i z; have := hge z; omega
    · omega
  refine ⟨(Builtin.Range.rangeSize m n c).toNat, ⟨by omega, by omega, ?_, by omega⟩, by omega, fun i hi => ?_⟩
  · unfold Builtin.Range.small
    generalize hN : Builtin.Range.rangeSize m n c = N at hz
    have hc0 : c > 0 := by omega
    simp only [Builtin.Range.rangeFitsLong, Bool.and_eq_true, Bool.or_eq_true, decide_eq_true_eq, beq_iff_eq, hc0, if_true]
    omega
  · have hi' : (i : Int) < Builtin.Range.rangeSize m n c := by omega
    rw [hs] at hi'
    split at hi'
    · have h6 : (i : Int) ≤ (n - m - 1) / c := by omega
      have h7 := (Int.le_ediv_iff_mul_le (show 0 < c by omega)).1 h6
      omega
    · omega
theorem deni_range3 (hm : mg "range" = none) (hg : GloB sc "range" = true) (h : DenE P w K mg base k N sc e W) (h' : DenE P w K mg base k N sc u U) (h'' : DenE P w K mg base k N sc v V9)
    (hs : ∀ env, starEach [e, u, v] env = (false, eval e env) :: starEach [u, v] env := by intros; rfl) (hs2 : ∀ env, starEach [u, v] env = (false, eval u env) :: starEach [v] env := by intros; rfl) (hs3 : ∀ env, starEach [v] env = (false, eval v env) :: starEach [] env := by intros; rfl)
    (hpl : ∀ env, (backTo pos (starEach [u, v] env)).any (·.1) = false := by intros; rfl) :
    DenI P w K mg base k N sc tg (.Call (.Name "range" p) [e, u, v] [] pos) (iRg3 W U V9) := by
  obtain ⟨te, h1, h2⟩ := h
  obtain ⟨tu, h3, h4⟩ := h'
  obtain ⟨tv, h5, h6⟩ := h''
  refine ⟨iRng3 (tCons te (tCons tu (tCons tv tNil))), fun X hX => pi_range3 (gl_of hX hg) (by rw [hX.eg]; exact hm) (pa_cons (h1 X hX) (pa_cons (h3 X hX) (pa_cons (h5 X hX) pa_nil (hs3 X.env)) (hs2 X.env)) (hs X.env)) (hs X.env) (hpl X.env), fun σ H G B env Q R c hw q => ?_⟩
  refine h2 σ H G B env _ _ c hw fun x H1 G1 B1 C1 e1 dv hq r o => ?_
  refine h4 σ H1 G1 B1 e1 _ _ r.conc hq fun x2 H2 G2 B2 C2 e2 du hq2 r2 o2 => ?_
  refine h6 σ H2 G2 B2 e2 _ _ r2.conc hq2 fun x3 H3 G3 B3 C3 e3 dw hq3 r3 o3 => ?_
  have o' := (o.later r2.step r.frC r.dis)
  split at hq3
  case h_2 => exact hq3.elim
  rename_i m n c
  obtain ⟨kk, a1, a2, a3⟩ := rg_ok hq3.1
  refine ⟨m, n, c, kk, by rw [int_of o', int_of o2, int_of o3], a1, ?_⟩
  exact q _ _ _ _ _ _ (hq3.2 kk a2 a3) r3.conc ((r.drop.tr r2.drop).tr r3.drop) (itc_ok r3.conc.le)
end
end
end Kb
namespace Kb
open PySem PySem.Spec PyProof.Rows L2
/-! ### enumerate of a tuple -/
set_option maxHeartbeats 1000000 in
theorem meets_enum1 {v : Value} {o : Obj} {H : Heap → Prop} (B : Begins v o H) :
    Meets (Builtin.«enumerate.__new__» ⟨[.type "enumerate", v], []⟩) (fun _ R s => H s.heap ∧
      R (.ok (.ret (.ref (s.heap.push o).objs.size))) { s with heap := (s.heap.push o).push { cls := .type "enumerate", data := .fields #[.none, .bool false, .ref s.heap.objs.size, rawInt 0, .none, .none] } }) :=
  .of_wp fun prog w A R s h => by
    obtain ⟨hp, g, d, tk, os⟩ := s; obtain ⟨h1, h⟩ := h
    have hsub := sub_enumerate
    have q1 : ∀ {A' : Around} {E : Value → Shared → Prop} {Q : Value → Shared → Prop}, Q (.ref hp.objs.size) ⟨hp.push o, g, d, tk, os⟩ → wpAny (model prog w) A' (pyIter v) Q E ⟨hp, g, d, tk, os⟩ :=
      fun q => B.iter prog w _ _ ⟨hp, g, d, tk, os⟩ _ h1 q
    wp_walk using q1
    refine wpAny_stack_any fun st => wpAny_pure ?_
    split
    · rename_i c _ _ _ _ _
      cases (c == Value.type "enumerate")
      · wp_walk using q1
        exact ⟨_, rfl, h⟩
      · wp_walk using q1
        exact ⟨_, rfl, h⟩
    · wp_walk using q1
      exact ⟨_, rfl, h⟩
theorem call_enum1 {prog : Program} {w : World} {A : Around} {E : Value → Shared → Prop} {s : Shared} {v : Value} {o : Obj} {H : Heap → Prop} {Q : Value → Shared → Prop} (B : Begins v o H) (h1 : H s.heap)
    (h : ∀ h', IsEnum h' (s.heap.objs.size + 1) s.heap.objs.size 0 .none → h'.get? s.heap.objs.size = some o → h'.objs.size = s.heap.objs.size + 2 →
      (∀ b o, s.heap.get? b = some o → h'.get? b = some o) → Q (.ref (s.heap.objs.size + 1)) { s with heap := h' }) :
    wpAny (model prog w) A (call (.type "enumerate") [v]) Q E s := by
  refine callType_new F.called_enumerate (by decide) (F.typeCall_enumerate_1 _) (F.newCall_enumerate_1 _) (fun obj => F.args_object_init_2 obj _) F.entry_enumerate_new
    (meets_enum1 B) ⟨h1, ?_⟩
  have hz : (s.heap.push o).objs.size = s.heap.objs.size + 1 := Heap.size_push ..
  show _ ∧ _
  rw [hz]
  have he : IsEnum ((s.heap.push o).push { cls := .type "enumerate", data := .fields #[.none, .bool false, .ref s.heap.objs.size, rawInt 0, .none, .none] }) (s.heap.objs.size + 1) s.heap.objs.size 0 .none := by
    have := Heap.get?_push_size (s.heap.push o) (o := { cls := .type "enumerate", data := .fields #[.none, .bool false, .ref s.heap.objs.size, rawInt 0, .none, .none] }) rfl
    rw [hz] at this; exact this
  refine ⟨⟨_, he, rfl⟩, h _ he (Heap.get?_push_of_some _ (Heap.get?_push_size _ B.free)) (by rw [Heap.size_push, hz]) fun b o x => Heap.get?_push_of_some _ (Heap.get?_push_of_some _ x)⟩
theorem enum_endT {prog : Program} {w : World} {A : Around} {E : Value → Shared → Prop} {s : Shared} {e it a : Addr} {j : Int} {i : Nat} {items : Array Value} {old : Value} {Q : Option Value → Shared → Prop} (hh : A.in1.handled = none)
    (he : IsEnum s.heap e it j old) (hit : s.heap.IsTupleIter it a i) (hT0 : s.heap.IsTuple a items) (hi : items.size ≤ i)
    (hQ : ∀ h', Heap.ExtBut it s.heap h' → Q none { s with heap := h' }) : wpAny (model prog w) A (pyNext (.ref e)) Q E s := by
  have hT : s.TypeIs (.ref e) "enumerate" := ⟨_, he, rfl⟩
  unfold pyNext
  refine wpAny_bind (wpAny_attempt (wpAny_callSpecial?_slot (name := Str.ofString "__next__") hT F.slot_enumerate_next
    (wpAny_call_entry F.slot_enumerate_next hT F.entry_enumerate_next ?_ (F.args_enumerate_next_1 _))))
  show wpAny _ _ (field (.ref e) 2 >>= _) _ _ _
  refine wpAny_bind (wpAny_field he rfl (x := .ref it) rfl ?_)
  refine wpAny_bind (wpAny_nextOf_tuple_end hh hit hT0 (by simpa using hi) fun h' x he' hx' => ?_)
  obtain ⟨o, ho, hc⟩ := hx'
  refine wpAny_bind (wpAny_isInstance (T := "StopIteration") (b := true) ⟨o, ho, hc⟩ isSubtype_stop ?_)
  exact wpAny_pure (hQ _ he')
def IteT (K : PySem.W.Frag) (a : Addr) : It :=
  ⟨fun i H => ∃ (xs : List V) (x : V), SqT K H a xs ∧ xs[i]? = some x, fun i H v H' => ∃ T x, v = .ref T ∧ H T = none ∧ H' = upd H T (.tup [.int (i : Nat), x]) ∧ ∀ xs, SqT K H a xs → xs[i]? = some x, fun i H => ∃ xs : List V, SqT K H a xs ∧ xs.length ≤ i⟩
theorem turn_enumT {P : Program} {w : World} {K : PySem.W.Frag} {elts : List Expr} {kk : Nat} {tpos : Pos} (a e it : Addr) :
    Turn P w K (.Tuple elts kk tpos) (IteT K a) [e, it] e (fun i h => (∃ old, IsEnum h e it ((i : Nat) : Int) old) ∧ h.IsTupleIter it a i ∧ e ≠ it) where
  mem := by simp
  obj := fun i h st b hb => by
    obtain ⟨⟨old, he⟩, ⟨o, ho, hc, hd⟩, _⟩ := st
    have e' : b = e ∨ b = it := by simpa using hb
    rcases e' with z | z
    · rw [z]; exact ⟨_, he, fun v q => nomatch q⟩
    · rw [z]; exact ⟨o, ho, fun v q => by rw [hd] at q; cases q⟩
  keep := fun i h h' st k => let ⟨⟨old, he⟩, hi, hne⟩ := st; ⟨⟨old, k e (by simp) _ he⟩, hi.at fun o q => k it (by simp) o q, hne⟩
  item := by
    intro X hP hw hK hc i pins s σ H E I hf st hg
    subst hP hw hK
    obtain ⟨⟨old, he⟩, hit, hne⟩ := st
    obtain ⟨xs, x, hq, hx⟩ := hg
    obtain ⟨its, rv, p, hz⟩ := I.tuple hq
    obtain ⟨u, hu, ru⟩ := rv.get hx
    have hT0 : s.heap.IsTuple a its.toArray := p
    have hat : a ≠ it := fun z => by
      obtain ⟨o1, g1, c1, _⟩ := hT0
      obtain ⟨o2, g2, c2, _⟩ := hit
      rw [z, g2] at g1; cases g1
      rw [c1] at c2
      injection c2 with c3
      exact absurd c3 (by decide)
    have hae : e ≠ a := fun z => by
      obtain ⟨o1, g1, c1, _⟩ := hT0
      have he' : s.heap.get? e = some _ := he
      rw [z, g1] at he'
      injection he' with he'
      rw [he'] at c1
      injection c1 with c3
      exact absurd c3 (by decide)
    have hel : e < s.heap.objs.size := Heap.lt_size he
    have hil : it < s.heap.objs.size := by obtain ⟨_, q, _⟩ := hit; exact Heap.lt_size q
    have hlt : i < its.toArray.size := by
      have := (List.getElem?_eq_some_iff.1 hx).1
      rw [rv.length] at this
      simpa using this
    have D := Draws.tuple (prog := X.prog) (w := X.w) (A := X.A.in1) (I.ok.hd hc) it a hat its.toArray
    refine wpAny_pyNext_enum_itemD D he ⟨hit, hT0⟩ hlt hne (by simp; exact ⟨hne, hae⟩) fun x' h' tk hPx ho hst' hT hsz hk => ?_
    have ex' : x' = u := by
      have h1 : its.toArray[i]? = some x' := hPx
      have h2 : its.toArray[i]? = some u := by simpa using hu
      rw [h1] at h2; exact Option.some.inj h2
    subst ex'
    refine ⟨_, rfl, wpAny_letOwnedTupleGo_enum (s := { s with heap := h', toks := tk + 1 }) ho fun h'' he' sb => ?_⟩
    have hT2 : h''.get? s.heap.objs.size = some { cls := .type "tuple", data := .seq #[.int i tk, x'] } := (sb.2 _ (Nat.ne_of_gt hel)).trans hT
    have new : ObjOk X.prog X.w (upd H s.heap.objs.size (.tup [.int (i : Nat), x])) h'' s.heap.objs.size (.tup [.int (i : Nat), x]) :=
      ⟨by show 2 ≤ sizeLine; decide, [.int i tk, x'], .cons ⟨_, rfl⟩ (.cons ru .nil), ⟨_, hT2, rfl, _, rfl⟩⟩
    have I1 : Inv X pins σ (upd H s.heap.objs.size (.tup [.int (i : Nat), x])) { s with heap := h'', toks := tk + 1 } :=
      I.turnedNew (ch := [e, it]) (fun b ob hb q => (sb.2 b (fun z => hb (by simp [z]))).trans (hk b ob (fun z => hb (by simp [z])) (fun z => hb (by simp [z])) q)) hf (Nat.le_refl _) new
    refine ⟨.ref s.heap.objs.size, _, I1, rfl, ⟨_, x, rfl, I.hok.fresh (Nat.le_refl _), rfl, fun ys hy => by rw [I.tuple_inj hy hq]; exact hx⟩, ⟨⟨x', ?_⟩, hst'.1.at fun o q => (sb.2 it (Ne.symm hne)).trans q, hne⟩, fun b hb => ?_⟩
    · have e1 : ((i + 1 : Nat) : Int) = (i : Int) + 1 := by omega
      rw [e1]; exact he'
    · have hb' : b < s.heap.objs.size := by
        have e' : b = e ∨ b = it := by simpa using hb
        rcases e' with z | z
        · rw [z]; exact hel
        · rw [z]; exact hil
      rw [upd_ne (Nat.ne_of_lt hb')]
      exact (hf b hb).1
  done := by
    intro X hP hw hK hc i pins s σ H E I hf st hg
    subst hP hw hK
    obtain ⟨⟨old, he⟩, hit, hne⟩ := st
    obtain ⟨xs, hq, hx⟩ := hg
    obtain ⟨its, rv, p, hz⟩ := I.tuple hq
    have hT0 : s.heap.IsTuple a its.toArray := p
    have hat : a ≠ it := fun z => by
      obtain ⟨o1, g1, c1, _⟩ := hT0
      obtain ⟨o2, g2, c2, _⟩ := hit
      rw [z, g2] at g1; cases g1
      rw [c1] at c2
      injection c2 with c3
      exact absurd c3 (by decide)
    obtain ⟨f0, f1, f2, f3, f4, f5⟩ := hf it (by simp)
    have hl := rv.length
    exact enum_endT (I.ok.hd hc) he hit hT0 (by simp; omega) fun h' eb => ⟨rfl, I.turned (t' := s.toks) (fun b o hb q => eb b o hb q) f0 f1 f3 f4 f5⟩
  self := fun A i s Q E st h => let ⟨⟨_, he⟩, _⟩ := st; wpAny_pyIter_enum he h
def iEnumT (K : PySem.W.Frag) (ta : TA) : TI := fun σ H R => ta σ H fun vs H1 => ∃ a xs, vs = [.ref a] ∧ SqT K H1 a xs ∧ R (IteT K a) H1
theorem pi_enumT {X : Cx} {e : Expr} {ta : TA} {p pos tpos : Pos} {elts : List Expr} {kk : Nat} (hg : Gl X "enumerate") (hm : X.mg "enumerate" = none) (ha : PA X [e] ta) (hs : starEach [e] X.env = [(false, eval e X.env)] := by rfl) :
    PI X (.Tuple elts kk tpos) (.Call (.Name "enumerate" p) [e] [] pos) (iEnumT X.K ta) := by
  refine ⟨fun pins s σ H R I h => ?_⟩
  refine Call_ (ld_blt I hg hm boot_enumerate (PyProof.Rows.callWith_type1 (thn (ha.run pos pins s σ H _ I h) fun us s1 ⟨vs, H1, I1, r1, q1⟩ => ?_) hs rfl))
  obtain ⟨a, xs, ex, hq, q⟩ := q1
  subst ex
  cases r1 with
  | cons r rr =>
    cases rr
    cases r
    obtain ⟨its, rv, p', hz⟩ := I1.tuple hq
    have hT0 : s1.heap.IsTuple a its.toArray := p'
    refine call_enum1 (begins_tuple a its.toArray) hT0 fun h' he hit hsz hk => wpAny_pyIter_enum he ?_
    have I2 : Inv X pins σ H1 { s1 with heap := h' } := I1.kept (t' := s1.toks) hk
    have hit' : h'.IsTupleIter s1.heap.objs.size a 0 := ⟨_, hit, rfl, rfl⟩
    refine ⟨s1.heap.objs.size + 1, [s1.heap.objs.size + 1, s1.heap.objs.size], _, _, H1, rfl, I2, turn_enumT a (s1.heap.objs.size + 1) s1.heap.objs.size, ⟨⟨.none, he⟩, hit', Nat.succ_ne_self _⟩, fun b hb => ?_, q⟩
    have e' : b = s1.heap.objs.size + 1 ∨ b = s1.heap.objs.size := by simpa using hb
    have hle : s1.heap.objs.size ≤ b := by
      rcases e' with z | z
      · rw [z]; exact Nat.le_add_right _ _
      · rw [z]; exact Nat.le_refl _
    exact I1.fpOk hle (I1.hok.fresh hle)
section
variable {P : Program} {w : World} {K : PySem.W.Frag} {mg : Str → Option Value} {base : Heap} {k : Nat} {N : List Str} {sc : Scf} {pos p : Pos} {e : Expr} {W : WE} {G H : Hp}
def iEnuT (W : WE) : WI := fun env Q => W env fun dv e => match dv.dat with
  | .tuple ds => Q (enumD ds) e
  | _ => False
theorem iteT_ok {ad : Addr} {vs : List V} {ds : List PyData} (s : SqT K G ad vs) (t : DpAll K G vs ds) : ItOk K (IteT K ad) G (enumD ds) where
  go := fun H i l hi => by
    unfold enumD at hi
    rw [List.length_map, List.length_range] at hi
    exact ⟨vs, vs[i]'(by rw [dpa_len t]; exact hi), sqt_le l s, by simp⟩
  stop := fun H l => by
    show ∃ xs : List V, _ ∧ xs.length ≤ _
    unfold enumD
    rw [List.length_map, List.length_range]
    exact ⟨vs, sqt_le l s, by rw [dpa_len t]; exact Nat.le_refl _⟩
  yld := fun H G1 H' i x l l1 hi y => by
    obtain ⟨T, z, rfl, nT, rfl, f⟩ := y
    unfold enumD at hi
    rw [List.length_map, List.length_range] at hi
    obtain ⟨d, e1, e2⟩ := dpa_get' t (f vs (sqt_le (l.tr l1) s))
    have al := Alloc.dat (o := .tup [.int (i : Nat), z]) l1 nT
    refine ⟨.tuple [.int (i : Nat), d], _, ?_, al, .tup (.inl (.inl upd_same)) (.cons (.int _) (.cons (dp_le (l.tr al.g) e2) .nil))⟩
    unfold enumD
    rw [List.getElem?_map, List.getElem?_range hi]
    have e3 : ds.getD i .none = d := by rw [List.getD_eq_getElem?_getD, e1]; rfl
    show some (PyData.tuple [PyData.int (i : Nat), ds.getD i .none]) = _
    rw [e3]
theorem deni_enumT {elts : List Expr} {kk : Nat} {tpos : Pos} (hm : mg "enumerate" = none) (hg : GloB sc "enumerate" = true) (h : DenE P w K mg base k N sc e W) (hs : ∀ env, starEach [e] env = [(false, eval e env)] := by intros; rfl) :
    DenI P w K mg base k N sc (.Tuple elts kk tpos) (.Call (.Name "enumerate" p) [e] [] pos) (iEnuT W) := by
  obtain ⟨te, h1, h2⟩ := h
  refine ⟨iEnumT K (tCons te tNil), fun X hX => by rw [← hX.eK]; exact pi_enumT (gl_of hX hg) (by rw [hX.eg]; exact hm) (pa_cons (h1 X hX) pa_nil (hs X.env)) (hs X.env), fun σ H G B env Q R c hw q => ?_⟩
  refine h2 σ H G B env _ _ c hw fun v H1 G1 B1 C1 e1 dv hq r o => ?_
  split at hq
  case h_2 => exact hq.elim
  rename_i ds es
  obtain ⟨r2, dp⟩ := r.freeze o (by cases dv with | odict k => cases es | sdict k => cases es | _ => rfl)
  rw [es] at dp
  cases dp with
  | tup s t => exact ⟨_, _, rfl, sqt_le r2.conc.le s, q _ _ _ _ _ _ hq r2.conc r2.drop (iteT_ok s t)⟩
end
/-! ### a list's truth -/
section
variable {P : Program} {w : World} {K : PySem.W.Frag} {mg : Str → Option Value} {base : Heap} {k : Nat} {N : List Str} {sc : Scf} {e : Expr} {W : WE} {G H : Hp}
def tTr (W : WE) : WT := fun env Q => W env fun x e => match lstOf x with
  | some ds => Q (!ds.isEmpty) e
  | none => False
theorem empty_len {α β : Type} {xs : List α} {ys : List β} (h : xs.length = ys.length) : xs.isEmpty = ys.isEmpty := by
  cases xs <;> cases ys <;> simp_all
theorem dent_tr (h : DenE P w K mg base k N sc e W) (he : ∀ (env : Env) whole, isTrue e env whole = (do let v ← whole; standAt e.pos; holding [v] (truthy v)) := by intro _ _; rfl) : DenT P w K mg base k N sc e (tTr W) := by
  obtain ⟨te, h1, h2⟩ := h
  refine ⟨fun σ H Q => te σ H fun x H' => ∃ k, TruV K x H' k ∧ Q k H', fun X hX => by rw [← hX.eK]; exact pt_truth (h1 X hX) (he X.env), fun σ H G B env Q Qv c hw q => ?_⟩
  refine h2 σ H G B env _ _ c hw fun v H1 G1 B1 C1 e1 dv hq r o => ?_
  split at hq
  case h_2 => exact hq.elim
  rename_i ds es
  obtain ⟨p, vs, rfl, s, t⟩ : ∃ p vs, v = .ref p ∧ SqL K H1 p vs ∧ vs.length = ds.length := by
    cases o with
    | @data _ _ d hd =>
      cases hd with
      | lst s a =>
        have : lstOf (.data (.list _)) = some ds := es
        cases this
        exact ⟨_, _, rfl, sql_le r.conc.le s, dpa_len a⟩
      | _ => cases es
    | olist b hb tt =>
      cases es
      exact ⟨_, _, rfl, .inl (.inl hb), dpa_len tt⟩
    | otup _ _ => cases es
    | odict _ _ _ _ _ => cases es
    | sdict _ _ _ _ => cases es
  exact ⟨!vs.isEmpty, .inl ⟨vs, s, rfl⟩, by rw [empty_len t]; exact q _ H1 G1 B1 e1 hq r.conc r.drop⟩
end
/-! ### a, b, c = x, y, z -/
section
variable {P : Program} {w : World} {K : PySem.W.Frag} {mg : Str → Option Value} {base : Heap} {k : Nat} {N : List Str} {sc : Scf} {pin : List Bool} {pos : Pos} {a b c : Expr} {x y z : Str}
def sPar3 (i j l : Nat) (AA : WA) : WS := fun D env => AA env fun avs e => match dvsOf avs with
  | some [d1, d2, d3] => D.nx (((e.set i (some d1)).set j (some d2)).set l (some d3))
  | _ => False
theorem dens_par3 {i j l : Nat} {AA : WA} {px py pz pt : Pos} {kt k2 pt2} (hi : N[i]? = some x) (hj : N[j]? = some y) (hl : N[l]? = some z) (hij : i ≠ j) (hil : i ≠ l) (hjl : j ≠ l) (hpi : free pin i = true) (hpj : free pin j = true) (hpl : free pin l = true)
    (hx : sc.sc.names.lookup x = some .local) (hy : sc.sc.names.lookup y = some .local) (hz : sc.sc.names.lookup z = some .local) (ha : DenA P w K mg base k N sc [a, b, c] AA)
    (hw : ∀ env : Env, env.scope = sc.sc → swappedStores [.Tuple [.Name x px, .Name y py, .Name z pz] kt pt] (.Tuple [a, b, c] k2 pt2) env = pure (some [x, y, z]))
    (hs : ∀ env, swapsWithSole [.Tuple [.Name x px, .Name y py, .Name z pz] kt pt] (.Tuple [a, b, c] k2 pt2) pos.line env = pure false := by intros; rfl) : DenS P w K mg base k N sc pin (.Assign [.Tuple [.Name x px, .Name y py, .Name z pz] kt pt] (.Tuple [a, b, c] k2 pt2) pos) (sPar3 i j l AA) := by
  obtain ⟨ta, h1, h2⟩ := ha
  refine ⟨_, fun X hX => ps_par3 (i := i) (j := j) (l := l) hX.calm (by rw [hX.eN]; exact hX.nd) (by rw [hX.eN]; exact hi) (by rw [hX.eN]; exact hj) (by rw [hX.eN]; exact hl) hij hil hjl (by rw [hX.es]; exact hx) (by rw [hX.es]; exact hy) (by rw [hX.es]; exact hz) (h1 X hX) (hw X.env hX.es) (hs X.env), fun σ H G B env D DW c hw q => ?_⟩
  refine h2 σ H G B env _ _ c hw fun vs H1 G1 B1 C1 e1 avs hq r o => ?_
  split at hq
  case h_2 => exact hq.elim
  rename_i d1 d2 d3 e
  have o1 := dvsOf_ok o e
  cases o1 with
  | cons s1 s2 dj hv ht =>
    cases ht with
    | cons s3 s4 dj2 hv2 ht2 =>
      cases ht2 with
      | cons s5 s6 dj3 hv3 ht3 =>
        cases ht3
        rename_i Ca Cx v1 Cb Cy v2 Cc Cz v3
        have cc := r.conc
        have d0 := r.dis
        have f0 := r.frC
        refine ⟨v1, v2, v3, rfl, q.nx _ H1 G1 (fun a => ((B1 a ∨ Ca a) ∨ Cb a) ∨ Cc a) _ hq ⟨cc.le, ((cc.fr.or fun a z => f0 a (s1 a z)).or fun a z => f0 a (s2 a (s3 a z))).or fun a z => f0 a (s2 a (s4 a (s5 a z))), OwnE.put l (OwnE.put j (OwnE.put i cc.own hv fun a z y => ?_) hv2 fun a z y => ?_) hv3 fun a z y => ?_⟩ (r.step.less fun a z => ?_) ?_⟩
        · exact d0 a (s1 a z) y
        · exact y.elim (d0 a (s2 a (s3 a z))) fun y => dj a y (s3 a z)
        · rcases y with (y | y) | y
          · exact d0 a (s2 a (s4 a (s5 a z))) y
          · exact dj a y (s4 a (s5 a z))
          · exact dj2 a y (s5 a z)
        · rcases z with ((z | z) | z) | z
          · exact .inl z
          · exact .inr (s1 a z)
          · exact .inr (s2 a (s3 a z))
          · exact .inr (s2 a (s4 a (s5 a z)))
        · exact ((pin_set hpi).tr (pin_set hpj)).tr (pin_set hpl)
end
end Kb
namespace Kb
open PySem PySem.Spec PyProof.Rows L2
/-! ### l.index(n): a list of whole numbers -/
section
variable {P : Program} {w : World} {K : PySem.W.Frag} {mg : Str → Option Value} {base : Heap} {k : Nat} {N : List Str} {sc : Scf} {pos p apos : Pos} {e : Expr} {x : Str} {i : Nat} {W : WE}
def wIndex (i : Nat) (W : WE) : WE := fun env Q => match env[i]? with
  | some (some (.olist _)) => W env fun dv e => (match dv, e[i]? with
    | .data (.int n), some (some (.olist ds)) => (match intsOf ds with
      | some ns => ∃ j : Nat, ns[j]? = some n ∧ (∀ (m : Nat) (z : Int), m < j → ns[m]? = some z → z ≠ n) ∧ Q (.data (.int j)) e
      | none => False)
    | _, _ => False)
  | _ => False
theorem den_index (hN : N[i]? = some x) (hv : SeeB sc x = true) (h : DenE P w K mg base k N sc e W) (hbase : ∀ env, attributeBase (.Name x p) "index" env (eval (.Name x p) env) = eval (.Name x p) env := by intros; rfl)
    (hfew : ∀ env, ((backTo pos (starEach [e] env)).all (fun x => !x.1) && (backToKw pos (keywordEach [] env)).all (fun x => x.1.isSome) && decide (([e] : List Expr).length + ([] : List Keyword).length + (if ([] : List Keyword).isEmpty then 0 else 1) < 30)) = true := by intros; rfl)
    (hline : (apos.endLine == pos.line) = true := by rfl) (hs : ∀ env, starEach [e] env = (false, eval e env) :: starEach [] env := by intros; rfl) (hd : (x == ("__debug__" : Str)) = false := by decide) (hcd : (x == ("__classdict__" : Str)) = false := by decide) :
    DenE P w K mg base k N sc (.Call (.Attribute (.Name x p) "index" apos) [e] [] pos) (wIndex i W) := by
  obtain ⟨te, h1, h2⟩ := h
  refine ⟨tBM K "list" (rIndex K) (tVar i) (tCons te tNil), fun X hX => by
    rw [← hX.eK]
    exact pe_bm PySem.F.plainAttrs_list PySem.F.slot_list_index PySem.F.type_list_index mt_index (pe_nm hX hN hv hd hcd) (pa_cons (h1 X hX) pa_nil (hs X.env)) (hbase X.env) (hfew X.env) hline (hs X.env) rfl, fun σ H G B env Q Qv c hw q => ?_⟩
  unfold wIndex at hw
  split at hw
  case h_2 => exact hw.elim
  rename_i ds0 e0
  obtain ⟨p0, vs0, a0, hp0, _, _⟩ := c.mut e0
  refine ⟨_, a0, tyV_lst hp0, ?_⟩
  refine h2 σ H G B env _ _ c hw fun v H1 G1 B1 C1 e1 dv hq r o => ?_
  split at hq
  case h_2 => exact hq.elim
  rename_i n ds e2
  split at hq
  case h_2 => exact hq.elim
  rename_i ns en
  obtain ⟨j, hj, hm, hq⟩ := hq
  obtain ⟨p1, vs, a1, hp, t, m⟩ := r.conc.mut e2
  rw [a0] at a1
  cases a1
  rw [intsOf_ok en] at t
  have ev := dpa_ints t
  subst ev
  refine ⟨p0, ns.map V.int, V.int n, j, V.int n, rfl, by rw [int_of o], .inl (.inl hp), rfl, ?_, ?_, ?_, ?_, ?_⟩
  · rw [List.all_map]; exact List.all_eq_true.2 fun _ _ => rfl
  · rw [List.getElem?_map, hj]; rfl
  · show (n == n) = true; simp
  · intro m z' h1 h3
    rw [List.getElem?_map] at h3
    cases hz : ns[m]? with
    | none => rw [hz] at h3; cases h3
    | some z =>
      rw [hz] at h3
      cases h3
      show (z == n) = false
      simpa using hm m z h1 hz
  · exact q _ _ _ _ _ _ _ hq (Res.tr r.drop r.conc.step0) (.data (.int _))
end
/-! ### a, b, .. = a list of that length -/
section
variable {P : Program} {w : World} {K : PySem.W.Frag} {mg : Str → Option Value} {base : Heap} {k : Nat} {N : List Str} {sc : Scf} {pin : List Bool} {pos : Pos}
def gLs (is : List Nat) : WG := fun dv env Q => match lstOf dv with
  | some ds => ds.length = is.length ∧ Q (setAll env is (ds.map .data))
  | none => False
theorem sndG_ls {is : List Nat} (hp : ∀ i ∈ is, free pin i = true) : SndG K pin (gLst K is.length (gNms is)) (gLs is) := by
  intro v dv σ H G B C env Q Qg c f d o hw q
  unfold gLs at hw
  split at hw
  case h_2 => exact hw.elim
  rename_i ds es
  obtain ⟨p, vs, rfl, s, t⟩ := Pk.lst (K := K) (G := G) (H := H) (show Pk K G H v dv from ⟨C, o⟩) c.le es
  have os : OwnVs K G H C vs (ds.map DV.data) := (own_of_dat t).mono Le.rfl' (fun _ _ _ z => z) fun _ z => z.elim
  refine ⟨p, vs, rfl, s, by rw [ownVs_len os, List.length_map]; exact hw.1, ?_⟩
  exact gNms_run is vs _ hp (by rw [List.length_map]; exact hw.1) c os f d fun σ' B' c3 s3 p3 => q σ' B' _ hw.2 c3 s3 p3
theorem deng_ls {es : List Expr} {kk : Nat} {is : List Nat} (hg : ∀ X, CxOk P w K mg base k N sc X → PGs X es (gNms is)) (hl : es.length = is.length) (hp : ∀ i ∈ is, free pin i = true) (hn : ∀ X, CxOk P w K mg base k N sc X → PGs X es (gNms is) → PG X (.Tuple es kk pos) (gLst X.K is.length (gNms is))) :
    DenG P w K mg base k N sc pin (.Tuple es kk pos) (gLs is) :=
  ⟨_, fun X hX => by rw [← hX.eK]; exact hn X hX (hg X hX), sndG_ls hp⟩
end
end Kb
namespace Kb
open PySem PySem.Spec PyProof.Rows L2
/-! ### a tuple, so many times over -/
set_option maxHeartbeats 4000000 in
theorem tuple_mul1 (l : Addr) (items : Array Value) (n : Nat) (dd : Option Addr) (sl : Array (Option Value)) (u : Tok) :
    Meets (Builtin.«tuple.__mul__» ⟨[.ref l, .int 1 u], []⟩) (fun _ R s => s.heap.get? l = some { cls := .type "tuple", dict := dd, data := .seq items n, slots := sl } ∧
      R (.ok (.ret (Value.ref l))) s) :=
  .of_wp fun prog w A R s h => by
    obtain ⟨hp, g, d, tk, os⟩ := s
    obtain ⟨hl, h⟩ := h
    have f1 := AutoSeq1.idx_int
    have c0 : (decide ((1 : Int) < -(2 ^ 63)) || decide ((1 : Int) ≥ 2 ^ 63)) = false := by decide
    have c1 : (items.isEmpty || (1 : Int) == 1) = true := by simp
    wp_walk using wpAny_loadPart' hl
    exact ⟨_, rfl, h⟩
def rRep1 (K : PySem.W.Frag) : R2 := fun x y H Q => ∃ l xs, x = .ref l ∧ y = .int 1 ∧ SqT K H l xs ∧ Q (.ref l) H
def rRepA (K : PySem.W.Frag) : R2 := fun x y H Q => rRep1 K x y H Q ∨ rRepT K x y H Q
theorem op_rep1 {X : Cx} : OpR X (binaryOp .Mult) (rRep1 X.K) := by
  intro pins s σ H x y v u Q I rx ry h
  obtain ⟨l, xs, rfl, rfl, hT, q⟩ := h
  cases rx
  obtain ⟨t, rfl⟩ := ry
  obtain ⟨its, r, ⟨⟨cls, dd, data, sl⟩, ho, hc, n, hd⟩, hs⟩ := I.tuple hT
  simp only at hc hd
  subst hc hd
  exact wpAny_binaryOp_repeat_ref (T := "tuple") (U := "int") (by decide) ⟨_, ho, rfl⟩ (fun s' => typeIs_int s' 1 t) noFill_tuple_mul F.fills_int_mul F.slot_int_rmul repeat_tuple F.slot_int_index.lookup
    (call_meets F.slot_int_rmul (typeIs_int s 1 t) F.entry_int_rmul (F.args_int_rmul_2 _ _) (int_rmul_tuple 1 t l its.toArray n dd sl)
      ⟨ho, rfl, ⟨_, ho, rfl⟩, call_meets F.slot_tuple_mul ⟨_, ho, rfl⟩ F.entry_tuple_mul (F.args_tuple_mul_2 _ _) (tuple_mul1 l its.toArray n dd sl t) ⟨ho, .ref l, _, I, rfl, q⟩⟩)
theorem op_repA {X : Cx} : OpR X (binaryOp .Mult) (rRepA X.K) := by
  intro pins s σ H x y v u Q I rx ry h
  rcases h with h | h
  · exact op_rep1 pins s σ H x y v u Q I rx ry h
  · exact op_repT pins s σ H x y v u Q I rx ry h
section
variable {P : Program} {w : World} {K : PySem.W.Frag} {mg : Str → Option Value} {base : Heap} {k : Nat} {N : List Str} {sc : Scf} {pos : Pos} {a b : Expr} {A O : WO} {G H : Hp}
def fRepT : F2 := fun x y Q => match x, y with
  | .data (.tuple ds), .data (.int k) => (ds ≠ [] ∧ 1 ≤ k ∧ k ≤ 1000 ∧ ds.length ≤ 1000) ∧ Q (.data (.tuple (List.replicate k.toNat ds).flatten))
  | _, _ => False
theorem den_mulT (ha : DenO P w K mg base k N sc a A) (hb : DenO P w K mg base k N sc b O) : DenE P w K mg base k N sc (.BinOp a .Mult b pos) (w2 fRepT A O) :=
  den_bin (r := rRepA K) (fun X hX => by rw [← hX.eK]; exact op_repA) (fun G H x y dx dy Q Qv l px py h q => by
    unfold fRepT at h
    split at h
    case h_2 => exact h.elim
    rename_i ds k
    have px' := px
    obtain ⟨C, hx⟩ := px'
    obtain ⟨p, vs, rfl, s, t⟩ := px.tup l rfl
    obtain ⟨⟨h1, h2, h3, h4⟩, h5⟩ := h
    by_cases hk : k = 1
    · subst hk
      have e1 : (List.replicate (1 : Int).toNat ds).flatten = ds := by simp
      rw [e1] at h5
      exact .inl ⟨p, vs, rfl, py.int, s, q _ H G _ _ h5 (Alloc.refl l) (by cases hx with | data hd => exact .data hd)⟩
    · refine .inr ⟨p, k, vs, rfl, py.int, s, fun e => h1 ?_, by omega, h3, by rw [dpa_len t]; exact h4, fun l9 n9 => ?_⟩
      · have := dpa_len t
        rw [e] at this
        exact List.eq_nil_of_length_eq_zero this.symm
      · have al := Alloc.dat (o := .tup (List.replicate k.toNat vs).flatten) l n9
        exact q _ _ _ _ _ h5 al (.data (.tup (.inl (.inl upd_same)) (dpa_le al.g (dpa_rep t k.toNat))))) ha hb
end
end Kb
namespace Kb
open PySem PySem.Spec PyProof.Rows L2
/-! ### any of truths -/
section
variable {P : Program} {w : World} {K : PySem.W.Frag} {mg : Str → Option Value} {base : Heap} {k : Nat} {N : List Str} {sc : Scf} {pos p : Pos} {a : Expr} {A : WO}
def fAny : F1 := fun x Q => match lstOf x with
  | some ds => (match boolsOf ds with
    | some bs => Q (.data (.bool (bs.any fun b => b)))
    | none => False)
  | none => False
theorem den_any (hm : mg "any" = none) (hg : GloB sc "any" = true) (ha : DenO P w K mg base k N sc a A) (hs : ∀ env, starEach [a] env = (false, eval a env) :: starEach [] env := by intros; rfl) : DenE P w K mg base k N sc (.Call (.Name "any" p) [a] [] pos) (w1 fAny A) :=
  den_b1 (r := rAny K) (fun X hX => by rw [← hX.eK]; exact cr_any hX.calm) (fun G H x dx Q Qv l px h q => by
    unfold fAny at h
    split at h
    case h_2 => exact h.elim
    rename_i ds es
    split at h
    case h_2 => exact h.elim
    rename_i bs eb
    obtain ⟨p, vs, ex, s, t⟩ := px.lst l es
    rw [boolsOf_ok eb] at t
    have := dpa_bools t
    subst this
    exact ⟨p, bs, by rw [ex], s, q _ H G _ _ h (Alloc.refl l) (.data (.bl _))⟩) boot_any hm hg ha hs
end
end Kb
namespace Kb
open PySem PySem.Spec PyProof.Rows L2
/-! ### loops and comprehensions over states -/
theorem forGo_by {g : WG} {S : WS} {D : EndW} (I : List PyData → Ev → Prop) (hs : ∀ (d : PyData) (ds : List PyData) (env : Ev) (X : Ev → Prop), (∀ e, I ds e → X e) → I (d :: ds) env → g (.data d) env fun e => S { nx := X, ct := X, bk := D.nx, rt := D.rt } e)
    (hn : ∀ env, I [] env → D.nx env) : ∀ (ds : List PyData) (env : Ev), I ds env → forGo g S D ds env
  | [], env, h => hn env h
  | d :: ds, env, h => hs d ds env _ (forGo_by I hs hn ds) h
theorem compGo_pure {g : WG} {T : WT} {W : WE} {is : List Nat} {Q : List PyData → Ev → Prop} (E : Ev) (p : PyData → Bool) (f : PyData → PyData) : ∀ (ds acc : List PyData) (env : Ev), kill env is = E → acc.length + ds.length ≤ lim →
    (∀ d ∈ ds, ∀ (Z : DV → Ev → Prop) (U : Ev → Prop), (p d = true → ∀ (dv : DV) (e : Ev), dv.dat = f d → kill e is = E → ∀ (_ : dv.nd = true := by rfl), Z dv e) → (p d = false → ∀ e, kill e is = E → U e) → g (.data d) E fun e1 => T e1 fun b e2 => if b = true then W e2 Z else U e2) →
    Q (acc ++ (ds.filter p).map f) E → compGo g T W is Q ds acc env
  | [], acc, env, hE, hl, h, hq => by
    show Q acc (kill env is)
    rw [hE]
    simpa using hq
  | d :: ds, acc, env, hE, hl, h, hq => by
    show g (.data d) (kill env is) _
    rw [hE]
    rw [List.length_cons] at hl
    refine h d List.mem_cons_self (fun dv e3 => acc.length < lim ∧ dv.nd = true ∧ compGo g T W is Q ds (acc ++ [dv.dat]) e3) (fun e2 => compGo g T W is Q ds acc e2) (fun hp dv e hd he hnd => ⟨by omega, hnd, ?_⟩) (fun hp e he => ?_)
    · refine compGo_pure E p f ds _ e he (by rw [List.length_append]; simp only [List.length_cons, List.length_nil]; omega) (fun d' hd' => h d' (List.mem_cons_of_mem _ hd')) ?_
      rw [List.filter_cons, if_pos hp, List.map_cons] at hq
      rw [hd, List.append_assoc]
      exact hq
    · refine compGo_pure E p f ds _ e he (by omega) (fun d' hd' => h d' (List.mem_cons_of_mem _ hd')) ?_
      rw [List.filter_cons, if_neg (by rw [hp]; exact Bool.false_ne_true)] at hq
      exact hq
/-- a comprehension the turns of which change the state: by what holds of what is made -/
theorem compGo_by {g : WG} {T : WT} {W : WE} {is : List Nat} {Q : List PyData → Ev → Prop} (I : List PyData → List PyData → Ev → Prop) : ∀ (ds acc : List PyData) (env : Ev), I ds acc (kill env is) → acc.length + ds.length ≤ lim →
    (∀ (d : PyData) (ds acc : List PyData) (env : Ev) (Z : DV → Ev → Prop) (U : Ev → Prop), I (d :: ds) acc env → (∀ (dv : DV) (e : Ev), I ds (acc ++ [dv.dat]) (kill e is) → ∀ (_ : dv.nd = true := by rfl), Z dv e) → (∀ e, I ds acc (kill e is) → U e) → g (.data d) env fun e1 => T e1 fun b e2 => if b = true then W e2 Z else U e2) →
    (∀ acc env, I [] acc env → Q acc env) → compGo g T W is Q ds acc env
  | [], acc, env, hI, hl, h, hq => hq acc _ hI
  | d :: ds, acc, env, hI, hl, h, hq => by
    rw [List.length_cons] at hl
    refine h d ds acc (kill env is) (fun dv e3 => acc.length < lim ∧ dv.nd = true ∧ compGo g T W is Q ds (acc ++ [dv.dat]) e3) (fun e2 => compGo g T W is Q ds acc e2) hI (fun dv e he hnd => ⟨by omega, hnd, ?_⟩) (fun e he => ?_)
    · exact compGo_by I ds _ e he (by rw [List.length_append]; simp only [List.length_cons, List.length_nil]; omega) h hq
    · exact compGo_by I ds _ e he (by omega) h hq
theorem compGo_map {g : WG} {W : WE} {is : List Nat} {Q : List PyData → Ev → Prop} (E : Ev) (f : PyData → PyData) (ds acc : List PyData) (env : Ev) (hE : kill env is = E) (hl : acc.length + ds.length ≤ 16000000)
    (h : ∀ d ∈ ds, ∀ (Z : DV → Ev → Prop), (∀ (dv : DV) (e : Ev), dv.dat = f d → kill e is = E → ∀ (_ : dv.nd = true := by rfl), Z dv e) → g (.data d) E fun e1 => W e1 Z)
    (hq : Q (acc ++ ds.map f) E) : compGo g tYes' W is Q ds acc env :=
  compGo_pure E (fun _ => true) f ds acc env hE hl (fun d hd Z U hZ _ => h d hd Z fun dv e a b c => hZ rfl dv e a b c) (by
    rw [List.filter_eq_self.2 (fun _ _ => rfl)]
    exact hq)
/-! ### sizes -/
theorem shaped_int (i : Int) : Small (.int i) := rfl
theorem shaped_bool (i : Bool) : Small (.bool i) := rfl
theorem shaped_none : Small .none := rfl
end Kb
namespace Kb
open PySem PySem.Spec PyProof.Rows L2
/-! ### what things of any kind are -/
def isWholeD : PyData → Bool
  | .int _ => true
  | _ => false
def isCountD : PyData → Bool
  | .int i => decide (0 ≤ i)
  | _ => false
def isPlaceD (n : Nat) : PyData → Bool
  | .int i => decide (0 ≤ i) && decide (i < (n : Int))
  | _ => false
def isRoomD (d : PyData) : Bool := isN (.data d) || isCountD d
def isYardD : PyData → Bool
  | .tuple ds => decide (1 ≤ ds.length) && decide (ds.length ≤ 9) && ds.all isRoomD
  | _ => false
def leD : PyData → PyData → Bool
  | .int i, .int j => decide (i ≤ j)
  | _, _ => false
def fitsD (room many : PyData) : Bool := isCountD many && (isN (.data room) || leD many room)
def isStandD (ds : List PyData) : PyData → Bool
  | .tuple es => decide (es.length = ds.length) && (List.zipWith fitsD ds es).all fun b => b
  | _ => false
def unlikeD (n : Nat) : PyData → Bool
  | .tuple es => es.all (isPlaceD n) && (match intsOf es with | some ns => decide ((once ns).length = ns.length) | none => false)
  | _ => false
def isAskD (n : Nat) : PyData → Bool
  | .tuple [a, b] => unlikeD n a && unlikeD n b
  | _ => false
def isDayD (n : Nat) : PyData → Bool
  | .list es => es.all (isAskD n)
  | _ => false
theorem room_cases {d : PyData} (h : isRoomD d = true) : d = .none ∨ ∃ i, d = .int i ∧ 0 ≤ i := by
  cases d <;> simp [isRoomD, isN, isCountD] at h
  · exact .inl rfl
  · exact .inr ⟨_, rfl, h⟩
theorem intsOf_places {n : Nat} : ∀ {es : List PyData}, es.all (isPlaceD n) = true → ∃ ns, intsOf es = some ns ∧ ns.length = es.length
  | [], _ => ⟨[], rfl, rfl⟩
  | d :: es, h => by
    simp only [List.all_cons, Bool.and_eq_true] at h
    obtain ⟨ns, e, l⟩ := intsOf_places h.2
    cases d <;> simp [isPlaceD] at h
    rename_i i
    refine ⟨i :: ns, ?_, by simp [l]⟩
    show (match intsOf es with | some l => some (i :: l) | none => none) = _
    rw [e]
/-! lengths that stay below four thousand -/
mutual
def Shrt : PyData → Prop
  | .list ds => ds.length < 4000 ∧ ShrtAll ds
  | .tuple ds => ds.length < 4000 ∧ ShrtAll ds
  | _ => True
def ShrtAll : List PyData → Prop
  | [] => True
  | d :: ds => Shrt d ∧ ShrtAll ds
end
theorem shrt_mem : ∀ {ds : List PyData} {d : PyData}, ShrtAll ds → d ∈ ds → Shrt d
  | [], _, _, h => by simp at h
  | a :: ds, d, h, m => by
    rw [ShrtAll] at h
    rcases List.mem_cons.mp m with e | e
    · rw [e]; exact h.1
    · exact shrt_mem h.2 e
/-! ### yards, standings, days as they are meant -/
abbrev Rm := Option Int
abbrev Row := Option (Nat × Option Nat)
abbrev Ask := List Nat × List Nat
def encR : Rm → PyData
  | none => .none
  | some i => .int i
def encN (n : Nat) : PyData := .int (n : Int)
def encY (y : List Rm) : PyData := .tuple (y.map encR)
def encS (s : List Int) : PyData := .tuple (s.map .int)
def encP (ps : List Nat) : PyData := .tuple (ps.map encN)
def encA (a : Ask) : PyData := .tuple [encP a.1, encP a.2]
def encDay (d : List Ask) : PyData := .list (d.map encA)
def encO : Option Nat → PyData
  | none => .none
  | some n => encN n
def encRow : Row → PyData
  | none => .none
  | some (p, o) => .tuple [encN p, encO o]
def YardOk (y : List Rm) : Prop := 1 ≤ y.length ∧ y.length ≤ 9 ∧ ∀ r ∈ y, ∀ i, r = some i → 0 ≤ i
def Fits (r : Rm) (n : Int) : Prop := 0 ≤ n ∧ ∀ i, r = some i → n ≤ i
def StandOk (y : List Rm) (s : List Int) : Prop := s.length = y.length ∧ ∀ (p : Nat) (r : Rm) (n : Int), y[p]? = some r → s[p]? = some n → Fits r n
def PlacesOk (n : Nat) (ps : List Nat) : Prop := ps.Nodup ∧ ∀ p ∈ ps, p < n
def AskOk (n : Nat) (a : Ask) : Prop := PlacesOk n a.1 ∧ PlacesOk n a.2
def DayOk (n : Nat) (d : List Ask) : Prop := d.length ≤ 200 ∧ ∀ a ∈ d, AskOk n a
def firstT (now : List Int) (ws : List Nat) : Option Nat := ws.find? fun p => decide (0 < now.getD p 0)
def roomB (y : List Rm) (now : List Int) (p : Nat) : Bool := match y.getD p none with
  | none => true
  | some r => decide (now.getD p 0 < r)
def firstR (y : List Rm) (now : List Int) (ls : List Nat) : Option Nat := ls.find? (roomB y now)
def add (now : List Int) (p : Nat) (k : Int) : List Int := now.set p (now.getD p 0 + k)
def serveM (y : List Rm) (now : List Int) (a : Ask) : Row × List Int := match firstT now a.1 with
  | none => (none, now)
  | some p => match firstR y (add now p (-1)) a.2 with
    | none => (some (p, none), add now p (-1))
    | some o => (some (p, some o), add (add now p (-1)) o 1)
def goM (y : List Rm) : List Int → List Ask → List Row × List Int
  | now, [] => ([], now)
  | now, a :: d => ((serveM y now a).1 :: (goM y (serveM y now a).2 d).1, (goM y (serveM y now a).2 d).2)
theorem goM_len (y : List Rm) : ∀ (d : List Ask) (now : List Int), (goM y now d).1.length = d.length
  | [], _ => rfl
  | a :: d, now => by
    show (goM y (serveM y now a).2 d).1.length + 1 = d.length + 1
    rw [goM_len y d]
theorem getD_some {α : Type} {l : List α} {i : Nat} {x d : α} (h : l[i]? = some x) : l.getD i d = x := by
  rw [List.getD_eq_getElem?_getD, h]; rfl
theorem add_len (now : List Int) (p : Nat) (k : Int) : (add now p k).length = now.length := by simp [add]
theorem serveM_len (y : List Rm) (now : List Int) (a : Ask) : (serveM y now a).2.length = now.length := by
  unfold serveM
  split
  · rfl
  · split <;> simp [add_len]
theorem getD_add {now : List Int} {p q : Nat} {k : Int} (hp : p < now.length) : (add now p k).getD q 0 = if p = q then now.getD p 0 + k else now.getD q 0 := by
  unfold add
  rw [List.getD_eq_getElem?_getD, List.getD_eq_getElem?_getD, List.getD_eq_getElem?_getD]
  by_cases e : p = q
  · subst e
    rw [List.getElem?_set_self hp]; simp
  · rw [List.getElem?_set_ne e, if_neg e]
/-- told by the places themselves -/
def Fine (y : List Rm) (s : List Int) : Prop := s.length = y.length ∧ ∀ p, p < y.length → Fits (y.getD p none) (s.getD p 0)
theorem fine_of {y : List Rm} {s : List Int} (h : StandOk y s) : Fine y s := by
  refine ⟨h.1, fun p hp => ?_⟩
  have hs : p < s.length := by rw [h.1]; exact hp
  have e1 := List.getElem?_eq_getElem hp
  have e2 := List.getElem?_eq_getElem hs
  rw [getD_some e1, getD_some e2]
  exact h.2 p _ _ e1 e2
theorem firstT_some {now : List Int} {ws : List Nat} {p : Nat} (h : firstT now ws = some p) : p ∈ ws ∧ 0 < now.getD p 0 := by
  unfold firstT at h
  have := List.find?_some h
  exact ⟨List.mem_of_find?_eq_some h, of_decide_eq_true this⟩
theorem fine_serve {y : List Rm} {now : List Int} {a : Ask} (h : Fine y now) (ha : AskOk y.length a) : Fine y (serveM y now a).2 := by
  unfold serveM
  split
  · exact h
  · rename_i p e
    obtain ⟨m, pos⟩ := firstT_some e
    have hp : p < now.length := by rw [h.1]; exact ha.1.2 p m
    have h1 : Fine y (add now p (-1)) := by
      refine ⟨by rw [add_len]; exact h.1, fun q hq => ?_⟩
      rw [getD_add hp]
      obtain ⟨f1, f2⟩ := h.2 q hq
      by_cases z : p = q
      · subst z
        rw [if_pos rfl]
        exact ⟨by omega, fun i hi => by have := f2 i hi; omega⟩
      · rw [if_neg z]
        exact ⟨f1, f2⟩
    split
    · exact h1
    · rename_i o eo
      have mo := List.mem_of_find?_eq_some eo
      have ro := List.find?_some eo
      have ho : o < (add now p (-1)).length := by rw [add_len, h.1]; exact ha.2.2 o mo
      refine ⟨by rw [add_len]; exact h1.1, fun q hq => ?_⟩
      rw [getD_add ho]
      obtain ⟨f1, f2⟩ := h1.2 q hq
      by_cases z : o = q
      · subst z
        rw [if_pos rfl]
        refine ⟨by omega, fun i hi => ?_⟩
        unfold roomB at ro
        rw [hi] at ro
        have := of_decide_eq_true ro
        omega
      · rw [if_neg z]
        exact ⟨f1, f2⟩
theorem seq_cases {L : DV} {ds : List PyData} (h : seqOf L = some ds) : L = .data (.list ds) ∨ L = .data (.tuple ds) ∨ L = .olist ds := by
  cases L with
  | data d => cases d <;> simp only [seqOf, Option.some.injEq, reduceCtorEq] at h <;> subst h <;> simp
  | olist d => simp only [seqOf, Option.some.injEq] at h; subst h; simp
  | otup d => simp only [seqOf, reduceCtorEq] at h
  | odict d => simp only [seqOf, reduceCtorEq] at h
  | sdict d => simp only [seqOf, reduceCtorEq] at h
theorem atI_nat {α : Type} {xs : List α} {p : Nat} {x : α} (h : xs[p]? = some x) : atI xs (p : Int) = some x := by
  have hp : p < xs.length := (List.getElem?_eq_some_iff.1 h).1
  unfold atI ixN
  rw [if_pos (by omega), if_pos (by omega)]
  show xs[((p : Int)).toNat]? = some x
  simpa using h
theorem get_now {now : List Int} {p : Nat} (h : p < now.length) : (now.map PyData.int)[(p : Int).toNat]? = some (.int (now.getD p 0)) := by
  rw [Int.toNat_natCast, List.getElem?_map, List.getElem?_eq_getElem h, getD_some (List.getElem?_eq_getElem h)]
  rfl
theorem atI_now {now : List Int} {p : Nat} (h : p < now.length) : atI (now.map PyData.int) (p : Int) = some (.int (now.getD p 0)) := atI_nat (by have := get_now h; rwa [Int.toNat_natCast] at this)
theorem atI_room {y : List Rm} {p : Nat} (h : p < y.length) : atI (y.map encR) (p : Int) = some (encR (y.getD p none)) := by
  refine atI_nat ?_
  rw [List.getElem?_map, List.getElem?_eq_getElem h, getD_some (List.getElem?_eq_getElem h)]
  rfl
theorem set_now {now : List Int} (p : Nat) {k : Int} : (now.map PyData.int).set (p : Int).toNat (.int (now.getD p 0 + k)) = (add now p k).map .int := by
  rw [Int.toNat_natCast, add, List.map_set]
theorem room_enc {r : Rm} (h : ∀ i, r = some i → 0 ≤ i) : isRoomD (encR r) = true := by
  cases r with
  | none => rfl
  | some i =>
    have := h i rfl
    simp [encR, isRoomD, isN, isCountD, this]
theorem yard_enc {y : List Rm} (h : YardOk y) : isYardD (encY y) = true := by
  have h1 := h.1
  have h2 := h.2.1
  simp only [encY, isYardD, List.length_map, Bool.and_eq_true, decide_eq_true_eq]
  refine ⟨⟨by omega, by omega⟩, ?_⟩
  rw [List.all_eq_true]
  intro d hd
  obtain ⟨r, hr, rfl⟩ := List.mem_map.1 hd
  exact room_enc (h.2.2 r hr)
theorem fits_enc {r : Rm} {n : Int} (h : Fits r n) : fitsD (encR r) (.int n) = true := by
  have h0 := h.1
  cases r with
  | none => simp [fitsD, encR, isCountD, isN, h0]
  | some i =>
    have := h.2 i rfl
    simp [fitsD, encR, isCountD, isN, leD, h0, this]
theorem fits_all : ∀ (y : List Rm) (s : List Int), s.length = y.length → (∀ p, p < y.length → Fits (y.getD p none) (s.getD p 0)) → ((List.zipWith fitsD (y.map encR) (s.map .int)).all fun b => b) = true
  | [], [], _, _ => rfl
  | [], _ :: _, h, _ => by simp at h
  | _ :: _, [], h, _ => by simp at h
  | r :: y, n :: s, h, f => by
    simp only [List.map_cons, List.zipWith_cons_cons, List.all_cons, Bool.and_eq_true]
    exact ⟨fits_enc (f 0 (by simp)), fits_all y s (by simpa using h) fun p hp => f (p + 1) (by simp; omega)⟩
theorem stand_enc {y : List Rm} {s : List Int} (h : Fine y s) : isStandD (y.map encR) (encS s) = true := by
  simp only [encS, isStandD, List.length_map, Bool.and_eq_true, decide_eq_true_eq]
  exact ⟨h.1, fits_all y s h.1 h.2⟩
theorem intsOf_enc : ∀ ps : List Nat, intsOf (ps.map encN) = some (ps.map Int.ofNat)
  | [] => rfl
  | p :: ps => by
    show (match intsOf (ps.map encN) with | some l => some ((p : Int) :: l) | none => none) = _
    rw [intsOf_enc ps]
    rfl
theorem once_len : ∀ {ns : List Int}, ns.Nodup → (once ns) = ns
  | [], _ => rfl
  | n :: ns, h => by
    rw [List.nodup_cons] at h
    unfold once
    rw [if_neg (by simpa using h.1), once_len h.2]
theorem nodup_of {ps : List Nat} (h : ps.Nodup) : (ps.map Int.ofNat).Nodup := by
  induction ps with
  | nil => exact List.nodup_nil
  | cons p ps ih =>
    rw [List.nodup_cons] at h
    rw [List.map_cons, List.nodup_cons]
    refine ⟨fun m => ?_, ih h.2⟩
    obtain ⟨q, hq, e⟩ := List.mem_map.1 m
    have : q = p := Int.ofNat.inj e
    exact h.1 (this ▸ hq)
theorem unlike_enc {n : Nat} {ps : List Nat} (h : PlacesOk n ps) : unlikeD n (encP ps) = true := by
  simp only [encP, unlikeD, Bool.and_eq_true, intsOf_enc, once_len (nodup_of h.1), decide_true, and_true]
  rw [List.all_eq_true]
  intro d hd
  obtain ⟨p, hp, rfl⟩ := List.mem_map.1 hd
  have := h.2 p hp
  simp [encN, isPlaceD, this]
theorem ask_enc {n : Nat} {a : Ask} (h : AskOk n a) : isAskD n (encA a) = true := by
  simp only [encA, isAskD, unlike_enc h.1, unlike_enc h.2, Bool.and_self]
theorem day_enc {n : Nat} {d : List Ask} (h : ∀ a ∈ d, AskOk n a) : isDayD n (encDay d) = true := by
  simp only [encDay, isDayD]
  rw [List.all_eq_true]
  intro x hx
  obtain ⟨a, ha, rfl⟩ := List.mem_map.1 hx
  exact ask_enc (h a ha)
theorem below_len : ∀ {n : Nat} {ps : List Nat}, ps.Nodup → (∀ p ∈ ps, p < n) → ps.length ≤ n
  | 0, [], _, _ => Nat.le_refl 0
  | 0, p :: _, _, h => absurd (h p List.mem_cons_self) (by omega)
  | n + 1, ps, hn, h => by
    by_cases m : n ∈ ps
    · have e := List.length_erase_of_mem m
      have := below_len (n := n) (ps := ps.erase n) (hn.erase n) fun p hp => by
        have h1 := (hn.mem_erase_iff.1 hp)
        have := h p h1.2
        have := h1.1
        omega
      omega
    · have := below_len (n := n) hn fun p hp => by
        have := h p hp
        have : p ≠ n := fun e => m (e ▸ hp)
        omega
      omega
theorem places_len {n : Nat} {ps : List Nat} (h : PlacesOk n ps) : ps.length ≤ n := below_len h.1 h.2
theorem shrt_map {α : Type} (f : α → PyData) : ∀ (l : List α), (∀ a ∈ l, Shrt (f a)) → ShrtAll (l.map f)
  | [], _ => by rw [List.map_nil, ShrtAll]; trivial
  | a :: l, h => by
    rw [List.map_cons, ShrtAll]
    exact ⟨h a List.mem_cons_self, shrt_map f l fun b hb => h b (List.mem_cons_of_mem _ hb)⟩
theorem shrt_int (i : Int) : Shrt (.int i) := by
  unfold Shrt; trivial
theorem shrt_P {n : Nat} {ps : List Nat} (hn : n ≤ 9) (h : PlacesOk n ps) : Shrt (encP ps) := by
  have := places_len h
  unfold encP
  rw [Shrt]
  exact ⟨by rw [List.length_map]; omega, shrt_map _ _ fun p _ => shrt_int _⟩
theorem shrt_A {n : Nat} {a : Ask} (hn : n ≤ 9) (h : AskOk n a) : Shrt (encA a) := by
  unfold encA
  rw [Shrt, ShrtAll, ShrtAll, ShrtAll]
  exact ⟨by simp, shrt_P hn h.1, shrt_P hn h.2, trivial⟩
theorem shrt_day {n : Nat} {d : List Ask} (hn : n ≤ 9) (h : DayOk n d) : Shrt (encDay d) := by
  have := h.1
  unfold encDay
  rw [Shrt]
  exact ⟨by rw [List.length_map]; omega, shrt_map _ _ fun a ha => shrt_A hn (h.2 a ha)⟩
def servedIx (log : List Row) : List Nat := (List.range log.length).filter fun i => (log.getD i none).isSome
def keepRow : PyData → Bool
  | .tuple [_, r] => !isN (.data r)
  | _ => false
def numRow : PyData → PyData
  | .tuple [i, _] => i
  | _ => .none
theorem row_isN (r : Row) : isN (.data (encRow r)) = !r.isSome := by
  cases r with
  | none => rfl
  | some q => obtain ⟨p, o⟩ := q; rfl
theorem row_getD (log : List Row) (i : Nat) : (log.map encRow).getD i .none = encRow (log.getD i none) := by
  rw [List.getD_eq_getElem?_getD, List.getD_eq_getElem?_getD, List.getElem?_map]
  cases log[i]? <;> rfl
theorem served_eq (log : List Row) : ((enumD (log.map encRow)).filter keepRow).map numRow = (servedIx log).map encN := by
  unfold enumD servedIx
  rw [List.filter_map, List.map_map, List.length_map]
  have e1 : (keepRow ∘ fun i : Nat => PyData.tuple [.int (i : Int), (log.map encRow).getD i .none]) = fun i => (log.getD i none).isSome := by
    funext i
    show (!isN (.data ((log.map encRow).getD i .none))) = _
    rw [row_getD, row_isN, Bool.not_not]
  rw [e1]
  rfl
theorem enum_mem {ds : List PyData} {d : PyData} (h : d ∈ enumD ds) : ∃ (i : Nat), d = .tuple [.int (i : Int), ds.getD i .none] := by
  unfold enumD at h
  obtain ⟨i, _, rfl⟩ := List.mem_map.1 h
  exact ⟨i, rfl⟩
end Kb
namespace Kb
open PySem PySem.Spec PyProof.Rows L2
/-! ### what can be shown -/
def Okc (x : Str) : Prop := ∀ c ∈ x.cps.toList, c < 0x110000
theorem okc_of (s : String) : Okc (Str.ofString s) := fun c hc => by
  rw [signs_ofString] at hc
  obtain ⟨ch, _, rfl⟩ := List.mem_map.1 hc
  have := ch.valid
  have e : ch.val.toNat = ch.toNat := rfl
  rcases this with h | ⟨_, h⟩
  · omega
  · omega
theorem okc_app {a b : Str} (ha : Okc a) (hb : Okc b) : Okc (a ++ b) := fun c hc => (mem_cps_append.1 hc).elim (ha c) (hb c)
theorem okc_from : ∀ (ts : List Str) (k : Nat) (acc : Str), Okc acc → (∀ t ∈ ts, Okc t) → Okc (textFrom k acc ts)
  | [], _, _, h, _ => h
  | t :: r, k, acc, h, ht => okc_from r (k + 1) _ (okc_app (okc_app h (okc_of _)) (ht t List.mem_cons_self)) fun x hx => ht x (List.mem_cons_of_mem _ hx)
theorem okc_join (sep : Str) (hs : Okc sep) (ts : List Str) (h : ∀ t ∈ ts, Okc t) : Okc (Str.join sep ts) := fun c hc =>
  ((mem_join sep c ts).1 hc).elim (fun ⟨t, ht, q⟩ => h t ht c q) fun q => hs c q.2
theorem okc_strOk {x : Str} (h : Okc x) : PyData.strOk x = true := by
  unfold PyData.strOk
  rw [Array.all_eq_true_iff_forall_mem]
  exact fun c hc => decide_eq_true (h c (Array.mem_toList_iff.mpr hc))
structure Nice (w k : Nat) (d : PyData) : Prop where
  a : d.showable = true
  b : d.canLay0 = true
  c : d.depth ≤ k
  e : d.leavesShort 20 = true
  f : d.weight ≤ w
  g : Okc d.shown
theorem nice_none : Nice 0 0 .none := ⟨rfl, rfl, Nat.le_refl 0, rfl, by rw [PyData.weight.eq_6]; omega, okc_of "None"⟩
theorem nice_bool (x : Bool) : Nice 60 0 (.bool x) := ⟨rfl, rfl, Nat.le_refl 0, rfl, by simp only [PyData.weight]; omega, by cases x; exact okc_of "False"; exact okc_of "True"⟩
theorem nice_int {i : Int} (h : i.natAbs < 10 ^ 18) : Nice 60 0 (.int i) := by
  have hl : i.natAbs.log2 < 60 := by
    by_cases z : i.natAbs = 0
    · rw [z]; decide
    · rw [Nat.log2_lt z]
      exact Nat.lt_trans h (by decide)
  refine ⟨?_, rfl, Nat.le_refl 0, ?_, ?_, okc_of (toString i)⟩
  · show decide _ = true
    rw [decide_eq_true_eq]; omega
  · show decide _ = true
    rw [decide_eq_true_eq]
    have e := int_text_length_le10 (k := 18) (by decide) h
    show (Str.ofString (toString i)).length ≤ 20
    rw [PySem.ofString_length]
    omega
  · rw [PyData.weight.eq_5]
    split <;> omega
theorem nice_all {w k : Nat} : ∀ ds : List PyData, (∀ d ∈ ds, Nice w k d) → PyData.showableAll ds = true ∧ PyData.canLayAll0 ds = true ∧ PyData.depthAll ds ≤ k ∧ PyData.leavesShortAll 20 ds = true ∧ PyData.weightAll ds ≤ ds.length * (w + 1) ∧ ∀ t ∈ PyData.shownAll ds, Okc t
  | [], _ => ⟨rfl, rfl, Nat.zero_le _, rfl, by simp [PyData.weightAll], fun t ht => by simp [PyData.shownAll] at ht⟩
  | d :: ds, h => by
    obtain ⟨a, b, c, e, f, g⟩ := nice_all ds fun x hx => h x (List.mem_cons_of_mem _ hx)
    have q := h d List.mem_cons_self
    refine ⟨?_, ?_, ?_, ?_, ?_, ?_⟩
    · rw [PyData.showableAll, q.a, a]; rfl
    · rw [PyData.canLayAll0, q.b, b]; rfl
    · rw [PyData.depthAll]; exact Nat.max_le.2 ⟨q.c, c⟩
    · rw [PyData.leavesShortAll, q.e, e]; rfl
    · rw [PyData.weightAll, List.length_cons, Nat.succ_mul]
      have := q.f
      omega
    · intro t ht
      rw [PyData.shownAll] at ht
      rcases List.mem_cons.1 ht with rfl | ht
      · exact q.g
      · exact g t ht
theorem nice_list {w k m : Nat} {ds : List PyData} (h : ∀ d ∈ ds, Nice w k d) (hm : ds.length * (w + 1) ≤ m) : Nice m (k + 1) (.list ds) := by
  obtain ⟨a, b, c, e, f, g⟩ := nice_all ds h
  exact ⟨a, b, by rw [PyData.depth]; omega, e, by rw [PyData.weight]; omega, okc_app (okc_from _ _ _ (okc_of "[") g) (okc_of "]")⟩
theorem nice_tuple {w k m : Nat} {ds : List PyData} (h : ∀ d ∈ ds, Nice w k d) (hm : ds.length * (w + 1) ≤ m) : Nice m (k + 1) (.tuple ds) := by
  obtain ⟨a, b, c, e, f, g⟩ := nice_all ds h
  exact ⟨a, b, by rw [PyData.depth]; omega, e, by rw [PyData.weight]; omega, okc_app (okc_app (okc_of "(") (okc_join _ (okc_of ", ") _ g)) (okc_of _)⟩
theorem Nice.up {w k w' k' : Nat} {d : PyData} (h : Nice w k d) (hw : w ≤ w') (hk : k ≤ k') : Nice w' k' d := ⟨h.a, h.b, Nat.le_trans h.c hk, h.e, Nat.le_trans h.f hw, h.g⟩
theorem Nice.shown {w k : Nat} {d : PyData} (h : Nice w k d) (hw : w ≤ 700000) (hk : k ≤ 64) : Shown d := by
  refine ⟨h.a, ?_, ?_⟩
  · show (d.canLay0 && decide (d.depth ≤ 64)) = true
    rw [h.b, Bool.true_and, decide_eq_true_eq]
    have := h.c
    omega
  · have e1 := PyData.shown_le 20 (by decide) d h.e
    have e2 := h.f
    show _ ≤ 16000000
    omega
theorem Nice.small {w k : Nat} {d : PyData} (h : Nice w k d) (hk : k ≤ 64) : Small d := by
  show (d.canLay0 && decide (d.depth ≤ 64)) = true
  rw [h.b, Bool.true_and, decide_eq_true_eq]
  have := h.c
  omega
theorem Nice.text {w k : Nat} {d : PyData} (h : Nice w k d) : Small (.str d.shown) := by
  show (PyData.strOk d.shown && decide (PyData.depth (.str d.shown) ≤ 64)) = true
  rw [okc_strOk h.g]
  rfl
/-! ### the things of these laws can be shown -/
def Mdst (i : Int) : Prop := i.natAbs < 10 ^ 18
theorem nice_R {r : Rm} (h : ∀ i, r = some i → Mdst i) : Nice 60 0 (encR r) := by
  cases r with
  | none => exact nice_none.up (by omega) (by omega)
  | some i => exact nice_int (h i rfl)
theorem nice_N {n : Nat} (h : n < 1000) : Nice 10 0 (encN n) := by
  have e : ((n : Int)).natAbs = n := Int.natAbs_natCast n
  have e2 : n < 10 ^ 18 := Nat.lt_trans h (by decide)
  have b := nice_int (i := (n : Int)) (by omega)
  refine ⟨b.a, b.b, b.c, b.e, ?_, b.g⟩
  have hl : n.log2 < 10 := by
    by_cases z : n = 0
    · rw [z]; decide
    · rw [Nat.log2_lt z]
      exact Nat.lt_trans h (by decide)
  unfold encN
  rw [PyData.weight.eq_5, e]
  split <;> omega
def YardB (y : List Rm) : Prop := YardOk y ∧ ∀ r ∈ y, ∀ i, r = some i → i ≤ 1000000000000
theorem nice_Y {y : List Rm} (h : YardB y) : Nice 600 1 (encY y) := nice_tuple (w := 60) (k := 0) (fun d hd => by
    obtain ⟨r, hr, rfl⟩ := List.mem_map.1 hd
    exact nice_R fun i e => by have h1 := h.2 r hr i e; have h2 := h.1.2.2 r hr i e; unfold Mdst; omega) (by have := h.1.2.1; rw [List.length_map]; omega)
theorem nice_S {s : List Int} (hl : s.length ≤ 9) (h : ∀ i ∈ s, Mdst i) : Nice 600 1 (encS s) := nice_tuple (w := 60) (k := 0) (fun d hd => by
    obtain ⟨r, hr, rfl⟩ := List.mem_map.1 hd
    exact nice_int (h r hr)) (by rw [List.length_map]; omega)
theorem nice_P {n : Nat} {ps : List Nat} (hn : n ≤ 9) (h : PlacesOk n ps) : Nice 100 1 (encP ps) := nice_tuple (w := 10) (k := 0) (fun d hd => by
    obtain ⟨p, hp, rfl⟩ := List.mem_map.1 hd
    exact nice_N (by have := h.2 p hp; omega)) (by have := places_len h; rw [List.length_map]; omega)
theorem nice_A {n : Nat} {a : Ask} (hn : n ≤ 9) (h : AskOk n a) : Nice 202 2 (encA a) := nice_tuple (w := 100) (k := 1) (fun d hd => by
    rcases List.mem_cons.1 hd with rfl | hd
    · exact nice_P hn h.1
    · rw [List.mem_singleton] at hd
      rw [hd]
      exact nice_P hn h.2) (by show 2 * 101 ≤ 202; omega)
theorem nice_day {n : Nat} {d : List Ask} (hn : n ≤ 9) (h : DayOk n d) : Nice 41000 3 (encDay d) := nice_list (w := 202) (k := 2) (fun x hx => by
    obtain ⟨a, ha, rfl⟩ := List.mem_map.1 hx
    exact nice_A hn (h.2 a ha)) (by have := h.1; rw [List.length_map]; omega)
theorem nice_O {o : Option Nat} (h : ∀ p, o = some p → p < 1000) : Nice 10 0 (encO o) := by
  cases o with
  | none => exact nice_none.up (by omega) (by omega)
  | some i => exact nice_N (h i rfl)
def RowOk : Row → Prop
  | none => True
  | some (p, o) => p < 1000 ∧ ∀ q, o = some q → q < 1000
theorem nice_row {r : Row} (h : RowOk r) : Nice 22 1 (encRow r) := by
  cases r with
  | none => exact nice_none.up (by omega) (by omega)
  | some q =>
    obtain ⟨p, o⟩ := q
    refine nice_tuple (w := 10) (k := 0) (fun d hd => ?_) (by show 2 * 11 ≤ 22; omega)
    rcases List.mem_cons.1 hd with rfl | hd
    · exact nice_N h.1
    · rw [List.mem_singleton] at hd
      rw [hd]
      exact nice_O h.2
theorem nice_log {log : List Row} (hl : log.length ≤ 200) (h : ∀ r ∈ log, RowOk r) : Nice 5000 2 (.list (log.map encRow)) := nice_list (w := 22) (k := 1) (fun x hx => by
    obtain ⟨a, ha, rfl⟩ := List.mem_map.1 hx
    exact nice_row (h a ha)) (by rw [List.length_map]; omega)
theorem nice_ix {ns : List Nat} (hl : ns.length ≤ 200) (h : ∀ r ∈ ns, r < 1000) : Nice 3000 1 (.list (ns.map encN)) := nice_list (w := 10) (k := 0) (fun x hx => by
    obtain ⟨a, ha, rfl⟩ := List.mem_map.1 hx
    exact nice_N (h a ha)) (by rw [List.length_map]; omega)
theorem nice_two {w v k : Nat} {a b : PyData} (ha : Nice w k a) (hb : Nice v k b) : Nice (2 * (max w v + 1)) (k + 1) (.tuple [a, b]) := nice_tuple (w := max w v) (k := k) (fun d hd => by
    rcases List.mem_cons.1 hd with rfl | hd
    · exact ha.up (Nat.le_max_left _ _) (Nat.le_refl _)
    · rw [List.mem_singleton] at hd
      rw [hd]
      exact hb.up (Nat.le_max_right _ _) (Nat.le_refl _)) (Nat.le_refl _)
/-! ### how much can lie anywhere -/
def Upto (K : Int) (s : List Int) : Prop := ∀ p, p < s.length → s.getD p 0 ≤ K
theorem upto_add {K : Int} {s : List Int} {p : Nat} (hp : p < s.length) (h : Upto K s) (k : Int) (hk : k ≤ 1) (h0 : 0 ≤ K) : Upto (K + 1) (add s p k) := fun q hq => by
  rw [getD_add hp]
  rw [add_len] at hq
  have h1 := h q hq
  have h2 := h p hp
  split <;> omega
theorem upto_serve {K : Int} {y : List Rm} {now : List Int} {a : Ask} (h : Fine y now) (ha : AskOk y.length a) (u : Upto K now) (h0 : 0 ≤ K) : Upto (K + 1) (serveM y now a).2 := by
  have w1 : Upto (K + 1) now := fun q hq => by have := u q hq; omega
  unfold serveM
  split
  · exact w1
  · rename_i p e
    obtain ⟨m, pos⟩ := firstT_some e
    have hp : p < now.length := by rw [h.1]; exact ha.1.2 p m
    have u1 : Upto K (add now p (-1)) := fun q hq => by
      rw [getD_add hp]
      rw [add_len] at hq
      have h1 := u q hq
      have h2 := u p hp
      split <;> omega
    split
    · exact fun q hq => Int.le_trans (u1 q hq) (by omega)
    · rename_i o eo
      have ho : o < (add now p (-1)).length := by rw [add_len, h.1]; exact ha.2.2 o (List.mem_of_find?_eq_some eo)
      exact upto_add ho u1 1 (by omega) h0
theorem serve_row {y : List Rm} {now : List Int} {a : Ask} (hn : y.length ≤ 9) (ha : AskOk y.length a) : RowOk (serveM y now a).1 := by
  unfold serveM
  split
  · trivial
  · rename_i p e
    obtain ⟨m, pos⟩ := firstT_some e
    have := ha.1.2 p m
    split
    · exact ⟨by omega, fun q hq => by cases hq⟩
    · rename_i o eo
      have := ha.2.2 o (List.mem_of_find?_eq_some eo)
      exact ⟨by omega, fun q hq => by cases hq; omega⟩
theorem go_fine {y : List Rm} (hn : y.length ≤ 9) : ∀ {d : List Ask} {now : List Int} {K : Int}, Fine y now → (∀ a ∈ d, AskOk y.length a) → Upto K now → 0 ≤ K → Fine y (goM y now d).2 ∧ Upto (K + (d.length : Nat)) (goM y now d).2 ∧ ∀ r ∈ (goM y now d).1, RowOk r
  | [], now, K, f, _, u, _ => ⟨f, by simpa [goM] using u, fun r hr => by simp [goM] at hr⟩
  | a :: d, now, K, f, h, u, h0 => by
    have ha := h a List.mem_cons_self
    obtain ⟨g1, g2, g3⟩ := go_fine hn (d := d) (fine_serve f ha) (fun b hb => h b (List.mem_cons_of_mem _ hb)) (upto_serve f ha u h0) (by omega)
    refine ⟨g1, ?_, fun r hr => ?_⟩
    · have e : K + ((a :: d).length : Nat) = K + 1 + (d.length : Nat) := by rw [List.length_cons]; omega
      rw [e]
      exact g2
    · rcases List.mem_cons.1 hr with rfl | hr
      · exact serve_row hn ha
      · exact g3 r hr
theorem mod_of {y : List Rm} {s : List Int} {K : Int} (f : Fine y s) (u : Upto K s) (hk : K < 10 ^ 18) : ∀ i ∈ s, Mdst i := fun i hi => by
  obtain ⟨p, hp, rfl⟩ := List.mem_iff_getElem.1 hi
  have e := List.getElem?_eq_getElem hp
  have h1 := u p hp
  have h2 := (f.2 p (by rw [← f.1]; exact hp)).1
  rw [getD_some e] at h1 h2
  unfold Mdst
  omega
/-! ### reading in short lists -/
theorem atI0 {x : PyData} {l : List PyData} : atI (x :: l) 0 = some x := atI_nat (p := 0) rfl
theorem atI1 {x y : PyData} {l : List PyData} : atI (x :: y :: l) 1 = some y := atI_nat (p := 1) rfl
theorem atI2 {x y z : PyData} {l : List PyData} : atI (x :: y :: z :: l) 2 = some z := atI_nat (p := 2) rfl
theorem atI3 {x y z t : PyData} {l : List PyData} : atI (x :: y :: z :: t :: l) 3 = some t := atI_nat (p := 3) rfl
theorem atI4 {x y z t u : PyData} {l : List PyData} : atI (x :: y :: z :: t :: u :: l) 4 = some u := atI_nat (p := 4) rfl
theorem ixN30 : ixN 3 0 = some 0 := rfl
theorem ixN31 : ixN 3 1 = some 1 := rfl
theorem ixN32 : ixN 3 2 = some 2 := rfl
theorem b400 {x : Int} (h : x.natAbs < 10 ^ 60) : x.natAbs < 2 ^ 400 := by
  have e : (10 : Nat) ^ 60 ≤ 2 ^ 400 := Nat.le_trans (by decide : (10 : Nat) ^ 60 ≤ 2 ^ 200) (Nat.pow_le_pow_right (by omega) (by omega))
  exact Nat.lt_of_lt_of_le h e
theorem at_one {x y : PyData} {r : Int} (h0 : 0 ≤ r) (h1 : r < 2) {P : Option PyData → Prop} (a : P (some x)) (b : P (some y)) : P (atI [x, y] r) := by
  have : r = 0 ∨ r = 1 := by omega
  rcases this with rfl | rfl
  · exact a
  · exact b
theorem getD_snoc {α : Type} {l : List α} {x d : α} {p : Nat} : (l ++ [x]).getD p d = if p < l.length then l.getD p d else if p = l.length then x else d := by
  rw [List.getD_eq_getElem?_getD, List.getElem?_append]
  by_cases h : p < l.length
  · rw [if_pos h, if_pos h, List.getD_eq_getElem?_getD]
  · rw [if_neg h, if_neg h]
    by_cases z : p = l.length
    · rw [if_pos z, z, Nat.sub_self]; rfl
    · rw [if_neg z]
      have : p - l.length ≠ 0 := by omega
      obtain ⟨k, hk⟩ := Nat.exists_eq_succ_of_ne_zero this
      rw [hk]; rfl
theorem fine_snoc {y : List Rm} {s : List Int} {r : Rm} {x : Int} (h : Fine y s) (f : Fits r x) : Fine (y ++ [r]) (s ++ [x]) := by
  refine ⟨by rw [List.length_append, List.length_append, h.1]; rfl, fun p hp => ?_⟩
  rw [List.length_append, List.length_cons, List.length_nil] at hp
  rw [getD_snoc, getD_snoc, h.1]
  by_cases z : p < y.length
  · rw [if_pos z, if_pos z]; exact h.2 p z
  · have : p = y.length := by omega
    rw [if_neg z, if_neg z, if_pos this, if_pos this]; exact f
theorem upto_snoc {K : Int} {s : List Int} {x : Int} (h : Upto K s) (hx : x ≤ K) : Upto K (s ++ [x]) := fun p hp => by
  rw [List.length_append, List.length_cons, List.length_nil] at hp
  rw [getD_snoc]
  by_cases z : p < s.length
  · rw [if_pos z]; exact h p z
  · have : p = s.length := by omega
    rw [if_neg z, if_pos this]; exact hx
theorem get_erase_perm : ∀ (l : List Nat) (i : Nat) (h : i < l.length), (l[i] :: l.eraseIdx i).Perm l
  | a :: l, 0, _ => List.Perm.refl _
  | a :: l, i + 1, h => (List.Perm.swap a _ _).trans ((get_erase_perm l i (by simpa using h)).cons a)
theorem pop_perm {ps ls : List Nat} {i : Nat} (h : i < ls.length) : ((ps ++ [ls[i]]) ++ ls.eraseIdx i).Perm (ps ++ ls) := by
  rw [List.append_assoc]
  exact List.Perm.append_left ps (get_erase_perm ls i h)
theorem erase_map {α β : Type} (f : α → β) : ∀ (l : List α) (i : Nat), (l.map f).eraseIdx i = (l.eraseIdx i).map f
  | [], _ => rfl
  | _ :: _, 0 => rfl
  | a :: l, i + 1 => by
    show f a :: (l.map f).eraseIdx i = f a :: (l.eraseIdx i).map f
    rw [erase_map f l i]
/-! ### the moments of a day -/
def momsT (y : List Rm) : List Int → List Ask → List (List Int)
  | _, [] => []
  | now, a :: d => (serveM y now a).2 :: momsT y (serveM y now a).2 d
def momsM (y : List Rm) (now : List Int) (d : List Ask) : List (List Int) := now :: momsT y now d
theorem momsT_len (y : List Rm) : ∀ (d : List Ask) (now : List Int), (momsT y now d).length = d.length
  | [], _ => rfl
  | a :: d, now => by
    show (momsT y (serveM y now a).2 d).length + 1 = d.length + 1
    rw [momsT_len y d]
theorem moms_last (y : List Rm) : ∀ (d : List Ask) (now : List Int), (momsM y now d)[d.length]? = some (goM y now d).2
  | [], _ => rfl
  | a :: d, now => by
    show (momsM y (serveM y now a).2 d)[d.length]? = _
    rw [moms_last y d]
    rfl
def fullM (now : List Int) (ws : List Nat) : List Nat := ws.filter fun p => decide (0 < now.getD p 0)
def freeM (y : List Rm) (now : List Int) (ls : List Nat) : List Nat := ls.filter (roomB y now)
theorem full_head (now : List Int) (ws : List Nat) : (fullM now ws).head? = firstT now ws := List.head?_filter
theorem free_head (y : List Rm) (now : List Int) (ws : List Nat) : (freeM y now ws).head? = firstR y now ws := List.head?_filter
def fullD (now : List Int) : PyData → Bool
  | .int i => decide (0 < now.getD i.toNat 0)
  | _ => false
def freeD (y : List Rm) (now : List Int) : PyData → Bool
  | .int i => roomB y now i.toNat
  | _ => false
theorem full_eq (now : List Int) (ws : List Nat) : ((ws.map encN).filter (fullD now)).map (fun d => d) = (fullM now ws).map encN := by
  rw [List.map_id', List.filter_map]
  rfl
theorem free_eq (y : List Rm) (now : List Int) (ws : List Nat) : ((ws.map encN).filter (freeD y now)).map (fun d => d) = (freeM y now ws).map encN := by
  rw [List.map_id', List.filter_map]
  rfl
theorem full_mem {now : List Int} {ws : List Nat} {p : Nat} (h : p ∈ fullM now ws) : p ∈ ws := (List.mem_filter.1 h).1
theorem free_mem {y : List Rm} {now : List Int} {ws : List Nat} {p : Nat} (h : p ∈ freeM y now ws) : p ∈ ws := (List.mem_filter.1 h).1
theorem nice_some {n : Nat} {l ws : List Nat} (hn : n ≤ 9) (h : PlacesOk n ws) (hl : l.Sublist ws) : Nice 100 1 (.list (l.map encN)) := nice_list (w := 10) (k := 0) (fun d hd => by
    obtain ⟨p, hp, rfl⟩ := List.mem_map.1 hd
    exact nice_N (by have := h.2 p (hl.subset hp); omega)) (by have := hl.length_le; have := places_len h; rw [List.length_map]; omega)
end Kb
namespace Kb
theorem seq_i {A B : WS} {D : EndW} {env : Ev} (h : A { D with nx := B D } env) : sSeq A B D env := h
end Kb
namespace Kb
open PySem PySem.Spec PyProof.Rows L2
theorem ixN_nat {n p : Nat} (h : p < n) : ixN n (p : Int) = some p := by
  unfold ixN
  rw [if_pos (by omega), if_pos (by omega)]
  rfl
theorem set_nat {now : List Int} (p : Nat) {k : Int} : (now.map PyData.int).set p (.int (now.getD p 0 + k)) = (add now p k).map .int := by
  rw [add, List.map_set]
theorem eqv_nil : PyData.eqv (.list []) (.list []) = true := rfl
theorem eqv_cons {x : PyData} {l : List PyData} : PyData.eqv (.list (x :: l)) (.list []) = false := rfl
theorem fine_take {y : List Rm} {now : List Int} {p : Nat} (h : Fine y now) (hp : p < y.length) (pos : 0 < now.getD p 0) : Fine y (add now p (-1)) := by
  have hp' : p < now.length := by rw [h.1]; exact hp
  refine ⟨by rw [add_len]; exact h.1, fun q hq => ?_⟩
  rw [getD_add hp']
  obtain ⟨f1, f2⟩ := h.2 q hq
  by_cases z : p = q
  · subst z
    rw [if_pos rfl]
    exact ⟨by omega, fun i hi => by have := f2 i hi; omega⟩
  · rw [if_neg z]
    exact ⟨f1, f2⟩
end Kb
namespace Kb
open PySem PySem.Spec PyProof.Rows L2
theorem eqvI_ne {i j : Int} (h : i ≠ j) : (PyData.int i).eqv (.int j) = false := by simp only [PyData.eqv]; simpa using h
theorem eqvI_eq {i j : Int} (h : i = j) : (PyData.int i).eqv (.int j) = true := by simp only [PyData.eqv]; simpa using h
end Kb

namespace Kb
open PySem PySem.Spec PyProof.Rows L2
theorem eqvS {x : Str} : PyData.eqv (.str x) (.str x) = true := by simp only [PyData.eqv]; simp
def keepIx (log : List Row) : PyData → Bool
  | .int i => (log.getD i.toNat none).isSome
  | _ => false
theorem there_eq (log : List Row) : ((intsD log.length).filter (keepIx log)).map (fun d => d) = (servedIx log).map encN := by
  rw [List.map_id']
  unfold intsD servedIx
  rw [List.filter_map]
  rfl
theorem served_lt {log : List Row} {r : Nat} (h : r ∈ servedIx log) : r < log.length := List.mem_range.1 (List.mem_filter.1 h).1
theorem served_len (log : List Row) : (servedIx log).length ≤ log.length := Nat.le_trans (List.length_filter_le _ _) (by simp)
theorem atI_row {log : List Row} {i : Nat} (h : i < log.length) : atI (log.map encRow) (i : Int) = some (encRow (log.getD i none)) := by
  refine atI_nat ?_
  rw [List.getElem?_map, List.getElem?_eq_getElem h, getD_some (List.getElem?_eq_getElem h)]
  rfl
theorem atI_last {l : List PyData} {x : PyData} {n : Nat} (hl : l.length = n + 1) (h : l[n]? = some x) : atI l (-1) = some x := by
  unfold atI ixN
  rw [if_neg (by omega), if_pos (by omega)]
  have e : ((-1 : Int) + (l.length : Int)).toNat = n := by omega
  show l[((-1 : Int) + (l.length : Int)).toNat]? = some x
  rw [e, h]
theorem moms_at (y : List Rm) (s : List Int) (d : List Ask) : atI ((momsM y s d).map encS) (-1) = some (encS (goM y s d).2) := by
  refine atI_last (n := d.length) ?_ ?_
  · rw [List.length_map]
    show (momsT y s d).length + 1 = _
    rw [momsT_len]
  · rw [List.getElem?_map, moms_last]; rfl
end Kb
namespace Kb
open PySem PySem.Spec PyProof.Rows L2
/-! ### one thing more -/
theorem add_same {a : List Int} {p : Nat} {j k : Int} (hp : p < a.length) : add (add a p j) p k = add a p (j + k) := by
  have e := getD_add (now := a) (p := p) (q := p) (k := j) hp
  rw [if_pos rfl] at e
  unfold add at e ⊢
  rw [e, List.set_set, Int.add_assoc]
theorem add_zero {a : List Int} {p : Nat} (hp : p < a.length) : add a p 0 = a := by
  unfold add
  rw [Int.add_zero, getD_some (List.getElem?_eq_getElem hp), List.set_getElem_self]
theorem add_comm {a : List Int} {p q : Nat} {j k : Int} (hp : p < a.length) (hq : q < a.length) : add (add a p j) q k = add (add a q k) p j := by
  by_cases e : p = q
  · subst e
    rw [add_same hp, add_same hp, Int.add_comm]
  · have e1 := getD_add (now := a) (p := p) (q := q) (k := j) hp
    have e2 := getD_add (now := a) (p := q) (q := p) (k := k) hq
    rw [if_neg e] at e1
    rw [if_neg fun z => e z.symm] at e2
    unfold add at e1 e2 ⊢
    rw [e1, e2, List.set_comm _ _ e]
theorem find_more {f g : Nat → Bool} {q : Nat} : ∀ (ws : List Nat), (∀ p ∈ ws, f p = true → g p = true) → (∀ p ∈ ws, g p = true → f p = true ∨ p = q) → ws.find? g = ws.find? f ∨ ws.find? g = some q
  | [], _, _ => .inl rfl
  | p :: ws, h1, h2 => by
    have ih := find_more ws (fun x hx => h1 x (List.mem_cons_of_mem _ hx)) (fun x hx => h2 x (List.mem_cons_of_mem _ hx))
    rw [List.find?_cons, List.find?_cons]
    cases hf : f p with
    | true => rw [h1 p List.mem_cons_self hf]; exact .inl rfl
    | false =>
      cases hg : g p with
      | false => exact ih
      | true =>
        rcases h2 p List.mem_cons_self hg with z | z
        · rw [hf] at z; cases z
        · rw [z]; exact .inr rfl
def One (y : List Rm) (a b : List Int) : Prop := b = a ∨ ∃ q, q < y.length ∧ b = add a q 1
def leaveM (y : List Rm) (a : List Int) (ls : List Nat) : List Int := match firstR y a ls with
  | none => a
  | some o => add a o 1
theorem one_leave {y : List Rm} {a : List Int} {q : Nat} {ls : List Nat} (hl : a.length = y.length) (hq : q < y.length) (hls : ∀ p ∈ ls, p < y.length) : One y (leaveM y a ls) (leaveM y (add a q 1) ls) := by
  have hqa : q < a.length := by omega
  have key := find_more (f := roomB y (add a q 1)) (g := roomB y a) (q := q) ls (fun p hp h => by
    unfold roomB at h ⊢
    have e := getD_add (now := a) (p := q) (q := p) (k := 1) hqa
    rw [e] at h
    split
    · rfl
    · rename_i i ei
      rw [ei] at h
      simp only at h
      have h' := of_decide_eq_true h
      apply decide_eq_true
      split at h'
      · rename_i z; subst z; omega
      · exact h') (fun p hp h => by
    by_cases z : p = q
    · exact .inr z
    · left
      unfold roomB at h ⊢
      have e := getD_add (now := a) (p := q) (q := p) (k := 1) hqa
      rw [if_neg fun x => z x.symm] at e
      rw [e]
      exact h)
  change firstR y a ls = firstR y (add a q 1) ls ∨ firstR y a ls = some q at key
  unfold leaveM
  rcases key with e | e
  · rw [← e]
    cases h : firstR y a ls with
    | none => exact .inr ⟨q, hq, rfl⟩
    | some o =>
      have ho := hls o (List.mem_of_find?_eq_some h)
      exact .inr ⟨q, hq, add_comm hqa (by omega)⟩
  · rw [e]
    cases h : firstR y (add a q 1) ls with
    | none => exact .inl rfl
    | some o => exact .inr ⟨o, hls o (List.mem_of_find?_eq_some h), rfl⟩
theorem serveM_eq (y : List Rm) (now : List Int) (a : Ask) : (serveM y now a).2 = (match firstT now a.1 with | none => now | some p => leaveM y (add now p (-1)) a.2) ∧ (serveM y now a).1.isSome = (firstT now a.1).isSome := by
  unfold serveM leaveM
  cases firstT now a.1 with
  | none => exact ⟨rfl, rfl⟩
  | some p =>
    simp only
    cases firstR y (add now p (-1)) a.2 <;> exact ⟨rfl, rfl⟩
theorem one_serve {y : List Rm} {a b : List Int} {k : Ask} (h : One y a b) (fa : Fine y a) (hk : AskOk y.length k) : One y (serveM y a k).2 (serveM y b k).2 ∧ ((serveM y a k).1.isSome = true → (serveM y b k).1.isSome = true) := by
  rcases h with rfl | ⟨q, hq, rfl⟩
  · exact ⟨.inl rfl, id⟩
  have hqa : q < a.length := by rw [fa.1]; exact hq
  rw [(serveM_eq y a k).1, (serveM_eq y a k).2, (serveM_eq y (add a q 1) k).1, (serveM_eq y (add a q 1) k).2]
  have key := find_more (f := fun p => decide (0 < a.getD p 0)) (g := fun p => decide (0 < (add a q 1).getD p 0)) (q := q) k.1 (fun p hp h => by
    have h' := of_decide_eq_true h
    apply decide_eq_true
    rw [getD_add hqa]
    split
    · rename_i z; subst z; omega
    · exact h') (fun p hp h => by
    by_cases z : p = q
    · exact .inr z
    · left
      have h' := of_decide_eq_true h
      rw [getD_add hqa, if_neg fun x => z x.symm] at h'
      exact decide_eq_true h')
  change firstT (add a q 1) k.1 = firstT a k.1 ∨ firstT (add a q 1) k.1 = some q at key
  rcases key with e | e
  · rw [e]
    cases h : firstT a k.1 with
    | none => exact ⟨.inr ⟨q, hq, rfl⟩, id⟩
    | some p =>
      have hp := hk.1.2 p (firstT_some h).1
      have hpa : p < a.length := by rw [fa.1]; exact hp
      refine ⟨?_, id⟩
      simp only
      rw [add_comm hqa hpa]
      exact one_leave (by rw [add_len]; exact fa.1) hq hk.2.2
  · rw [e]
    simp only
    rw [add_same hqa, show (1 : Int) + -1 = 0 from rfl, add_zero hqa]
    cases h : firstT a k.1 with
    | none =>
      refine ⟨?_, fun _ => rfl⟩
      simp only
      unfold leaveM
      cases h2 : firstR y a k.2 with
      | none => exact .inl rfl
      | some o => exact .inr ⟨o, hk.2.2 o (List.mem_of_find?_eq_some h2), rfl⟩
    | some p =>
      have hp := hk.1.2 p (firstT_some h).1
      have hpa : p < a.length := by rw [fa.1]; exact hp
      refine ⟨?_, fun _ => rfl⟩
      simp only
      have := one_leave (y := y) (a := add a p (-1)) (q := p) (ls := k.2) (by rw [add_len]; exact fa.1) hp hk.2.2
      rw [add_same hpa, show (-1 : Int) + 1 = 0 from rfl, add_zero hpa] at this
      exact this
theorem one_go {y : List Rm} : ∀ {d : List Ask} {a b : List Int}, One y a b → Fine y a → Fine y b → (∀ k ∈ d, AskOk y.length k) → One y (goM y a d).2 (goM y b d).2 ∧ ∀ i, ((goM y a d).1.getD i none).isSome = true → ((goM y b d).1.getD i none).isSome = true
  | [], a, b, h, _, _, _ => ⟨h, fun i hi => by simp [goM] at hi⟩
  | k :: d, a, b, h, fa, fb, hd => by
    have hk := hd k List.mem_cons_self
    obtain ⟨o1, o2⟩ := one_serve h fa hk
    obtain ⟨g1, g2⟩ := one_go (d := d) o1 (fine_serve fa hk) (fine_serve fb hk) fun x hx => hd x (List.mem_cons_of_mem _ hx)
    refine ⟨g1, fun i hi => ?_⟩
    cases i with
    | zero => exact o2 hi
    | succ i => exact g2 i hi
/-! ### sums -/
theorem sum_set : ∀ (a : List Int) (q : Nat) (x : Int), q < a.length → (a.set q x).sum = a.sum - a.getD q 0 + x
  | [], q, x, h => by simp at h
  | n :: a, 0, x, _ => by
    show x + a.sum = n + a.sum - n + x
    omega
  | n :: a, q + 1, x, h => by
    have ih := sum_set a q x (by simpa using h)
    show n + (a.set q x).sum = n + a.sum - a.getD q 0 + x
    omega
theorem sum_add {a : List Int} {q : Nat} {k : Int} (h : q < a.length) : (add a q k).sum = a.sum + k := by
  unfold add
  rw [sum_set a q _ h]
  omega
def overM (a b : List Int) : List Int := List.zipWith (fun x z => z - x) a b
theorem sum_over : ∀ (a b : List Int), a.length = b.length → (overM a b).sum = b.sum - a.sum
  | [], [], _ => rfl
  | [], _ :: _, h => by simp at h
  | _ :: _, [], h => by simp at h
  | x :: a, z :: b, h => by
    have ih := sum_over a b (by simpa using h)
    show (z - x) + (overM a b).sum = (z + b.sum) - (x + a.sum)
    omega
theorem over_mem : ∀ (a b : List Int), a.length = b.length → (∀ p, p < a.length → a.getD p 0 ≤ b.getD p 0) → ∀ m ∈ overM a b, 0 ≤ m
  | [], [], _, _, m, h => by cases h
  | [], _ :: _, h, _, _, _ => by simp at h
  | _ :: _, [], h, _, _, _ => by simp at h
  | x :: a, z :: b, h, hp, m, hm => by
    rcases List.mem_cons.1 hm with rfl | hm
    · have : x ≤ z := hp 0 (by simp)
      show 0 ≤ z - x
      omega
    · exact over_mem a b (by simpa using h) (fun p hq => hp (p + 1) (by simpa using hq)) m hm
theorem over_len (a b : List Int) (h : a.length = b.length) : (overM a b).length = a.length := by
  unfold overM
  rw [List.length_zipWith, h, Nat.min_self]
def Below (a b : List Int) : Prop := a.length = b.length ∧ ∀ p, p < a.length → a.getD p 0 ≤ b.getD p 0
theorem Below.refl (a : List Int) : Below a a := ⟨rfl, fun _ _ => Int.le_refl _⟩
theorem Below.trans {a b c : List Int} (h : Below a b) (g : Below b c) : Below a c := ⟨h.1.trans g.1, fun p hp => Int.le_trans (h.2 p hp) (g.2 p (by rw [← h.1]; exact hp))⟩
theorem one_below {y : List Rm} {a b : List Int} (h : One y a b) (hl : a.length = y.length) : Below a b ∧ b.sum - a.sum ≤ 1 := by
  rcases h with rfl | ⟨q, hq, rfl⟩
  · exact ⟨.refl _, by omega⟩
  · have hqa : q < a.length := by omega
    refine ⟨⟨(add_len _ _ _).symm, fun p hp => ?_⟩, by rw [sum_add hqa]; omega⟩
    rw [getD_add hqa]
    split
    · rename_i z; subst z; omega
    · exact Int.le_refl _
/-! ### nothing is lost but what is carried off -/
def offB : Row → Bool
  | some (_, none) => true
  | _ => false
theorem serve_cases {y : List Rm} {a : List Int} {k : Ask} (fa : Fine y a) (hk : AskOk y.length k) : serveM y a k = (none, a) ∨ (∃ p, p < y.length ∧ serveM y a k = (some (p, none), add a p (-1))) ∨ ∃ p o, p < y.length ∧ o < y.length ∧ serveM y a k = (some (p, some o), add (add a p (-1)) o 1) := by
  unfold serveM
  split
  · exact .inl rfl
  · rename_i p h
    have hp := hk.1.2 p (firstT_some h).1
    split
    · exact .inr (.inl ⟨p, hp, rfl⟩)
    · rename_i o h2
      exact .inr (.inr ⟨p, o, hp, hk.2.2 o (List.mem_of_find?_eq_some h2), rfl⟩)
theorem kept_go {y : List Rm} : ∀ {d : List Ask} {a : List Int}, Fine y a → (∀ k ∈ d, AskOk y.length k) → (goM y a d).2.sum + (((goM y a d).1.filter offB).length : Nat) = a.sum
  | [], a, _, _ => by simp [goM]
  | k :: d, a, fa, hd => by
    have hk := hd k List.mem_cons_self
    have ih := kept_go (d := d) (fine_serve fa hk) fun x hx => hd x (List.mem_cons_of_mem _ hx)
    have step : (serveM y a k).2.sum + (if offB (serveM y a k).1 = true then 1 else 0) = a.sum := by
      rcases serve_cases fa hk with e | ⟨p, hp, e⟩ | ⟨p, o, hp, ho, e⟩
      · rw [e]; simp [offB]
      · rw [e]
        have hpa : p < a.length := by rw [fa.1]; exact hp
        simp only [offB, if_true]
        rw [sum_add hpa]; omega
      · rw [e]
        have hpa : p < a.length := by rw [fa.1]; exact hp
        simp only [offB, Bool.false_eq_true, if_false]
        rw [sum_add (by rw [add_len, fa.1]; exact ho), sum_add hpa]; omega
    show (goM y (serveM y a k).2 d).2.sum + ((((serveM y a k).1 :: (goM y (serveM y a k).2 d).1).filter offB).length : Nat) = a.sum
    rw [List.filter_cons]
    split
    · rename_i z
      rw [if_pos z] at step
      rw [List.length_cons]
      omega
    · rename_i z
      rw [if_neg z] at step
      omega
end Kb
namespace Kb
open PySem PySem.Spec PyProof.Rows L2
/-! ### cuts -/
theorem cut_to {α : Type} (xs : List α) (n : Nat) : cutL xs none (some (n : Int)) = xs.take n := by
  unfold cutL
  rw [HT.sIx_none, HT.sIx_nat, List.drop_zero, Nat.sub_zero]
  by_cases h : n ≤ xs.length
  · rw [Nat.min_eq_left h]
  · rw [Nat.min_eq_right (by omega), List.take_of_length_le (Nat.le_refl _), List.take_of_length_le (by omega)]
theorem cut_from {α : Type} (xs : List α) (n : Nat) : cutL xs (some (n : Int)) none = xs.drop n := by
  unfold cutL
  rw [HT.sIx_none, HT.sIx_nat]
  by_cases h : n ≤ xs.length
  · rw [Nat.min_eq_left h, List.take_of_length_le (by rw [List.length_drop]; omega)]
  · rw [Nat.min_eq_right (by omega), List.drop_of_length_le (Nat.le_refl _), List.drop_of_length_le (by omega)]
    simp
theorem set_cut : ∀ (xs : List PyData) (q : Nat) (v : PyData), q < xs.length → xs.take q ++ [v] ++ xs.drop (q + 1) = xs.set q v
  | [], q, v, h => by simp at h
  | x :: xs, 0, v, _ => rfl
  | x :: xs, q + 1, v, h => by
    have ih := set_cut xs q v (by simpa using h)
    show x :: (xs.take q ++ [v] ++ xs.drop (q + 1)) = x :: xs.set q v
    rw [ih]
theorem intsOf_ints (ns : List Int) : intsOf (ns.map .int) = some ns := intsOf_map ns
def subPair : PyData → PyData
  | .tuple [.int x, .int z] => .int (z - x)
  | _ => .none
theorem over_eq : ∀ a b : List Int, (zipD (a.map .int) (b.map .int)).map subPair = (overM a b).map .int
  | [], _ => by simp [zipD, overM]
  | _ :: _, [] => by simp [zipD, overM]
  | x :: a, z :: b => by
    show subPair (.tuple [.int x, .int z]) :: (zipD (a.map .int) (b.map .int)).map subPair = .int (z - x) :: (overM a b).map .int
    rw [over_eq a b]
    rfl
theorem zip_mem : ∀ {xs ys : List PyData} {d : PyData}, d ∈ zipD xs ys → ∃ (i : Nat) (x y : PyData), xs[i]? = some x ∧ ys[i]? = some y ∧ d = .tuple [x, y]
  | [], _, d, h => by cases h
  | _ :: _, [], d, h => by cases h
  | x :: xs, y :: ys, d, h => by
    rcases List.mem_cons.1 h with rfl | h
    · exact ⟨0, x, y, rfl, rfl, rfl⟩
    · obtain ⟨i, a, b, h1, h2, e⟩ := zip_mem h
      exact ⟨i + 1, a, b, h1, h2, e⟩
theorem zip_ints {a b : List Int} {d : PyData} (h : d ∈ zipD (a.map .int) (b.map .int)) : ∃ x z : Int, d = .tuple [.int x, .int z] := by
  obtain ⟨i, x, y, h1, h2, rfl⟩ := zip_mem h
  rw [List.getElem?_map] at h1 h2
  cases ha : a[i]? with
  | none => rw [ha] at h1; cases h1
  | some u =>
    cases hb : b[i]? with
    | none => rw [hb] at h2; cases h2
    | some v =>
      rw [ha] at h1; rw [hb] at h2
      cases h1; cases h2
      exact ⟨u, v, rfl⟩
/-- what lies at each moment, by the day's beginnings -/
def momsD (y : List Rm) (s : List Int) (d : List Ask) : List PyData := (List.range (d.length + 1)).map fun n => encS (goM y s (d.take n)).2
def momD (y : List Rm) (s : List Int) (d : List Ask) : PyData → PyData
  | .int i => encS (goM y s (d.take i.toNat)).2
  | _ => .none
theorem moms_eq (y : List Rm) (s : List Int) (d : List Ask) : (intsD (d.length + 1)).map (momD y s d) = momsD y s d := by
  unfold intsD momsD
  rw [List.map_map]
  rfl
theorem moms_mem {y : List Rm} {s t : List Int} {d : List Ask} {x : PyData} (h : x ∈ zipD (momsD y s d) (momsD y t d)) : ∃ n, x = .tuple [encS (goM y s (d.take n)).2, encS (goM y t (d.take n)).2] := by
  obtain ⟨i, u, v, h1, h2, rfl⟩ := zip_mem h
  unfold momsD at h1 h2
  rw [List.getElem?_map] at h1 h2
  cases hr : (List.range (d.length + 1))[i]? with
  | none => rw [hr] at h1; cases h1
  | some n =>
    rw [hr] at h1 h2
    cases h1; cases h2
    exact ⟨n, rfl⟩
theorem day_take {n : Nat} {d : List Ask} (h : DayOk n d) (m : Nat) : DayOk n (d.take m) := ⟨by rw [List.length_take]; have := h.1; omega, fun a ha => h.2 a (List.mem_of_mem_take ha)⟩
theorem take_day (d : List Ask) (m : Nat) : (d.map encA).take m = (d.take m).map encA := List.map_take.symm
theorem one_fine {y : List Rm} {a b : List Int} (h : One y a b) (hl : a.length = y.length) : b.length = a.length := by
  rcases h with rfl | ⟨q, _, rfl⟩
  · rfl
  · exact add_len _ _ _
theorem fine_add {y : List Rm} {s : List Int} {q : Nat} (f : Fine y s) (hq : q < y.length) (hr : roomB y s q = true) : Fine y (add s q 1) := by
  have hqs : q < s.length := by rw [f.1]; exact hq
  refine ⟨by rw [add_len]; exact f.1, fun p hp => ?_⟩
  rw [getD_add hqs]
  obtain ⟨f1, f2⟩ := f.2 p hp
  by_cases z : q = p
  · subst z
    rw [if_pos rfl]
    refine ⟨by omega, fun i hi => ?_⟩
    unfold roomB at hr
    rw [hi] at hr
    have := of_decide_eq_true hr
    omega
  · rw [if_neg z]
    exact ⟨f1, f2⟩
def roomIx (y : List Rm) (s : List Int) : PyData → Bool
  | .int i => roomB y s i.toNat
  | _ => false
def freeIx (y : List Rm) (s : List Int) : List Nat := (List.range y.length).filter (roomB y s)
theorem freeIx_eq (y : List Rm) (s : List Int) : ((intsD y.length).filter (roomIx y s)).map (fun d => d) = (freeIx y s).map encN := by
  rw [List.map_id']
  unfold intsD freeIx
  rw [List.filter_map]
  rfl
theorem freeIx_mem {y : List Rm} {s : List Int} {q : Nat} (h : q ∈ freeIx y s) : q < y.length ∧ roomB y s q = true := ⟨List.mem_range.1 (List.mem_filter.1 h).1, (List.mem_filter.1 h).2⟩
theorem nice_free {y : List Rm} {s : List Int} (h : y.length ≤ 9) : Nice 100 1 (.list ((freeIx y s).map encN)) := nice_list (w := 10) (k := 0) (fun d hd => by
    obtain ⟨p, hp, rfl⟩ := List.mem_map.1 hd
    exact nice_N (by have := (freeIx_mem hp).1; omega)) (by
      have : (freeIx y s).length ≤ (List.range y.length).length := List.length_filter_le _ _
      rw [List.length_range] at this
      rw [List.length_map]; omega)
def offD : PyData → Bool
  | .tuple [_, o] => isN (.data o)
  | _ => false
theorem off_eq (log : List Row) : ((log.map encRow).filter offD).map (fun d => d) = (log.filter offB).map encRow := by
  rw [List.map_id', List.filter_map]
  have : offD ∘ encRow = offB := by
    funext r
    cases r with
    | none => rfl
    | some q => obtain ⟨p, o⟩ := q; cases o <;> rfl
  rw [this]
theorem ints_of_ix (ns : List Nat) : (ns.map encN) = (ns.map Int.ofNat).map .int := by
  rw [List.map_map]; rfl
end Kb
namespace Kb
open PySem PySem.Spec PyProof.Rows L2
theorem fine_go {y : List Rm} : ∀ {d : List Ask} {a : List Int}, Fine y a → (∀ k ∈ d, AskOk y.length k) → Fine y (goM y a d).2
  | [], _, f, _ => f
  | k :: d, _, f, h => fine_go (d := d) (fine_serve f (h k List.mem_cons_self)) fun x hx => h x (List.mem_cons_of_mem _ hx)
end Kb
namespace Kb
open PySem PySem.Spec PyProof.Rows L2
/-! ### nowhere more stays nowhere more -/
theorem below_sum : ∀ {a b : List Int}, a.length = b.length → (∀ p, p < a.length → a.getD p 0 ≤ b.getD p 0) → a.sum ≤ b.sum
  | [], [], _, _ => Int.le_refl _
  | [], _ :: _, h, _ => by simp at h
  | _ :: _, [], h, _ => by simp at h
  | x :: a, z :: b, h, p => by
    have ih := below_sum (a := a) (b := b) (by simpa using h) fun q hq => p (q + 1) (by simpa using hq)
    have h0 : x ≤ z := p 0 (by simp)
    show x + a.sum ≤ z + b.sum
    omega
theorem below_or : ∀ {a b : List Int}, a.length = b.length → (∀ p, p < a.length → a.getD p 0 ≤ b.getD p 0) → a = b ∨ ∃ q, q < a.length ∧ a.getD q 0 < b.getD q 0
  | [], [], _, _ => .inl rfl
  | [], _ :: _, h, _ => by simp at h
  | _ :: _, [], h, _ => by simp at h
  | x :: a, z :: b, h, p => by
    have h0 : x ≤ z := p 0 (by simp)
    by_cases e : x = z
    · rcases below_or (a := a) (b := b) (by simpa using h) fun q hq => p (q + 1) (by simpa using hq) with r | ⟨q, hq, r⟩
      · exact .inl (by rw [e, r])
      · exact .inr ⟨q + 1, by simpa using hq, r⟩
    · exact .inr ⟨0, by simp, by show x < z; omega⟩
theorem fine_between {y : List Rm} {a b : List Int} {q : Nat} (fa : Fine y a) (fb : Fine y b) (hq : q < a.length) (hl : a.getD q 0 < b.getD q 0) : Fine y (add a q 1) := by
  refine ⟨by rw [add_len]; exact fa.1, fun p hp => ?_⟩
  rw [getD_add hq]
  obtain ⟨f1, f2⟩ := fa.2 p hp
  obtain ⟨g1, g2⟩ := fb.2 p hp
  by_cases z : q = p
  · subst z
    rw [if_pos rfl]
    exact ⟨by omega, fun i hi => by have := g2 i hi; omega⟩
  · rw [if_neg z]
    exact ⟨f1, f2⟩
theorem below_go {y : List Rm} {d : List Ask} (hd : ∀ k ∈ d, AskOk y.length k) : ∀ (n : Nat) {a b : List Int}, Below a b → Fine y a → Fine y b → b.sum - a.sum ≤ (n : Int) → Below (goM y a d).2 (goM y b d).2 ∧ (goM y b d).2.sum - (goM y a d).2.sum ≤ b.sum - a.sum ∧ ∀ i, ((goM y a d).1.getD i none).isSome = true → ((goM y b d).1.getD i none).isSome = true
  | n, a, b, h, fa, fb, hn => by
    rcases below_or h.1 h.2 with rfl | ⟨q, hq, hl⟩
    · exact ⟨.refl _, by omega, fun _ => id⟩
    · have hs := sum_add (k := 1) hq
      have h1 : Below (add a q 1) b := ⟨by rw [add_len]; exact h.1, fun p hp => by
        rw [getD_add hq]
        rw [add_len] at hp
        split
        · rename_i z; subst z; omega
        · exact h.2 p hp⟩
      have s1 := below_sum h1.1 h1.2
      have f1 := fine_between fa fb hq hl
      have o1 : One y a (add a q 1) := .inr ⟨q, by rw [← fa.1]; exact hq, rfl⟩
      obtain ⟨o2, r1⟩ := one_go o1 fa f1 hd
      obtain ⟨b1, t1⟩ := one_below o2 (fine_go fa hd).1
      cases n with
      | zero => exact absurd hn (by omega)
      | succ n =>
        obtain ⟨b2, t2, r2⟩ := below_go hd n h1 f1 fb (by omega)
        exact ⟨b1.trans b2, by omega, fun i hi => r2 i (r1 i hi)⟩
/-! ### how far two are apart -/
def absI (x : Int) : Int := if x < 0 then -x else x
def distL : List Int → List Int → Int
  | x :: a, z :: b => absI (x - z) + distL a b
  | _, _ => 0
def meetL : List Int → List Int → List Int
  | x :: a, z :: b => (if x < z then x else z) :: meetL a b
  | _, _ => []
theorem dist_meet : ∀ {a b : List Int}, a.length = b.length → distL a b = (a.sum - (meetL a b).sum) + (b.sum - (meetL a b).sum)
  | [], [], _ => rfl
  | [], _ :: _, h => by simp at h
  | _ :: _, [], h => by simp at h
  | x :: a, z :: b, h => by
    have ih := dist_meet (a := a) (b := b) (by simpa using h)
    show absI (x - z) + distL a b = ((x + a.sum) - ((if x < z then x else z) + (meetL a b).sum)) + ((z + b.sum) - ((if x < z then x else z) + (meetL a b).sum))
    unfold absI
    split <;> split <;> omega
theorem dist_tri : ∀ {a b c : List Int}, a.length = b.length → b.length = c.length → distL a c ≤ distL a b + distL b c
  | [], [], [], _, _ => by simp [distL]
  | [], [], _ :: _, _, h => by simp at h
  | [], _ :: _, _, h, _ => by simp at h
  | _ :: _, [], _, h, _ => by simp at h
  | _ :: _, _ :: _, [], _, h => by simp at h
  | x :: a, z :: b, u :: c, h, g => by
    have ih := dist_tri (a := a) (b := b) (c := c) (by simpa using h) (by simpa using g)
    show absI (x - u) + distL a c ≤ (absI (x - z) + distL a b) + (absI (z - u) + distL b c)
    unfold absI
    split <;> split <;> split <;> omega
theorem dist_below : ∀ {a b : List Int}, a.length = b.length → (∀ p, p < a.length → a.getD p 0 ≤ b.getD p 0) → distL a b = b.sum - a.sum ∧ distL b a = b.sum - a.sum
  | [], [], _, _ => ⟨rfl, rfl⟩
  | [], _ :: _, h, _ => by simp at h
  | _ :: _, [], h, _ => by simp at h
  | x :: a, z :: b, h, p => by
    obtain ⟨i1, i2⟩ := dist_below (a := a) (b := b) (by simpa using h) fun q hq => p (q + 1) (by simpa using hq)
    have h0 : x ≤ z := p 0 (by simp)
    constructor
    · show absI (x - z) + distL a b = (z + b.sum) - (x + a.sum)
      unfold absI
      split <;> omega
    · show absI (z - x) + distL b a = (z + b.sum) - (x + a.sum)
      unfold absI
      split <;> omega
theorem meet_len : ∀ {a b : List Int}, a.length = b.length → (meetL a b).length = a.length
  | [], [], _ => rfl
  | [], _ :: _, h => by simp at h
  | _ :: _, [], h => by simp at h
  | x :: a, z :: b, h => by
    show (meetL a b).length + 1 = a.length + 1
    rw [meet_len (by simpa using h)]
theorem meet_get : ∀ {a b : List Int} (p : Nat), a.length = b.length → p < a.length → (meetL a b).getD p 0 = if a.getD p 0 < b.getD p 0 then a.getD p 0 else b.getD p 0
  | [], [], _, _, h => by simp at h
  | [], _ :: _, _, h, _ => by simp at h
  | _ :: _, [], _, h, _ => by simp at h
  | x :: a, z :: b, 0, _, _ => rfl
  | x :: a, z :: b, p + 1, h, g => meet_get (a := a) (b := b) p (by simpa using h) (by simpa using g)
theorem meet_below {a b : List Int} (h : a.length = b.length) : Below (meetL a b) a ∧ Below (meetL a b) b := by
  refine ⟨⟨meet_len h, fun p hp => ?_⟩, ⟨by rw [meet_len h, h], fun p hp => ?_⟩⟩
  all_goals
    rw [meet_len h] at hp
    rw [meet_get p h hp]
    split <;> omega
theorem meet_fine {y : List Rm} {a b : List Int} (fa : Fine y a) (fb : Fine y b) : Fine y (meetL a b) := by
  have h : a.length = b.length := by rw [fa.1, fb.1]
  refine ⟨by rw [meet_len h]; exact fa.1, fun p hp => ?_⟩
  rw [meet_get p h (by rw [fa.1]; exact hp)]
  split
  · exact fa.2 p hp
  · exact fb.2 p hp
/-- a day brings no two worlds farther apart -/
theorem dist_go {y : List Rm} {d : List Ask} (hd : ∀ k ∈ d, AskOk y.length k) {a b : List Int} (fa : Fine y a) (fb : Fine y b) : distL (goM y a d).2 (goM y b d).2 ≤ distL a b := by
  have h : a.length = b.length := by rw [fa.1, fb.1]
  obtain ⟨m1, m2⟩ := meet_below h
  have fm := meet_fine fa fb
  obtain ⟨b1, t1, _⟩ := below_go hd (a.sum - (meetL a b).sum).toNat m1 fm fa (by omega)
  obtain ⟨b2, t2, _⟩ := below_go hd (b.sum - (meetL a b).sum).toNat m2 fm fb (by omega)
  have e := dist_meet h
  have d1 := (dist_below b1.1 b1.2).2
  have d2 := (dist_below b2.1 b2.2).1
  have tr := dist_tri (a := (goM y a d).2) (b := (goM y (meetL a b) d).2) (c := (goM y b d).2) b1.1.symm b2.1
  omega
theorem dist_self : ∀ a : List Int, distL a a = 0
  | [] => rfl
  | x :: a => by
    show absI (x - x) + distL a a = 0
    rw [dist_self a, Int.sub_self]
    rfl
theorem one_dist {y : List Rm} {a b : List Int} (h : One y a b) (hl : a.length = y.length) : distL a b ≤ 1 ∧ distL b a ≤ 1 := by
  obtain ⟨bl, s⟩ := one_below h hl
  obtain ⟨d1, d2⟩ := dist_below bl.1 bl.2
  omega
theorem dist_range : ∀ {a b : List Int}, a.length = b.length → ((List.range a.length).map fun k => absI (a.getD k 0 - b.getD k 0)).sum = distL a b
  | [], [], _ => rfl
  | [], _ :: _, h => by simp at h
  | _ :: _, [], h => by simp at h
  | x :: a, z :: b, h => by
    have ih := dist_range (a := a) (b := b) (by simpa using h)
    rw [List.length_cons, List.range_succ_eq_map, List.map_cons, List.map_map, List.sum_cons]
    show absI (x - z) + _ = absI (x - z) + distL a b
    rw [← ih]
    rfl
/-- the end of a day is that of its first asks, gone on -/
theorem go_app (y : List Rm) : ∀ (d e : List Ask) (a : List Int), goM y a (d ++ e) = ((goM y a d).1 ++ (goM y (goM y a d).2 e).1, (goM y (goM y a d).2 e).2)
  | [], e, a => rfl
  | k :: d, e, a => by
    show ((serveM y a k).1 :: (goM y (serveM y a k).2 (d ++ e)).1, (goM y (serveM y a k).2 (d ++ e)).2) = _
    rw [go_app y d e]
    rfl
/-- an ask with its wants otherwise, first taken unlike: two things at most -/
theorem dist_serve {y : List Rm} {a : List Int} {k k' : Ask} (fa : Fine y a) (hk : AskOk y.length k) (hk' : AskOk y.length k') (hl : k'.2 = k.2) (hs : (firstT a k.1).isSome = (firstT a k'.1).isSome) : distL (serveM y a k).2 (serveM y a k').2 ≤ 2 := by
  rw [(serveM_eq y a k).1, (serveM_eq y a k').1]
  cases e : firstT a k.1 with
  | none =>
    rw [e] at hs
    cases e' : firstT a k'.1 with
    | none => simp only; rw [dist_self]; omega
    | some p => rw [e'] at hs; cases hs
  | some p =>
    rw [e] at hs
    cases e' : firstT a k'.1 with
    | none => rw [e'] at hs; cases hs
    | some p' =>
      simp only
      rw [hl]
      obtain ⟨mp, pos⟩ := firstT_some e
      obtain ⟨mp', pos'⟩ := firstT_some e'
      have hp := hk.1.2 p mp
      have hp' := hk'.1.2 p' mp'
      have hpa : p < a.length := by rw [fa.1]; exact hp
      have hpa' : p' < a.length := by rw [fa.1]; exact hp'
      by_cases z : p = p'
      · subst z; rw [dist_self]; omega
      · have l1 : (add a p (-1)).length = y.length := by rw [add_len]; exact fa.1
        have l2 : (add (add a p (-1)) p' (-1)).length = y.length := by rw [add_len]; exact l1
        have o1 := one_leave (y := y) (a := add (add a p (-1)) p' (-1)) (q := p') (ls := k.2) l2 hp' hk.2.2
        have o2 := one_leave (y := y) (a := add (add a p (-1)) p' (-1)) (q := p) (ls := k.2) l2 hp hk.2.2
        have q1 : add (add (add a p (-1)) p' (-1)) p' 1 = add a p (-1) := by
          rw [add_same (by rw [add_len]; exact hpa'), show (-1 : Int) + 1 = 0 from rfl, add_zero (by rw [add_len]; exact hpa')]
        have q2 : add (add (add a p (-1)) p' (-1)) p 1 = add a p' (-1) := by
          rw [add_comm hpa hpa', add_same (by rw [add_len]; exact hpa), show (-1 : Int) + 1 = 0 from rfl, add_zero (by rw [add_len]; exact hpa)]
        rw [q1] at o1
        rw [q2] at o2
        have ll : ∀ c : List Int, (leaveM y c k.2).length = c.length := fun c => by
          unfold leaveM
          split
          · rfl
          · exact add_len _ _ _
        have d1 := (one_dist o1 (by rw [ll]; exact l2)).2
        have d2 := (one_dist o2 (by rw [ll]; exact l2)).1
        have tr := dist_tri (a := leaveM y (add a p (-1)) k.2) (b := leaveM y (add (add a p (-1)) p' (-1)) k.2) (c := leaveM y (add a p' (-1)) k.2) (by rw [ll, ll, l1, l2]) (by rw [ll, ll, l2, add_len]; exact fa.1.symm)
        omega
end Kb
namespace Kb
open PySem PySem.Spec PyProof.Rows L2
/-! ### places called otherwise -/
structure NamesOk (n : Nat) (ns : List Nat) : Prop where
  len : ns.length = n
  nd : ns.Nodup
  lt : ∀ p ∈ ns, p < n
abbrev nmOf (ns : List Nat) (k : Nat) : Nat := ns.getD k 0
theorem nm_mem {n : Nat} {ns : List Nat} (h : NamesOk n ns) {k : Nat} (hk : k < n) : nmOf ns k ∈ ns := by
  have hk' : k < ns.length := by rw [h.len]; exact hk
  unfold nmOf
  rw [getD_some (List.getElem?_eq_getElem hk')]
  exact List.getElem_mem hk'
theorem nm_lt {n : Nat} {ns : List Nat} (h : NamesOk n ns) {k : Nat} (hk : k < n) : nmOf ns k < n := h.lt _ (nm_mem h hk)
theorem nodup_inj : ∀ {l : List Nat} {i j : Nat}, l.Nodup → i < l.length → j < l.length → l.getD i 0 = l.getD j 0 → i = j
  | [], _, _, _, h, _, _ => by simp at h
  | a :: l, 0, 0, _, _, _, _ => rfl
  | a :: l, 0, j + 1, nd, _, hj, e => by
    exfalso
    rw [List.nodup_cons] at nd
    have hj' : j < l.length := by simpa using hj
    have e' : a = l.getD j 0 := e
    rw [getD_some (List.getElem?_eq_getElem hj')] at e'
    exact nd.1 (e' ▸ List.getElem_mem hj')
  | a :: l, i + 1, 0, nd, hi, _, e => by
    exfalso
    rw [List.nodup_cons] at nd
    have hi' : i < l.length := by simpa using hi
    have e' : l.getD i 0 = a := e
    rw [getD_some (List.getElem?_eq_getElem hi')] at e'
    exact nd.1 (e' ▸ List.getElem_mem hi')
  | a :: l, i + 1, j + 1, nd, hi, hj, e => by
    rw [List.nodup_cons] at nd
    have := nodup_inj nd.2 (i := i) (j := j) (by simpa using hi) (by simpa using hj) e
    omega
theorem nm_inj {n : Nat} {ns : List Nat} (h : NamesOk n ns) {i j : Nat} (hi : i < n) (hj : j < n) (e : nmOf ns i = nmOf ns j) : i = j := nodup_inj h.nd (by rw [h.len]; exact hi) (by rw [h.len]; exact hj) e
theorem nm_sur {n : Nat} {ns : List Nat} (h : NamesOk n ns) {q : Nat} (hq : q < n) : ∃ k, k < n ∧ nmOf ns k = q := by
  by_cases m : q ∈ ns
  · obtain ⟨k, hk, e⟩ := List.mem_iff_getElem.1 m
    refine ⟨k, by rw [← h.len]; exact hk, ?_⟩
    unfold nmOf
    rw [getD_some (List.getElem?_eq_getElem hk)]
    exact e
  · have := below_len (n := n) (ps := q :: ns) (List.nodup_cons.2 ⟨m, h.nd⟩) fun p hp => (List.mem_cons.1 hp).elim (fun e => e ▸ hq) (h.lt p)
    rw [List.length_cons, h.len] at this
    omega
def CalledBy {α : Type} (ns : List Nat) (d : α) (l t : List α) : Prop := t.length = l.length ∧ ∀ k, k < l.length → t.getD (nmOf ns k) d = l.getD k d
theorem called_unique {α : Type} {ns : List Nat} {d : α} {l t u : List α} (h : NamesOk l.length ns) (ht : CalledBy ns d l t) (hu : CalledBy ns d l u) : t = u := by
  refine List.ext_getElem (by rw [ht.1, hu.1]) fun q h1 h2 => ?_
  obtain ⟨k, hk, e⟩ := nm_sur h (q := q) (by rw [← ht.1]; exact h1)
  have a := ht.2 k hk
  have b := hu.2 k hk
  rw [e] at a b
  rw [getD_some (List.getElem?_eq_getElem h1)] at a
  rw [getD_some (List.getElem?_eq_getElem h2)] at b
  rw [a, b]
theorem called_add {ns : List Nat} {s t : List Int} {p : Nat} {k : Int} (h : NamesOk s.length ns) (ht : CalledBy ns 0 s t) (hp : p < s.length) : CalledBy ns 0 (add s p k) (add t (nmOf ns p) k) := by
  have hq : nmOf ns p < t.length := by rw [ht.1]; exact nm_lt h hp
  refine ⟨by rw [add_len, add_len, ht.1], fun j hj => ?_⟩
  rw [add_len] at hj
  rw [getD_add hq, getD_add hp, ht.2 j hj, ht.2 p hp]
  by_cases e : p = j
  · rw [if_pos e, if_pos (by rw [e])]
  · rw [if_neg e, if_neg fun z => e (nm_inj h hp hj z)]
theorem find_map_cong {f g : Nat → Bool} {m : Nat → Nat} : ∀ ws : List Nat, (∀ p ∈ ws, g (m p) = f p) → (ws.map m).find? g = (ws.find? f).map m
  | [], _ => rfl
  | p :: ws, h => by
    rw [List.map_cons, List.find?_cons, List.find?_cons, h p List.mem_cons_self]
    cases f p with
    | true => rfl
    | false => exact find_map_cong ws fun q hq => h q (List.mem_cons_of_mem _ hq)
def mapA (ns : List Nat) (a : Ask) : Ask := (a.1.map (nmOf ns), a.2.map (nmOf ns))
def mapRow (ns : List Nat) : Row → Row
  | none => none
  | some (p, o) => some (nmOf ns p, o.map (nmOf ns))
theorem room_called {ns : List Nat} {y z : List Rm} {s t : List Int} (hl : s.length = y.length) (hy : CalledBy ns none y z) (hs : CalledBy ns 0 s t) {p : Nat} (hp : p < y.length) : roomB z t (nmOf ns p) = roomB y s p := by
  unfold roomB
  rw [hy.2 p hp, hs.2 p (by rw [hl]; exact hp)]
theorem serve_called {ns : List Nat} {y z : List Rm} {s t : List Int} {a : Ask} (h : NamesOk y.length ns) (hl : s.length = y.length) (ha : AskOk y.length a) (hy : CalledBy ns none y z) (hs : CalledBy ns 0 s t) :
    (serveM z t (mapA ns a)).1 = mapRow ns (serveM y s a).1 ∧ CalledBy ns 0 (serveM y s a).2 (serveM z t (mapA ns a)).2 := by
  have hn : NamesOk s.length ns := by rw [hl]; exact h
  have e1 : firstT t (a.1.map (nmOf ns)) = (firstT s a.1).map (nmOf ns) := find_map_cong _ fun p hp => by
    have := hs.2 p (by rw [hl]; exact ha.1.2 p hp)
    rw [this]
  unfold serveM mapA
  simp only [e1]
  cases e : firstT s a.1 with
  | none => exact ⟨rfl, hs⟩
  | some p =>
    have hp : p < s.length := by rw [hl]; exact ha.1.2 p (firstT_some e).1
    have h2 := called_add (k := -1) hn hs hp
    have l2 : (add s p (-1)).length = y.length := by rw [add_len]; exact hl
    have e2 : firstR z (add t (nmOf ns p) (-1)) (a.2.map (nmOf ns)) = (firstR y (add s p (-1)) a.2).map (nmOf ns) := find_map_cong _ fun q hq => room_called l2 hy h2 (ha.2.2 q hq)
    simp only [Option.map_some, e2]
    cases e3 : firstR y (add s p (-1)) a.2 with
    | none => exact ⟨rfl, h2⟩
    | some o =>
      refine ⟨rfl, ?_⟩
      have ho : o < (add s p (-1)).length := by rw [l2]; exact ha.2.2 o (List.mem_of_find?_eq_some e3)
      exact called_add (k := 1) (by rw [l2]; exact h) h2 ho
theorem go_called {ns : List Nat} {y z : List Rm} (h : NamesOk y.length ns) (hy : CalledBy ns none y z) : ∀ {d : List Ask} {s t : List Int}, s.length = y.length → (∀ a ∈ d, AskOk y.length a) → CalledBy ns 0 s t →
    (goM z t (d.map (mapA ns))).1 = (goM y s d).1.map (mapRow ns) ∧ CalledBy ns 0 (goM y s d).2 (goM z t (d.map (mapA ns))).2
  | [], s, t, _, _, hs => ⟨rfl, hs⟩
  | a :: d, s, t, hl, hd, hs => by
    obtain ⟨r, q⟩ := serve_called h hl (hd a List.mem_cons_self) hy hs
    obtain ⟨r2, q2⟩ := go_called h hy (d := d) (by rw [serveM_len]; exact hl) (fun x hx => hd x (List.mem_cons_of_mem _ hx)) q
    refine ⟨?_, q2⟩
    show (serveM z t (mapA ns a)).1 :: (goM z (serveM z t (mapA ns a)).2 (d.map (mapA ns))).1 = _
    rw [r, r2]
    rfl
theorem ask_called {n : Nat} {ns : List Nat} (h : NamesOk n ns) {a : Ask} (ha : AskOk n a) : AskOk n (mapA ns a) := by
  have key : ∀ ps, PlacesOk n ps → PlacesOk n (ps.map (nmOf ns)) := fun ps hp => by
    refine ⟨?_, fun q hq => ?_⟩
    · have nd := hp.1
      have lt := hp.2
      clear hp
      induction ps with
      | nil => exact List.nodup_nil
      | cons p ps ih =>
        rw [List.nodup_cons] at nd
        rw [List.map_cons, List.nodup_cons]
        refine ⟨fun m => ?_, ih nd.2 fun q hq => lt q (List.mem_cons_of_mem _ hq)⟩
        obtain ⟨q, hq, e⟩ := List.mem_map.1 m
        have := nm_inj h (lt q (List.mem_cons_of_mem _ hq)) (lt p List.mem_cons_self) e
        exact nd.1 (this ▸ hq)
    · obtain ⟨p, hp', rfl⟩ := List.mem_map.1 hq
      exact nm_lt h (hp.2 p hp')
  exact ⟨key _ ha.1, key _ ha.2⟩
theorem yard_called {ns : List Nat} {y z : List Rm} (h : NamesOk y.length ns) (hy : CalledBy ns none y z) (ok : YardOk y) : YardOk z := by
  refine ⟨by rw [hy.1]; exact ok.1, by rw [hy.1]; exact ok.2.1, fun r hr i e => ?_⟩
  obtain ⟨q, hq, rfl⟩ := List.mem_iff_getElem.1 hr
  obtain ⟨k, hk, e2⟩ := nm_sur h (q := q) (by rw [← hy.1]; exact hq)
  have a := hy.2 k hk
  rw [e2, getD_some (List.getElem?_eq_getElem hq), e, getD_some (List.getElem?_eq_getElem hk)] at a
  exact ok.2.2 _ (List.getElem_mem hk) i a.symm
theorem fine_called {ns : List Nat} {y z : List Rm} {s t : List Int} (h : NamesOk y.length ns) (hy : CalledBy ns none y z) (hs : CalledBy ns 0 s t) (f : Fine y s) : Fine z t := by
  refine ⟨by rw [hs.1, hy.1]; exact f.1, fun q hq => ?_⟩
  obtain ⟨k, hk, e⟩ := nm_sur h (q := q) (by rw [← hy.1]; exact hq)
  have a := hy.2 k hk
  have b := hs.2 k (by rw [f.1]; exact hk)
  rw [e] at a b
  rw [a, b]
  exact f.2 k hk
/-! ### two neighbours exchanged -/
theorem swap_perm : ∀ (ws : List Nat) (i : Nat) (p q : Nat), ws[i]? = some p → ws[i + 1]? = some q → (ws.take i ++ [q, p] ++ ws.drop (i + 2)).Perm ws
  | [], i, p, q, h, _ => by simp at h
  | [_], 0, p, q, _, g => by simp at g
  | a :: b :: ws, 0, p, q, h, g => by
    simp at h g
    subst h; subst g
    exact List.Perm.swap _ _ _
  | a :: ws, i + 1, p, q, h, g => by
    have ih := swap_perm ws i p q (by simpa using h) (by simpa using g)
    exact ih.cons a
theorem first_some_perm {a : List Int} {ws vs : List Nat} (h : ws.Perm vs) : (firstT a ws).isSome = (firstT a vs).isSome := by
  unfold firstT
  rw [Bool.eq_iff_iff, List.find?_isSome, List.find?_isSome]
  exact ⟨fun ⟨x, hx, p⟩ => ⟨x, h.mem_iff.1 hx, p⟩, fun ⟨x, hx, p⟩ => ⟨x, h.mem_iff.2 hx, p⟩⟩
end Kb
namespace Kb
open PySem PySem.Spec PyProof.Rows L2
theorem called_map {α β : Type} {ns : List Nat} {d : α} {d' : β} (f : α → β) {l t : List α} (h : NamesOk l.length ns) (c : CalledBy ns d l t) : CalledBy ns d' (l.map f) (t.map f) := by
  refine ⟨by rw [List.length_map, List.length_map, c.1], fun k hk => ?_⟩
  rw [List.length_map] at hk
  have hq : nmOf ns k < t.length := by rw [c.1]; exact nm_lt h hk
  have e := c.2 k hk
  rw [getD_some (List.getElem?_eq_getElem hq), getD_some (List.getElem?_eq_getElem hk)] at e
  rw [List.getD_eq_getElem?_getD, List.getD_eq_getElem?_getD, List.getElem?_map, List.getElem?_map, List.getElem?_eq_getElem hq, List.getElem?_eq_getElem hk, e]
theorem called_there {α : Type} {ns : List Nat} (d : α) {l : List α} (h : NamesOk l.length ns) : ∃ t, CalledBy ns d l t := by
  have key : ∀ i, i ≤ l.length → ∃ t : List α, t.length = l.length ∧ ∀ k, k < i → t.getD (nmOf ns k) d = l.getD k d := by
    intro i
    induction i with
    | zero => exact fun _ => ⟨l, rfl, fun k hk => absurd hk (by omega)⟩
    | succ i ih =>
      intro hi
      obtain ⟨t, h1, h2⟩ := ih (by omega)
      have hq : nmOf ns i < t.length := by rw [h1]; exact nm_lt h (by omega)
      refine ⟨t.set (nmOf ns i) (l.getD i d), by rw [List.length_set, h1], fun k hk => ?_⟩
      rw [List.getD_eq_getElem?_getD]
      by_cases e : k = i
      · subst e
        rw [List.getElem?_set_self hq]; rfl
      · have ne : nmOf ns i ≠ nmOf ns k := fun z => e (nm_inj h (by omega) (by omega) z).symm
        rw [List.getElem?_set_ne ne, ← List.getD_eq_getElem?_getD]
        exact h2 k (by omega)
  obtain ⟨t, h1, h2⟩ := key l.length (Nat.le_refl _)
  exact ⟨t, h1, h2⟩
/-- what the law's own calling makes is what is meant -/
theorem called_enc {α : Type} {ns : List Nat} {d : α} (f : α → PyData) {l : List α} (h : NamesOk l.length ns) {ts : List PyData} (c : CalledBy ns .none (l.map f) ts) : ∃ t, CalledBy ns d l t ∧ ts = t.map f := by
  obtain ⟨t, ht⟩ := called_there d h
  exact ⟨t, ht, called_unique (by rw [List.length_map]; exact h) c (called_map f h ht)⟩
mutual
theorem eqv_self : ∀ d : PyData, d.canLay0 = true → PyData.eqv d d = true
  | .none, _ => rfl
  | .bool b, _ => by simp [PyData.eqv]
  | .int i, _ => by simp [PyData.eqv]
  | .str s, _ => by simp [PyData.eqv]
  | .list xs, h => by
    have h' : PyData.canLayAll0 xs = true := by simpa [PyData.canLay0] using h
    have := eqvAll_self xs h'
    simpa [PyData.eqv] using this
  | .tuple xs, h => by
    have h' : PyData.canLayAll0 xs = true := by simpa [PyData.canLay0] using h
    have := eqvAll_self xs h'
    simpa [PyData.eqv] using this
  | .dict _, h => by simp [PyData.canLay0] at h
theorem eqvAll_self : ∀ ds : List PyData, PyData.canLayAll0 ds = true → PyData.eqvAll ds ds = true
  | [], _ => rfl
  | d :: ds, h => by
    have h' : d.canLay0 = true ∧ PyData.canLayAll0 ds = true := by simpa [PyData.canLayAll0] using h
    have a := eqv_self d h'.1
    have b := eqvAll_self ds h'.2
    simp [PyData.eqvAll, a, b]
end
end Kb
namespace Kb
open PySem PySem.Spec PyProof.Rows L2
def nmD (ns : List Nat) : PyData → PyData
  | .int i => encN (nmOf ns i.toNat)
  | _ => .none
theorem names_eq (ns ps : List Nat) : (ps.map encN).map (nmD ns) = (ps.map (nmOf ns)).map encN := by
  rw [List.map_map, List.map_map]
  rfl
theorem atI_names {n : Nat} {ns : List Nat} (hn : NamesOk n ns) {p : Nat} (hp : p < n) : atI (ns.map encN) (p : Int) = some (.int ((nmOf ns p : Nat) : Int)) := by
  refine Kb.atI_nat ?_
  have : p < ns.length := by rw [hn.len]; exact hp
  unfold nmOf
  rw [List.getElem?_map, List.getElem?_eq_getElem this, getD_some (List.getElem?_eq_getElem this)]
  rfl
def RowLt (n : Nat) : Row → Prop
  | none => True
  | some (p, o) => p < n ∧ ∀ q, o = some q → q < n
theorem go_rows {y : List Rm} : ∀ {d : List Ask} {s : List Int}, Fine y s → (∀ a ∈ d, AskOk y.length a) → ∀ r ∈ (goM y s d).1, RowLt y.length r
  | [], _, _, _, r, hr => by cases hr
  | a :: d, s, f, h, r, hr => by
    rcases List.mem_cons.1 hr with rfl | hr
    · rcases serve_cases f (h a List.mem_cons_self) with e | ⟨p, hp, e⟩ | ⟨p, o, hp, ho, e⟩
      · rw [e]; trivial
      · rw [e]; exact ⟨hp, fun q hq => by cases hq⟩
      · rw [e]; exact ⟨hp, fun q hq => by cases hq; exact ho⟩
    · exact go_rows (d := d) (fine_serve f (h a List.mem_cons_self)) (fun x hx => h x (List.mem_cons_of_mem _ hx)) r hr
/-! ### a day with one ask otherwise -/
def farAt (y : List Rm) (s : List Int) (d e : List Ask) (i : Nat) : Int := distL (goM y s (d.take i)).2 (goM y s (e.take i)).2
theorem take_set {d : List Ask} {m i : Nat} {k : Ask} (h : i ≤ m) : (d.set m k).take i = d.take i := by
  rw [List.take_set, List.set_eq_of_length_le (by rw [List.length_take]; omega)]
theorem go_succ {y : List Rm} {s : List Int} {d : List Ask} {i : Nat} {a : Ask} (h : d[i]? = some a) : (goM y s (d.take (i + 1))).2 = (serveM y (goM y s (d.take i)).2 a).2 := by
  have hi : i < d.length := (List.getElem?_eq_some_iff.1 h).1
  have e : d.take (i + 1) = d.take i ++ [a] := by
    rw [List.take_succ, h]; rfl
  rw [e, go_app]
  rfl
theorem far_step {y : List Rm} {s t : List Int} {a : Ask} (fs : Fine y s) (ft : Fine y t) (ha : AskOk y.length a) : distL (serveM y s a).2 (serveM y t a).2 ≤ distL s t := dist_go (d := [a]) (fun k hk => by rw [List.mem_singleton] at hk; rw [hk]; exact ha) fs ft
theorem set_day {n : Nat} {d : List Ask} {m : Nat} {k : Ask} (h : DayOk n d) (hk : AskOk n k) : DayOk n (d.set m k) := ⟨by rw [List.length_set]; exact h.1, fun a ha => by
  rcases List.mem_or_eq_of_mem_set ha with z | z
  · exact h.2 a z
  · rw [z]; exact hk⟩
theorem far_all {y : List Rm} {s : List Int} {d : List Ask} {m : Nat} {k : Ask} (f : Fine y s) (hd : DayOk y.length d) (hm : m < d.length) (hk : AskOk y.length k) (hl : k.2 = (d.getD m ([], [])).2) (hp : k.1.Perm (d.getD m ([], [])).1) :
    (∀ i, i ≤ m → farAt y s d (d.set m k) i = 0) ∧ (∀ i, i ≤ d.length → farAt y s d (d.set m k) i ≤ 2) ∧ ∀ i, m + 1 < i → i ≤ d.length → farAt y s d (d.set m k) i ≤ farAt y s d (d.set m k) (i - 1) := by
  have he := set_day (m := m) hd hk
  have em : d[m]? = some (d.getD m ([], [])) := by rw [List.getElem?_eq_getElem hm, getD_some (List.getElem?_eq_getElem hm)]
  have em' : (d.set m k)[m]? = some k := List.getElem?_set_self hm
  have h0 : ∀ i, i ≤ m → farAt y s d (d.set m k) i = 0 := fun i hi => by
    unfold farAt
    rw [take_set hi, dist_self]
  have h3 : ∀ i, m + 1 < i → i ≤ d.length → farAt y s d (d.set m k) i ≤ farAt y s d (d.set m k) (i - 1) := fun i h1 h2 => by
    obtain ⟨j, rfl⟩ : ∃ j, i = j + 1 := ⟨i - 1, by omega⟩
    have hj : j < d.length := by omega
    have e1 : d[j]? = some d[j] := List.getElem?_eq_getElem hj
    have e2 : (d.set m k)[j]? = some d[j] := by rw [List.getElem?_set_ne (by omega)]; exact e1
    unfold farAt
    rw [go_succ e1, go_succ e2, Nat.add_sub_cancel]
    exact far_step (fine_go f (day_take hd j).2) (fine_go f (day_take he j).2) (hd.2 _ (List.getElem_mem hj))
  have h1 : farAt y s d (d.set m k) (m + 1) ≤ 2 := by
    unfold farAt
    rw [go_succ em, go_succ em', take_set (Nat.le_refl m)]
    have hda : AskOk y.length (d.getD m ([], [])) := hd.2 _ (List.mem_of_getElem? em)
    exact dist_serve (fine_go f (day_take hd m).2) hda hk hl (first_some_perm hp.symm)
  refine ⟨h0, fun i hi => ?_, h3⟩
  have key : ∀ j, m + 1 + j ≤ d.length → farAt y s d (d.set m k) (m + 1 + j) ≤ 2 := by
    intro j
    induction j with
    | zero => exact fun _ => h1
    | succ j ih =>
      intro h
      have := h3 (m + 1 + (j + 1)) (by omega) h
      have e : m + 1 + (j + 1) - 1 = m + 1 + j := by omega
      rw [e] at this
      have := ih (by omega)
      omega
  by_cases z : i ≤ m
  · rw [h0 i z]; omega
  · have := key (i - (m + 1)) (by omega)
    have e : m + 1 + (i - (m + 1)) = i := by omega
    rw [e] at this
    exact this
def manyW (d : List Ask) : List Nat := (List.range d.length).filter fun i => decide (1 < (d.getD i ([], [])).1.length)
def manyD (d : List Ask) : PyData → Bool
  | .int i => decide (1 < (d.getD i.toNat ([], [])).1.length)
  | _ => false
theorem many_eq (d : List Ask) : ((intsD d.length).filter (manyD d)).map (fun x => x) = (manyW d).map encN := by
  rw [List.map_id']
  unfold intsD manyW
  rw [List.filter_map]
  rfl
theorem atI_day {d : List Ask} {i : Nat} (h : i < d.length) : atI (d.map encA) (i : Int) = some (encA (d.getD i ([], []))) := by
  refine Kb.atI_nat ?_
  rw [List.getElem?_map, List.getElem?_eq_getElem h, getD_some (List.getElem?_eq_getElem h)]
  rfl
end Kb
namespace Kb
open PySem PySem.Spec PyProof.Rows L2
theorem set_cutA : ∀ (d : List Ask) (m : Nat) (k : Ask), m < d.length → (d.map encA).take m ++ [encA k] ++ (d.map encA).drop (m + 1) = (d.set m k).map encA
  | [], m, k, h => by simp at h
  | a :: d, 0, k, _ => rfl
  | a :: d, m + 1, k, h => by
    have ih := set_cutA d m k (by simpa using h)
    show encA a :: ((d.map encA).take m ++ [encA k] ++ (d.map encA).drop (m + 1)) = encA a :: (d.set m k).map encA
    rw [ih]
def farD (a b : List Int) : PyData → PyData
  | .int i => .int (absI (a.getD i.toNat 0 - b.getD i.toNat 0))
  | _ => .none
theorem far_eq (a b : List Int) : (intsD a.length).map (farD a b) = (((List.range a.length).map fun k => absI (a.getD k 0 - b.getD k 0))).map .int := by
  unfold intsD
  rw [List.map_map, List.map_map]
  rfl
end Kb
namespace Kb
open PySem PySem.Spec PyProof.Rows L2
theorem lay_ints : ∀ l : List Int, PyData.canLayAll0 (l.map .int) = true ∧ PyData.depthAll (l.map .int) = 0
  | [] => ⟨rfl, rfl⟩
  | n :: l => by
    obtain ⟨a, b⟩ := lay_ints l
    refine ⟨?_, ?_⟩
    · rw [List.map_cons, PyData.canLayAll0, a]; rfl
    · rw [List.map_cons, PyData.depthAll, b]; rfl
theorem lay_rows : ∀ l : List Row, PyData.canLayAll0 (l.map encRow) = true ∧ PyData.depthAll (l.map encRow) ≤ 1
  | [] => ⟨rfl, Nat.zero_le _⟩
  | r :: l => by
    obtain ⟨a, b⟩ := lay_rows l
    have h : (encRow r).canLay0 = true ∧ (encRow r).depth ≤ 1 := by
      cases r with
      | none => exact ⟨rfl, Nat.zero_le _⟩
      | some q => obtain ⟨p, o⟩ := q; cases o <;> exact ⟨rfl, Nat.le_refl _⟩
    refine ⟨?_, ?_⟩
    · rw [List.map_cons, PyData.canLayAll0, a, h.1]; rfl
    · rw [List.map_cons, PyData.depthAll]; exact Nat.max_le.2 ⟨h.2, b⟩
theorem lay_told (rows : List Row) (l : List Int) : (PyData.tuple [.list (rows.map encRow), .tuple (l.map .int)]).canLay0 = true ∧ Small (.tuple [.list (rows.map encRow), .tuple (l.map .int)]) := by
  obtain ⟨a, b⟩ := lay_ints l
  obtain ⟨c, d⟩ := lay_rows rows
  have e : (PyData.tuple [.list (rows.map encRow), .tuple (l.map .int)]).canLay0 = true := by
    simp only [PyData.canLay0, PyData.canLayAll0, a, c, Bool.and_self]
  refine ⟨e, ?_⟩
  show ((PyData.tuple [.list (rows.map encRow), .tuple (l.map .int)]).canLay0 && decide ((PyData.tuple [.list (rows.map encRow), .tuple (l.map .int)]).depth ≤ 64)) = true
  rw [e, Bool.true_and, decide_eq_true_eq]
  simp only [PyData.depth, PyData.depthAll, b]
  omega
end Kb
namespace Kb
open PySem PySem.Spec PyProof.Rows L2
/-! ### what an ask does, told in full -/
theorem serve_full {y : List Rm} {a : List Int} {k : Ask} (hk : AskOk y.length k) : serveM y a k = (none, a) ∨ ∃ p, p < y.length ∧ 0 < a.getD p 0 ∧ (serveM y a k = (some (p, none), add a p (-1)) ∨ ∃ o, o < y.length ∧ roomB y (add a p (-1)) o = true ∧ serveM y a k = (some (p, some o), add (add a p (-1)) o 1)) := by
  unfold serveM
  split
  · exact .inl rfl
  · rename_i p h
    have hp := firstT_some h
    refine .inr ⟨p, hk.1.2 p hp.1, hp.2, ?_⟩
    split
    · exact .inl rfl
    · rename_i o h2
      exact .inr ⟨o, hk.2.2 o (List.mem_of_find?_eq_some h2), List.find?_some h2, rfl⟩
theorem le_sum : ∀ {a : List Int} {q : Nat}, (∀ p, p < a.length → 0 ≤ a.getD p 0) → q < a.length → a.getD q 0 ≤ a.sum ∧ 0 ≤ a.sum
  | [], q, _, h => by simp at h
  | x :: a, q, h, hq => by
    have h0 : 0 ≤ x := h 0 (by simp)
    have ht : ∀ p, p < a.length → 0 ≤ a.getD p 0 := fun p hp => h (p + 1) (by simpa using hp)
    have hs : 0 ≤ a.sum := by
      cases a with
      | nil => simp
      | cons z b => exact (le_sum (a := z :: b) (q := 0) ht (by simp)).2
    cases q with
    | zero => show x ≤ x + a.sum ∧ 0 ≤ x + a.sum; omega
    | succ q =>
      have := (le_sum (a := a) (q := q) ht (by simpa using hq)).1
      show a.getD q 0 ≤ x + a.sum ∧ 0 ≤ x + a.sum
      omega
theorem fine_le {y : List Rm} {s : List Int} (f : Fine y s) {q : Nat} (hq : q < y.length) : s.getD q 0 ≤ s.sum := (le_sum (fun p hp => (f.2 p (by rw [← f.1]; exact hp)).1) (by rw [f.1]; exact hq)).1
/-! ### rooms that hold all there is -/
def WideY (S : Int) (y z : List Rm) : Prop := z.length = y.length ∧ ∀ p, p < y.length → z.getD p none = y.getD p none ∨ (y.getD p none = none ∧ ∃ r, z.getD p none = some r ∧ S ≤ r)
theorem room_wide {S : Int} {y z : List Rm} {now : List Int} {p : Nat} (h : WideY S y z) (hp : p < y.length) (hs : now.getD p 0 < S) : roomB z now p = roomB y now p := by
  unfold roomB
  rcases h.2 p hp with e | ⟨e, r, e2, hr⟩
  · rw [e]
  · rw [e, e2]
    exact decide_eq_true (by omega)
theorem find_same {f g : Nat → Bool} : ∀ (ws : List Nat), (∀ p ∈ ws, g p = f p) → ws.find? g = ws.find? f
  | [], _ => rfl
  | p :: ws, h => by
    rw [List.find?_cons, List.find?_cons, h p List.mem_cons_self, find_same ws fun q hq => h q (List.mem_cons_of_mem _ hq)]
theorem serve_wide {S : Int} {y z : List Rm} {now : List Int} {a : Ask} (h : WideY S y z) (f : Fine y now) (ha : AskOk y.length a) (hs : now.sum ≤ S) : serveM z now a = serveM y now a := by
  unfold serveM
  cases e : firstT now a.1 with
  | none => rfl
  | some p =>
    have hp := firstT_some e
    have hpy := ha.1.2 p hp.1
    have hpa : p < now.length := by rw [f.1]; exact hpy
    have f1 := fine_take f hpy hp.2
    have s1 := sum_add (k := -1) hpa
    have e2 : firstR z (add now p (-1)) a.2 = firstR y (add now p (-1)) a.2 := by
      unfold firstR
      exact find_same _ fun q hq => room_wide h (ha.2.2 q hq) (by have := fine_le f1 (ha.2.2 q hq); omega)
    simp only [e2]
theorem sum_serve {y : List Rm} {now : List Int} {a : Ask} (f : Fine y now) (ha : AskOk y.length a) : (serveM y now a).2.sum ≤ now.sum := by
  rcases serve_cases f ha with e | ⟨p, hp, e⟩ | ⟨p, o, hp, ho, e⟩
  · rw [e]; exact Int.le_refl _
  · rw [e]
    have hpa : p < now.length := by rw [f.1]; exact hp
    show (add now p (-1)).sum ≤ _
    rw [sum_add hpa]; omega
  · rw [e]
    have hpa : p < now.length := by rw [f.1]; exact hp
    show (add (add now p (-1)) o 1).sum ≤ _
    rw [sum_add (by rw [add_len, f.1]; exact ho), sum_add hpa]; omega
theorem go_wide {S : Int} {y z : List Rm} (h : WideY S y z) : ∀ {d : List Ask} {now : List Int}, Fine y now → (∀ a ∈ d, AskOk y.length a) → now.sum ≤ S → goM z now d = goM y now d
  | [], _, _, _, _ => rfl
  | a :: d, now, f, hd, hs => by
    have ha := hd a List.mem_cons_self
    have e := serve_wide h f ha hs
    have ih := go_wide h (d := d) (fine_serve f ha) (fun b hb => hd b (List.mem_cons_of_mem _ hb)) (by have := sum_serve f ha; omega)
    show ((serveM z now a).1 :: (goM z (serveM z now a).2 d).1, (goM z (serveM z now a).2 d).2) = _
    rw [e, ih]
    rfl
theorem fine_wide {S : Int} {y z : List Rm} {now : List Int} (h : WideY S y z) (f : Fine y now) (hs : now.sum ≤ S) : Fine z now := by
  refine ⟨by rw [f.1, h.1], fun p hp => ?_⟩
  rw [h.1] at hp
  obtain ⟨f1, f2⟩ := f.2 p hp
  have le := fine_le f hp
  rcases h.2 p hp with e | ⟨e, r, e2, hr⟩
  · rw [e]; exact ⟨f1, f2⟩
  · rw [e2]; exact ⟨f1, fun i hi => by cases hi; omega⟩
/-! ### leaves behind an endless place -/
theorem find_ahead {f : Nat → Bool} {e : Nat} (h : f e = true) : ∀ (ls r1 r2 : List Nat), (ls ++ e :: r1).find? f = (ls ++ e :: r2).find? f
  | [], r1, r2 => by rw [List.nil_append, List.nil_append, List.find?_cons, List.find?_cons, h]
  | q :: ls, r1, r2 => by
    rw [List.cons_append, List.cons_append, List.find?_cons, List.find?_cons, find_ahead h ls r1 r2]
theorem serve_ahead {y : List Rm} {now : List Int} {w : List Nat} {e : Nat} (h : y.getD e none = none) (ls r1 r2 : List Nat) : serveM y now (w, ls ++ e :: r1) = serveM y now (w, ls ++ e :: r2) := by
  have key : ∀ t, firstR y t (ls ++ e :: r1) = firstR y t (ls ++ e :: r2) := fun t => find_ahead (by unfold roomB; rw [h]) ls r1 r2
  unfold serveM
  simp only [key]
/-! ### an ask without wants; asks without leaves -/
theorem serve_idle (y : List Rm) (now : List Int) (l : List Nat) : serveM y now ([], l) = (none, now) := rfl
theorem go_idle (y : List Rm) (s : List Int) (d : List Ask) (n : Nat) (l : List Nat) (h : n ≤ d.length) : goM y s (d.take n ++ [([], l)] ++ d.drop n) = ((goM y s d).1.take n ++ [none] ++ (goM y s d).1.drop n, (goM y s d).2) := by
  have e := go_app y (d.take n) (d.drop n) s
  rw [List.take_append_drop] at e
  rw [go_app, go_app, e]
  have l1 : (goM y s (d.take n)).1.length = n := by rw [goM_len, List.length_take]; omega
  have t1 : ((goM y s (d.take n)).1 ++ (goM y (goM y s (d.take n)).2 (d.drop n)).1).take n = (goM y s (d.take n)).1 := by rw [List.take_append_of_le_length (by omega), List.take_of_length_le (by omega)]
  have t2 : ((goM y s (d.take n)).1 ++ (goM y (goM y s (d.take n)).2 (d.drop n)).1).drop n = (goM y (goM y s (d.take n)).2 (d.drop n)).1 := by
    rw [List.drop_append_of_le_length (by omega), List.drop_of_length_le (by omega), List.nil_append]
  simp only [t1, t2]
  rfl
def bare (d : List Ask) : List Ask := d.map fun a => (a.1, [])
theorem bare_rows (y : List Rm) : ∀ (d : List Ask) (s : List Int), ∀ r ∈ (goM y s (bare d)).1, r = none ∨ ∃ p, r = some (p, none)
  | [], s, r, h => by cases h
  | a :: d, s, r, h => by
    rcases List.mem_cons.1 h with e | h
    · rw [e]
      unfold serveM
      split
      · exact .inl rfl
      · rename_i p _
        exact .inr ⟨p, rfl⟩
    · exact bare_rows y d _ r h
theorem bare_day {n : Nat} {d : List Ask} (h : DayOk n d) : DayOk n (bare d) := ⟨by unfold bare; rw [List.length_map]; exact h.1, fun a ha => by
  obtain ⟨b, hb, rfl⟩ := List.mem_map.1 ha
  exact ⟨(h.2 b hb).1, List.nodup_nil, fun p hp => by cases hp⟩⟩
/-! ### cuts of both ends -/
theorem cut_both {α : Type} (xs : List α) (m n : Nat) (h : m ≤ n) : cutL xs (some (m : Int)) (some (n : Int)) = (xs.take n).drop m := by
  unfold cutL
  rw [HT.sIx_nat, HT.sIx_nat]
  rw [List.drop_take]
  by_cases h1 : n ≤ xs.length
  · rw [Nat.min_eq_left h1, Nat.min_eq_left (by omega)]
  · by_cases h2 : m ≤ xs.length
    · rw [Nat.min_eq_right (by omega), Nat.min_eq_left h2, List.take_of_length_le (by rw [List.length_drop]; omega), List.take_of_length_le (by rw [List.length_drop]; omega)]
    · rw [Nat.min_eq_right (by omega), Nat.min_eq_right (by omega), List.drop_of_length_le (Nat.le_refl _), List.drop_of_length_le (by omega)]
      simp
theorem told_eq {rows : List Row} {l : List Int} : (PyData.tuple [.list (rows.map encRow), .tuple (l.map .int)]).eqv (.tuple [.list (rows.map encRow), .tuple (l.map .int)]) = true := eqv_self _ (lay_told rows l).1
theorem told_small {rows : List Row} {l : List Int} : Small (.tuple [.list (rows.map encRow), .tuple (l.map .int)]) := (lay_told rows l).2
end Kb
namespace Kb
open PySem PySem.Spec PyProof.Rows L2
/-- a statement in the midst, the rest told by what holds behind it -/
theorem seq_k {A B : WS} {D : EndW} {env : Ev} (I : Ev → Prop) (h : ∀ X : Ev → Prop, (∀ e, I e → X e) → A { D with nx := X } env) (h2 : ∀ e, I e → B D e) : sSeq A B D env := h (B D) h2
theorem nice_told {rows : List Row} {l : List Int} : Small (.tuple [.list (rows.map encRow), .tuple (l.map .int)]) := told_small
end Kb
namespace Kb
open PySem PySem.Spec PyProof.Rows L2
/-- what a loop goes through is made first -/
theorem sFor_i {I : WI} {g : WG} {S : WS} {D : EndW} {env : Ev} (E : Ev) (ds : List PyData) (h : ∀ Q : List PyData → Ev → Prop, Q ds E → I env Q) (h2 : forGo g S D ds E) : sFor I g S D env := h _ h2
end Kb
namespace Kb
open PySem PySem.Spec PyProof.Rows L2
theorem cut3 {α : Type} (d : List α) (m n : Nat) (h : m ≤ n) : d.take m ++ ((d.take n).drop m ++ d.drop n) = d := by
  have e1 : (d.take n).take m = d.take m := by rw [List.take_take, Nat.min_eq_left h]
  rw [← e1, ← List.append_assoc, List.take_append_drop, List.take_append_drop]
def bareD : PyData → PyData
  | .tuple [w, _] => .tuple [w, .tuple []]
  | _ => .none
theorem bare_eq (d : List Ask) : (d.map encA).map bareD = (bare d).map encA := by
  unfold bare
  rw [List.map_map, List.map_map]
  rfl
def leftD : PyData → Bool
  | .tuple [_, o] => !isN (.data o)
  | _ => false
theorem left_none {rows : List Row} (h : ∀ r ∈ rows, r = none ∨ ∃ p, r = some (p, none)) : ((rows.map encRow).filter leftD).map (fun d => d) = [] := by
  rw [List.map_id', List.filter_eq_nil_iff]
  intro x hx
  obtain ⟨r, hr, rfl⟩ := List.mem_map.1 hx
  rcases h r hr with rfl | ⟨p, rfl⟩
  · exact Bool.false_ne_true
  · exact Bool.false_ne_true
theorem ix_eqv (l : List Nat) : PyData.eqv (.list (l.map encN)) (.list (l.map encN)) = true := by
  refine eqv_self _ ?_
  have e : (l.map encN) = (l.map Int.ofNat).map .int := ints_of_ix l
  have := (lay_ints (l.map Int.ofNat)).1
  rw [← e] at this
  simpa [PyData.canLay0] using this
theorem ix_small (l : List Nat) : Small (.list (l.map encN)) := by
  have e : (l.map encN) = (l.map Int.ofNat).map .int := ints_of_ix l
  obtain ⟨l1, l2⟩ := lay_ints (l.map Int.ofNat)
  rw [e]
  have l3 : (PyData.list ((l.map Int.ofNat).map .int)).canLay0 = true := by simpa [PyData.canLay0] using l1
  show ((PyData.list ((l.map Int.ofNat).map .int)).canLay0 && decide ((PyData.list ((l.map Int.ofNat).map .int)).depth ≤ 64)) = true
  rw [l3, Bool.true_and, decide_eq_true_eq]
  simp only [PyData.depth, l2]
  omega
theorem wide_self (S : Int) (y : List Rm) : WideY S y y := ⟨rfl, fun _ _ => .inl rfl⟩
end Kb
namespace Kb
open PySem PySem.Spec PyProof.Rows L2
/-! ### the walk of one thing more -/
def plusO (a : List Int) : Option Nat → List Int
  | none => a
  | some q => add a q 1
def OkO (n : Nat) (o : Option Nat) : Prop := ∀ q, o = some q → q < n
structure Link where
  ask : Nat
  word : String
  one : Option Nat
  two : Option Nat
def encL (l : Link) : PyData := .tuple [encN l.ask, .str (Str.ofString l.word), encO l.one, encO l.two]
/-- the lesser world leaves a thing; the greater one has one more at spot -/
def walkLeave (y : List Rm) (now : List Int) (i : Nat) (ls : List Nat) (spot : Option Nat) : List Link × Option Nat :=
  if firstR y (plusO now spot) ls = firstR y now ls then ([], spot) else ([⟨i, "beside", firstR y now ls, firstR y (plusO now spot) ls⟩], firstR y (plusO now spot) ls)
def walkAsk (y : List Rm) (now : List Int) (i : Nat) (a : Ask) (spot : Option Nat) : List Link × Option Nat :=
  match firstT (plusO now spot) a.1, firstT now a.1 with
  | none, _ => ([], spot)
  | some p, none => ([⟨i, "anew", some p, firstR y now a.2⟩], firstR y now a.2)
  | some p, some o => if p = o then walkLeave y (add now o (-1)) i a.2 spot else (⟨i, "instead", some p, some o⟩ :: (walkLeave y (add now o (-1)) i a.2 (some o)).1, (walkLeave y (add now o (-1)) i a.2 (some o)).2)
/-- the links that two rows tell -/
def linksOf (i : Nat) : Row → Row → List Link
  | none, some (p, o) => [⟨i, "anew", some p, o⟩]
  | some (p, o), some (p', o') => (if p' = p then [] else [⟨i, "instead", some p', some p⟩]) ++ (if o' = o then [] else [⟨i, "beside", o, o'⟩])
  | _, none => []
theorem leaveM_plus (y : List Rm) (a : List Int) (ls : List Nat) : leaveM y a ls = plusO a (firstR y a ls) := by
  unfold leaveM plusO
  cases firstR y a ls <;> rfl
theorem firstR_lt {y : List Rm} {a : List Int} {ls : List Nat} (h : ∀ p ∈ ls, p < y.length) : OkO y.length (firstR y a ls) := fun q hq => h q (List.mem_of_find?_eq_some hq)
theorem plus_len (a : List Int) (o : Option Nat) : (plusO a o).length = a.length := by
  cases o
  · rfl
  · exact add_len _ _ _
theorem plus_comm {a : List Int} {o u : Option Nat} (ho : OkO a.length o) (hu : OkO a.length u) : plusO (plusO a o) u = plusO (plusO a u) o := by
  cases o with
  | none => rfl
  | some p =>
    cases u with
    | none => rfl
    | some q => exact add_comm (ho p rfl) (hu q rfl)
theorem leave_or {y : List Rm} {a : List Int} {q : Nat} {ls : List Nat} (hl : a.length = y.length) (hq : q < y.length) : firstR y a ls = firstR y (add a q 1) ls ∨ firstR y a ls = some q := by
  have hqa : q < a.length := by omega
  exact find_more (f := roomB y (add a q 1)) (g := roomB y a) (q := q) ls (fun p hp h => by
    unfold roomB at h ⊢
    have e := getD_add (now := a) (p := q) (q := p) (k := 1) hqa
    rw [e] at h
    split
    · rfl
    · rename_i i ei
      rw [ei] at h
      simp only at h
      have h' := of_decide_eq_true h
      apply decide_eq_true
      split at h'
      · rename_i z; subst z; omega
      · exact h') (fun p hp h => by
    by_cases z : p = q
    · exact .inr z
    · left
      unfold roomB at h ⊢
      have e := getD_add (now := a) (p := q) (q := p) (k := 1) hqa
      rw [if_neg fun x => z x.symm] at e
      rw [e]
      exact h)
theorem take_or {y : List Rm} {a : List Int} {q : Nat} {ws : List Nat} (hl : a.length = y.length) (hq : q < y.length) : firstT (add a q 1) ws = firstT a ws ∨ firstT (add a q 1) ws = some q := by
  have hqa : q < a.length := by omega
  exact find_more (f := fun p => decide (0 < a.getD p 0)) (g := fun p => decide (0 < (add a q 1).getD p 0)) (q := q) ws (fun p hp h => by
    have h' := of_decide_eq_true h
    apply decide_eq_true
    rw [getD_add hqa]
    split
    · rename_i z; subst z; omega
    · exact h') (fun p hp h => by
    by_cases z : p = q
    · exact .inr z
    · left
      have h' := of_decide_eq_true h
      rw [getD_add hqa, if_neg fun x => z x.symm] at h'
      exact decide_eq_true h')
theorem take_none {y : List Rm} {a : List Int} {q : Nat} {ws : List Nat} (hl : a.length = y.length) (hq : q < y.length) (h : firstT (add a q 1) ws = none) : firstT a ws = none := by
  rcases take_or (ws := ws) hl hq with e | e
  · rw [← e]; exact h
  · rw [h] at e; cases e
structure LeaveOk (y : List Rm) (now : List Int) (i : Nat) (ls : List Nat) (spot : Option Nat) (p o : Nat) : Prop where
  ok : OkO y.length (walkLeave y now i ls spot).2
  big : plusO (plusO now spot) (firstR y (plusO now spot) ls) = plusO (leaveM y now ls) (walkLeave y now i ls spot).2
  links : (walkLeave y now i ls spot).1 = if firstR y (plusO now spot) ls = firstR y now ls then [] else [⟨i, "beside", firstR y now ls, firstR y (plusO now spot) ls⟩]
  led : ∀ l ∈ (walkLeave y now i ls spot).1, l.one = spot ∧ l.two = (walkLeave y now i ls spot).2
theorem walk_leave {y : List Rm} {now : List Int} {i : Nat} {ls : List Nat} {spot : Option Nat} {p o : Nat} (hl : now.length = y.length) (hs : OkO y.length spot) (hls : ∀ p ∈ ls, p < y.length) : LeaveOk y now i ls spot p o := by
  have key : firstR y (plusO now spot) ls = firstR y now ls ∨ firstR y now ls = spot := by
    cases spot with
    | none => exact .inl rfl
    | some q => exact (leave_or (ls := ls) hl (hs q rfl)).imp Eq.symm id
  have o1 := firstR_lt (y := y) (a := now) hls
  have o2 := firstR_lt (y := y) (a := plusO now spot) hls
  have o1' : OkO now.length (firstR y now ls) := by rw [hl]; exact o1
  have os' : OkO now.length spot := by rw [hl]; exact hs
  by_cases e : firstR y (plusO now spot) ls = firstR y now ls
  · refine ⟨?_, ?_, ?_, ?_⟩ <;> unfold walkLeave <;> rw [if_pos e]
    · exact hs
    · rw [e, leaveM_plus, plus_comm os' o1']
    · rw [if_pos e]
    · exact fun l hl => (nomatch hl)
  · have e2 : firstR y now ls = spot := key.resolve_left e
    refine ⟨?_, ?_, ?_, ?_⟩ <;> unfold walkLeave <;> rw [if_neg e]
    · exact o2
    · rw [leaveM_plus, e2]
    · rw [if_neg e]
    · intro l hl
      rw [List.mem_singleton] at hl
      rw [hl]
      exact ⟨e2, rfl⟩
/-- the walk over one ask tells both worlds -/
structure AskW (y : List Rm) (now : List Int) (i : Nat) (a : Ask) (spot : Option Nat) : Prop where
  ok : OkO y.length (walkAsk y now i a spot).2
  big : (serveM y (plusO now spot) a).2 = plusO (serveM y now a).2 (walkAsk y now i a spot).2
  links : (walkAsk y now i a spot).1 = linksOf i (serveM y now a).1 (serveM y (plusO now spot) a).1
  rows : (serveM y now a).1.isSome = true → (serveM y (plusO now spot) a).1.isSome = true
  gone : spot = none → (walkAsk y now i a spot).2 = none ∧ (walkAsk y now i a spot).1 = []
theorem serveM_row (y : List Rm) (now : List Int) (a : Ask) : serveM y now a = match firstT now a.1 with
  | none => (none, now)
  | some p => (some (p, firstR y (add now p (-1)) a.2), leaveM y (add now p (-1)) a.2) := by
  unfold serveM leaveM
  cases firstT now a.1 with
  | none => rfl
  | some p => simp only; cases firstR y (add now p (-1)) a.2 <;> rfl
theorem walk_ask {y : List Rm} {now : List Int} {i : Nat} {a : Ask} {spot : Option Nat} (f : Fine y now) (hs : OkO y.length spot) (ha : AskOk y.length a) : AskW y now i a spot := by
  have hl := f.1
  have rowN := serveM_row y now a
  have rowB := serveM_row y (plusO now spot) a
  have hcase : firstT (plusO now spot) a.1 = firstT now a.1 ∨ (∃ q, spot = some q ∧ firstT (plusO now spot) a.1 = some q) := by
    cases spot with
    | none => exact .inl rfl
    | some q => exact (take_or (ws := a.1) hl (hs q rfl)).imp id fun e => ⟨q, rfl, e⟩
  cases eo : firstT now a.1 with
  | none =>
    rw [eo] at rowN hcase
    simp only at rowN
    rcases hcase with e | ⟨q, rfl, e⟩
    · rw [e] at rowB
      simp only at rowB
      have w : walkAsk y now i a spot = ([], spot) := by unfold walkAsk; rw [e]
      refine ⟨by rw [w]; exact hs, by rw [rowB, rowN, w], by rw [rowB, rowN, w]; rfl, (fun h => by rw [rowN] at h; cases h), fun h => by rw [w]; exact ⟨h, rfl⟩⟩
    · rw [e] at rowB
      have hqn : q < now.length := by rw [hl]; exact hs q rfl
      have e1 : add (add now q 1) q (-1) = now := by rw [add_same hqn, show (1 : Int) + -1 = 0 from rfl, add_zero hqn]
      have rowB' : serveM y (plusO now (some q)) a = (some (q, firstR y now a.2), leaveM y now a.2) := by
        rw [rowB]
        show (some (q, firstR y (add (add now q 1) q (-1)) a.2), leaveM y (add (add now q 1) q (-1)) a.2) = _
        rw [e1]
      have w : walkAsk y now i a (some q) = ([⟨i, "anew", some q, firstR y now a.2⟩], firstR y now a.2) := by unfold walkAsk; rw [e, eo]
      refine ⟨by rw [w]; exact firstR_lt ha.2.2, by rw [rowB', rowN, w]; exact leaveM_plus _ _ _, by rw [rowB', rowN, w]; rfl, (fun h => by rw [rowN] at h; cases h), fun h => (nomatch h)⟩
  | some o =>
    rw [eo] at rowN hcase
    simp only at rowN
    have ho := ha.1.2 o (firstT_some eo).1
    have hon : o < now.length := by rw [hl]; exact ho
    have l1 : (add now o (-1)).length = y.length := by rw [add_len]; exact hl
    have hsome : ∃ p, firstT (plusO now spot) a.1 = some p := by
      rcases hcase with e | ⟨q, _, e⟩
      · exact ⟨o, e⟩
      · exact ⟨q, e⟩
    obtain ⟨p, ep⟩ := hsome
    rw [ep] at rowB hcase
    simp only at rowB
    by_cases e : p = o
    · subst e
      have W := walk_leave (y := y) (now := add now p (-1)) (i := i) (ls := a.2) (spot := spot) (p := p) (o := p) l1 hs ha.2.2
      have w : walkAsk y now i a spot = walkLeave y (add now p (-1)) i a.2 spot := by unfold walkAsk; rw [ep, eo]; exact if_pos rfl
      have e1 : add (plusO now spot) p (-1) = plusO (add now p (-1)) spot := by
        cases spot with
        | none => rfl
        | some q => exact add_comm (by rw [hl]; exact hs q rfl) hon
      rw [e1] at rowB
      refine ⟨by rw [w]; exact W.ok, ?_, ?_, fun _ => by rw [rowB]; rfl, fun h => ?_⟩
      · rw [rowB, rowN, w]
        show leaveM y (plusO (add now p (-1)) spot) a.2 = _
        rw [leaveM_plus]
        exact W.big
      · rw [rowB, rowN, w, W.links]
        show _ = (if p = p then [] else _) ++ _
        rw [if_pos rfl, List.nil_append]
      · subst h
        rw [w]
        have : walkLeave y (add now p (-1)) i a.2 none = ([], none) := by unfold walkLeave; exact if_pos rfl
        rw [this]
        exact ⟨rfl, rfl⟩
    · have hq : spot = some p := by
        rcases hcase with z | ⟨q, z, z2⟩
        · exact absurd (Option.some.inj z) e
        · rw [z, Option.some.inj z2]
      subst hq
      have hp := hs p rfl
      have hpn : p < now.length := by rw [hl]; exact hp
      have W := walk_leave (y := y) (now := add now o (-1)) (i := i) (ls := a.2) (spot := some o) (p := p) (o := o) l1 (fun q hq => by cases hq; exact ho) ha.2.2
      have w : walkAsk y now i a (some p) = (⟨i, "instead", some p, some o⟩ :: (walkLeave y (add now o (-1)) i a.2 (some o)).1, (walkLeave y (add now o (-1)) i a.2 (some o)).2) := by unfold walkAsk; rw [ep, eo]; exact if_neg e
      have e1 : add (plusO now (some p)) p (-1) = now := by
        show add (add now p 1) p (-1) = now
        rw [add_same hpn, show (1 : Int) + -1 = 0 from rfl, add_zero hpn]
      have e2 : plusO (add now o (-1)) (some o) = now := by
        show add (add now o (-1)) o 1 = now
        rw [add_same hon, show (-1 : Int) + 1 = 0 from rfl, add_zero hon]
      rw [e1] at rowB
      have Wb := W.big
      have Wl := W.links
      rw [e2] at Wb Wl
      refine ⟨by rw [w]; exact W.ok, ?_, ?_, fun _ => by rw [rowB]; rfl, fun h => (nomatch h)⟩
      · rw [rowB, rowN, w]
        show leaveM y now a.2 = _
        rw [leaveM_plus]
        exact Wb
      · rw [rowB, rowN, w]
        show _ :: (walkLeave y (add now o (-1)) i a.2 (some o)).1 = (if p = o then [] else _) ++ _
        rw [if_neg e, Wl]
        rfl
/-! over a day -/
def walkDay (y : List Rm) : Nat → List Int → List Ask → Option Nat → List Link × List (Option Nat)
  | _, _, [], _ => ([], [])
  | i, now, a :: d, spot => ((walkAsk y now i a spot).1 ++ (walkDay y (i + 1) (serveM y now a).2 d (walkAsk y now i a spot).2).1, (walkAsk y now i a spot).2 :: (walkDay y (i + 1) (serveM y now a).2 d (walkAsk y now i a spot).2).2)
def spotsM (y : List Rm) (s : List Int) (d : List Ask) (q : Option Nat) : List (Option Nat) := q :: (walkDay y 0 s d q).2
def linksM (y : List Rm) (s : List Int) (d : List Ask) (q : Option Nat) : List Link := (walkDay y 0 s d q).1
theorem walkDay_app (y : List Rm) : ∀ (d e : List Ask) (i : Nat) (now : List Int) (q : Option Nat), walkDay y i now (d ++ e) q = ((walkDay y i now d q).1 ++ (walkDay y (i + d.length) (goM y now d).2 e ((q :: (walkDay y i now d q).2).getLast?.getD none)).1, (walkDay y i now d q).2 ++ (walkDay y (i + d.length) (goM y now d).2 e ((q :: (walkDay y i now d q).2).getLast?.getD none)).2)
  | [], e, i, now, q => by simp [walkDay, goM]
  | a :: d, e, i, now, q => by
    have ih := walkDay_app y d e (i + 1) (serveM y now a).2 (walkAsk y now i a q).2
    have hlen : i + (a :: d).length = i + 1 + d.length := by rw [List.length_cons]; omega
    have e1 : (q :: (walkDay y i now (a :: d) q).2).getLast?.getD none = ((walkAsk y now i a q).2 :: (walkDay y (i + 1) (serveM y now a).2 d (walkAsk y now i a q).2).2).getLast?.getD none := by
      show (q :: _ :: _).getLast?.getD none = _
      rw [List.getLast?_cons_cons]
    rw [e1, hlen]
    show ((walkAsk y now i a q).1 ++ (walkDay y (i + 1) (serveM y now a).2 (d ++ e) (walkAsk y now i a q).2).1, (walkAsk y now i a q).2 :: (walkDay y (i + 1) (serveM y now a).2 (d ++ e) (walkAsk y now i a q).2).2) = _
    rw [ih]
    show _ = ((walkAsk y now i a q).1 ++ (walkDay y (i + 1) (serveM y now a).2 d (walkAsk y now i a q).2).1 ++ _, _)
    rw [List.append_assoc]
    rfl
theorem walkDay_len (y : List Rm) : ∀ (d : List Ask) (i : Nat) (now : List Int) (q : Option Nat), (walkDay y i now d q).2.length = d.length
  | [], _, _, _ => rfl
  | a :: d, i, now, q => by
    show (walkDay y (i + 1) _ d _).2.length + 1 = d.length + 1
    rw [walkDay_len y d]
/-- the links of the law: row by row -/
def rowsLinks (y : List Rm) : Nat → List Row → List Row → List Link
  | i, r :: rs, u :: us => linksOf i r u ++ rowsLinks y (i + 1) rs us
  | _, _, _ => []
structure DayW (y : List Rm) (now : List Int) (i : Nat) (d : List Ask) (q : Option Nat) : Prop where
  big : (goM y (plusO now q) d).2 = plusO (goM y now d).2 ((q :: (walkDay y i now d q).2).getLast?.getD none)
  links : (walkDay y i now d q).1 = rowsLinks y i (goM y now d).1 (goM y (plusO now q) d).1
  rows : ∀ k, ((goM y now d).1.getD k none).isSome = true → ((goM y (plusO now q) d).1.getD k none).isSome = true
  ok : ∀ o ∈ (q :: (walkDay y i now d q).2), OkO y.length o
  gone : q = none → ∀ o ∈ (walkDay y i now d q).2, o = none
theorem walk_day {y : List Rm} : ∀ {d : List Ask} {now : List Int} {q : Option Nat} (i : Nat), Fine y now → OkO y.length q → (∀ a ∈ d, AskOk y.length a) → DayW y now i d q
  | [], now, q, i, f, hq, _ => ⟨rfl, rfl, fun k h => by simp [goM] at h, fun o ho => by
      have : o = q := by simpa [walkDay] using ho
      rw [this]; exact hq, fun _ o ho => by simp [walkDay] at ho⟩
  | a :: d, now, q, i, f, hq, hd => by
    have ha := hd a List.mem_cons_self
    have W := walk_ask (i := i) f hq ha
    have ih := walk_day (d := d) (now := (serveM y now a).2) (q := (walkAsk y now i a q).2) (i + 1) (fine_serve f ha) W.ok fun b hb => hd b (List.mem_cons_of_mem _ hb)
    have e1 : (q :: (walkDay y i now (a :: d) q).2).getLast?.getD none = ((walkAsk y now i a q).2 :: (walkDay y (i + 1) (serveM y now a).2 d (walkAsk y now i a q).2).2).getLast?.getD none := by
      show (q :: _ :: _).getLast?.getD none = _
      rw [List.getLast?_cons_cons]
    refine ⟨?_, ?_, ?_, ?_, ?_⟩
    · rw [e1]
      show (goM y (serveM y (plusO now q) a).2 d).2 = _
      rw [W.big]
      exact ih.big
    · show (walkAsk y now i a q).1 ++ (walkDay y (i + 1) (serveM y now a).2 d (walkAsk y now i a q).2).1 = linksOf i (serveM y now a).1 (serveM y (plusO now q) a).1 ++ rowsLinks y (i + 1) (goM y (serveM y now a).2 d).1 (goM y (serveM y (plusO now q) a).2 d).1
      rw [W.links, W.big, ih.links]
    · intro k hk
      cases k with
      | zero => exact W.rows hk
      | succ k =>
        show ((goM y (serveM y (plusO now q) a).2 d).1.getD k none).isSome = true
        rw [W.big]
        exact ih.rows k hk
    · intro o ho
      rcases List.mem_cons.1 ho with rfl | ho
      · exact hq
      · exact ih.ok o ho
    · intro h o ho
      obtain ⟨g1, g2⟩ := W.gone h
      rcases List.mem_cons.1 ho with e | ho
      · rw [e]; exact g1
      · exact ih.gone g1 o ho
theorem fine_plus {y : List Rm} {s : List Int} {q : Nat} (f : Fine y s) (hq : q < y.length) (hr : roomB y s q = true) : Fine y (plusO s (some q)) := fine_add f hq hr
/-- the spot at each moment -/
theorem spots_at {y : List Rm} {s : List Int} {d : List Ask} {q : Option Nat} (k : Nat) (h : k ≤ d.length) : (spotsM y s d q).take (k + 1) = spotsM y s (d.take k) q := by
  have e := walkDay_app y (d.take k) (d.drop k) 0 s q
  rw [List.take_append_drop] at e
  unfold spotsM
  rw [List.take_succ_cons, e]
  have l := walkDay_len y (d.take k) 0 s q
  rw [List.length_take] at l
  simp only
  rw [List.take_append_of_le_length (by omega), List.take_of_length_le (by omega)]
end Kb
namespace Kb
open PySem PySem.Spec PyProof.Rows L2
/-! ### moments, spots, links as lists -/
theorem momsD_snoc (y : List Rm) (s : List Int) (d : List Ask) (a : Ask) : momsD y s (d ++ [a]) = momsD y s d ++ [encS (goM y s (d ++ [a])).2] := by
  unfold momsD
  rw [List.length_append, List.length_cons, List.length_nil, List.range_succ, List.map_append]
  congr 1
  · apply List.map_congr_left
    intro n hn
    have := List.mem_range.1 hn
    rw [List.take_append_of_le_length (by omega)]
  · simp only [List.map_cons, List.map_nil]
    rw [List.take_of_length_le (by rw [List.length_append, List.length_cons, List.length_nil]; omega)]
theorem momsD_last (y : List Rm) (s : List Int) (d : List Ask) : atI (momsD y s d) (-1) = some (encS (goM y s d).2) := by
  refine atI_last (n := d.length) (by unfold momsD; rw [List.length_map, List.length_range]) ?_
  unfold momsD
  rw [List.getElem?_map, List.getElem?_range (by omega)]
  show some (encS (goM y s (d.take d.length)).2) = _
  rw [List.take_length]
theorem find_full (now : List Int) (ws : List Nat) : firstT now ws = (fullM now ws).head? := by
  unfold firstT fullM
  rw [List.head?_filter]
theorem find_free (y : List Rm) (now : List Int) (ls : List Nat) : firstR y now ls = (freeM y now ls).head? := by
  unfold firstR freeM
  rw [List.head?_filter]
def lastO (l : List (Option Nat)) : Option Nat := l.getLast?.getD none
theorem spots_len (y : List Rm) (s : List Int) (d : List Ask) (q : Option Nat) : (spotsM y s d q).length = d.length + 1 := by
  unfold spotsM
  rw [List.length_cons, walkDay_len]
theorem spots_range (y : List Rm) (s : List Int) (d : List Ask) (q : Option Nat) : spotsM y s d q = (List.range (d.length + 1)).map fun n => lastO (spotsM y s (d.take n) q) := by
  have hl := spots_len y s d q
  apply List.ext_getElem (by rw [hl, List.length_map, List.length_range])
  intro n h1 h2
  rw [List.getElem_map, List.getElem_range]
  rw [hl] at h1
  have e := spots_at (y := y) (s := s) (d := d) (q := q) n (by omega)
  rw [← e]
  unfold lastO
  rw [List.getLast?_eq_getElem?, List.length_take, hl, Nat.min_eq_left (by omega), Nat.add_sub_cancel, List.getElem?_take_of_lt (by omega), List.getElem?_eq_getElem (by rw [hl]; omega)]
  rfl
theorem big_at {y : List Rm} {s : List Int} {d : List Ask} {q : Option Nat} (f : Fine y s) (hq : OkO y.length q) (hd : DayOk y.length d) (n : Nat) : (goM y (plusO s q) (d.take n)).2 = plusO (goM y s (d.take n)).2 (lastO (spotsM y s (d.take n) q)) := (walk_day 0 f hq (day_take hd n).2).big
theorem spot_ok {y : List Rm} {s : List Int} {d : List Ask} {q : Option Nat} (f : Fine y s) (hq : OkO y.length q) (hd : DayOk y.length d) : OkO y.length (lastO (spotsM y s d q)) := by
  have W := (walk_day (q := q) 0 f hq hd.2).ok
  unfold lastO
  cases h : (spotsM y s d q).getLast? with
  | none => exact fun p hp => (nomatch hp)
  | some o => exact W o (List.mem_of_getLast? h)
theorem zip_maps {α : Type} (f g : α → PyData) : ∀ l : List α, zipD (l.map f) (l.map g) = l.map fun n => .tuple [f n, g n]
  | [] => rfl
  | a :: l => by
    show PyData.tuple [f a, g a] :: zipD (l.map f) (l.map g) = _
    rw [zip_maps f g l]
    rfl
theorem filter_eq (q : Nat) : ∀ n : Nat, (List.range n).filter (fun k => decide (k = q)) = if q < n then [q] else []
  | 0 => rfl
  | n + 1 => by
    rw [List.range_succ, List.filter_append, filter_eq q n]
    by_cases e : n = q
    · subst e
      simp
    · have : [n].filter (fun k => decide (k = q)) = [] := by simp [e]
      rw [this, List.append_nil]
      by_cases h : q < n
      · rw [if_pos h, if_pos (by omega)]
      · rw [if_neg h, if_neg (by omega)]
/-- where two worlds that differ by one thing at one place do so -/
theorem diff_plus (a : List Int) (o : Option Nat) (ho : OkO a.length o) : (List.range a.length).filter (fun k => !decide (a.getD k 0 = (plusO a o).getD k 0)) = o.toList := by
  cases o with
  | none =>
    show (List.range a.length).filter (fun k => !decide (a.getD k 0 = a.getD k 0)) = []
    simp
  | some q =>
    have hq := ho q rfl
    have e : (List.range a.length).filter (fun k => !decide (a.getD k 0 = (plusO a (some q)).getD k 0)) = (List.range a.length).filter (fun k => decide (k = q)) := by
      apply List.filter_congr
      intro k _
      show (!decide (a.getD k 0 = (add a q 1).getD k 0)) = _
      rw [getD_add hq]
      by_cases e : q = k
      · subst e
        rw [if_pos rfl]
        simp only [decide_true, Bool.not_eq_true']
        exact decide_eq_false (by omega)
      · rw [if_neg e]
        have e2 : ¬ k = q := fun z => e z.symm
        simp [e2]
    rw [e, filter_eq, if_pos hq]
    rfl
theorem rows_step (y : List Rm) (i : Nat) (r u : Row) (rs us : List Row) : rowsLinks y i (r :: rs) (u :: us) = linksOf i r u ++ rowsLinks y (i + 1) rs us := rfl
theorem drop_get {α : Type} {l : List α} {n : Nat} (h : n < l.length) (d : α) : l.drop n = l.getD n d :: l.drop (n + 1) := by
  rw [List.drop_eq_getElem_cons h, getD_some (List.getElem?_eq_getElem h)]
/-! a told walk can be looked at -/
theorem depthAll_le {k : Nat} : ∀ {ds : List PyData}, (∀ d ∈ ds, d.depth ≤ k) → PyData.depthAll ds ≤ k
  | [], _ => Nat.zero_le _
  | a :: ds, h => by
    rw [PyData.depthAll]
    exact Nat.max_le.2 ⟨h a List.mem_cons_self, depthAll_le fun d hd => h d (List.mem_cons_of_mem _ hd)⟩
theorem layAll_of : ∀ {ds : List PyData}, (∀ d ∈ ds, d.canLay0 = true) → PyData.canLayAll0 ds = true
  | [], _ => rfl
  | a :: ds, h => by
    rw [PyData.canLayAll0, h a List.mem_cons_self, layAll_of fun d hd => h d (List.mem_cons_of_mem _ hd)]
    rfl
theorem shrtAll_of : ∀ {ds : List PyData}, (∀ d ∈ ds, Shrt d) → ShrtAll ds
  | [], _ => by unfold ShrtAll; trivial
  | a :: ds, h => by
    unfold ShrtAll
    exact ⟨h a List.mem_cons_self, shrtAll_of fun d hd => h d (List.mem_cons_of_mem _ hd)⟩
/-- data that can be laid, is so deep at most, and short throughout -/
structure Tame (k : Nat) (d : PyData) : Prop where
  lay : d.canLay0 = true
  dep : d.depth ≤ k
  sh : Shrt d
theorem Tame.up {k j : Nat} {d : PyData} (h : Tame k d) (l : k ≤ j) : Tame j d := ⟨h.lay, Nat.le_trans h.dep l, h.sh⟩
theorem tame_int (i : Int) : Tame 0 (.int i) := ⟨rfl, Nat.le_refl _, by unfold Shrt; trivial⟩
theorem tame_none : Tame 0 .none := ⟨rfl, Nat.le_refl _, by unfold Shrt; trivial⟩
theorem tame_bool (b : Bool) : Tame 0 (.bool b) := ⟨rfl, Nat.le_refl _, by unfold Shrt; trivial⟩
theorem tame_str (w : String) : Tame 0 (.str (Str.ofString w)) := ⟨okc_strOk (okc_of w), Nat.le_refl _, by unfold Shrt; trivial⟩
theorem tame_O (o : Option Nat) : Tame 0 (encO o) := by
  cases o
  · exact tame_none
  · exact tame_int _
theorem tame_list {k : Nat} {ds : List PyData} (h : ∀ d ∈ ds, Tame k d) (l : ds.length < 4000) : Tame (k + 1) (.list ds) := ⟨by rw [PyData.canLay0]; exact layAll_of fun d hd => (h d hd).lay, by rw [PyData.depth]; have := depthAll_le fun d hd => (h d hd).dep; omega, by unfold Shrt; exact ⟨l, shrtAll_of fun d hd => (h d hd).sh⟩⟩
theorem tame_tuple {k : Nat} {ds : List PyData} (h : ∀ d ∈ ds, Tame k d) (l : ds.length < 4000) : Tame (k + 1) (.tuple ds) := ⟨by rw [PyData.canLay0]; exact layAll_of fun d hd => (h d hd).lay, by rw [PyData.depth]; have := depthAll_le fun d hd => (h d hd).dep; omega, by unfold Shrt; exact ⟨l, shrtAll_of fun d hd => (h d hd).sh⟩⟩
theorem tame_L (l : Link) : Tame 1 (encL l) := tame_tuple (fun d hd => by
  simp only [List.mem_cons, List.not_mem_nil, or_false] at hd
  rcases hd with rfl | rfl | rfl | rfl
  · exact tame_int _
  · exact tame_str _
  · exact tame_O _
  · exact tame_O _) (by show 4 < 4000; omega)
theorem tame_links {ls : List Link} (h : ls.length < 4000) : Tame 2 (.list (ls.map encL)) := tame_list (fun d hd => by
  obtain ⟨l, _, rfl⟩ := List.mem_map.1 hd
  exact tame_L l) (by rw [List.length_map]; exact h)
theorem tame_walk {ls : List Link} {o : Option Nat} (h : ls.length < 4000) : Tame 3 (.tuple [.list (ls.map encL), encO o]) := tame_tuple (fun d hd => by
  simp only [List.mem_cons, List.not_mem_nil, or_false] at hd
  rcases hd with rfl | rfl
  · exact tame_links h
  · exact (tame_O _).up (by omega)) (by show 2 < 4000; omega)
theorem tame_ints {ns : List Int} (h : ns.length < 4000) : Tame 1 (.list (ns.map .int)) := tame_list (fun d hd => by
  obtain ⟨l, _, rfl⟩ := List.mem_map.1 hd
  exact tame_int l) (by rw [List.length_map]; exact h)
theorem tame_ix {ns : List Nat} (h : ns.length < 4000) : Tame 1 (.list (ns.map encN)) := tame_list (fun d hd => by
  obtain ⟨l, _, rfl⟩ := List.mem_map.1 hd
  exact tame_int _) (by rw [List.length_map]; exact h)
theorem Tame.small {k : Nat} {d : PyData} (h : Tame k d) (l : k ≤ 64) : Small d := by
  show (d.canLay0 && decide (d.depth ≤ 64)) = true
  rw [h.lay, Bool.true_and, decide_eq_true_eq]
  exact Nat.le_trans h.dep l
theorem Tame.eqv {k : Nat} {d : PyData} (h : Tame k d) : PyData.eqv d d = true := eqv_self _ h.lay
end Kb
namespace Kb
open PySem PySem.Spec PyProof.Rows L2
/-! ### who is served anew -/
def anewB (l : Link) : Bool := l.word == "anew"
def gainedM (y : List Rm) (s : List Int) (d : List Ask) (q : Option Nat) : List Nat := ((linksM y s d q).filter anewB).map Link.ask
def anewIx (rs us : List Row) : List Nat := (List.range rs.length).filter fun k => !(rs.getD k none).isSome && (us.getD k none).isSome
theorem linksOf_anew (i : Nat) (r u : Row) : ((linksOf i r u).filter anewB).map Link.ask = if !r.isSome && u.isSome then [i] else [] := by
  cases r with
  | none =>
    cases u with
    | none => rfl
    | some q => obtain ⟨p, o⟩ := q; rfl
  | some q =>
    obtain ⟨p, o⟩ := q
    cases u with
    | none => rfl
    | some q' =>
      obtain ⟨p', o'⟩ := q'
      show (((if p' = p then [] else [⟨i, "instead", some p', some p⟩]) ++ (if o' = o then [] else [⟨i, "beside", o, o'⟩]) : List Link).filter anewB).map Link.ask = []
      have h1 : anewB ⟨i, "instead", some p', some p⟩ = false := by show ("instead" == "anew") = false; decide
      have h2 : anewB ⟨i, "beside", o, o'⟩ = false := by show ("beside" == "anew") = false; decide
      by_cases e : p' = p <;> by_cases f : o' = o <;> simp [e, f, h1, h2, List.filter_cons] <;> rfl
theorem rows_anew (y : List Rm) : ∀ (i : Nat) (rs us : List Row), rs.length = us.length → ((rowsLinks y i rs us).filter anewB).map Link.ask = (anewIx rs us).map (· + i)
  | i, [], [], _ => rfl
  | i, [], _ :: _, h => by simp at h
  | i, _ :: _, [], h => by simp at h
  | i, r :: rs, u :: us, h => by
    have ih := rows_anew y (i + 1) rs us (by simpa using h)
    rw [rows_step, List.filter_append, List.map_append, ih, linksOf_anew]
    unfold anewIx
    rw [List.length_cons, List.range_succ_eq_map, List.filter_cons]
    have e : (List.map Nat.succ (List.range rs.length)).filter (fun k => !((r :: rs).getD k none).isSome && ((u :: us).getD k none).isSome) = ((List.range rs.length).filter fun k => !(rs.getD k none).isSome && (us.getD k none).isSome).map Nat.succ := by
      rw [List.filter_map]
      rfl
    rw [e]
    have e2 : ∀ l : List Nat, (l.map Nat.succ).map (· + i) = l.map (· + (i + 1)) := fun l => by
      rw [List.map_map]
      apply List.map_congr_left
      intro k _
      show k + 1 + i = k + (i + 1)
      omega
    show _ = List.map (· + i) (if !r.isSome && u.isSome then 0 :: _ else _)
    by_cases c : (!r.isSome && u.isSome) = true
    · rw [if_pos c, if_pos c, List.map_cons, e2]
      show [i] ++ _ = (0 + i) :: _
      rw [Nat.zero_add]
      rfl
    · rw [if_neg c, if_neg c, e2]
      rfl
theorem gained_eq {y : List Rm} {s : List Int} {d : List Ask} {q : Option Nat} (f : Fine y s) (hq : OkO y.length q) (hd : ∀ a ∈ d, AskOk y.length a) : gainedM y s d q = anewIx (goM y s d).1 (goM y (plusO s q) d).1 := by
  unfold gainedM linksM
  rw [(walk_day 0 f hq hd).links, rows_anew y 0 _ _ (by rw [goM_len, goM_len])]
  show List.map (fun x => x + 0) _ = _
  simp
theorem anew_lt {rs us : List Row} {k : Nat} (h : k ∈ anewIx rs us) : k < rs.length := List.mem_range.1 (List.mem_filter.1 h).1
theorem anew_len (rs us : List Row) : (anewIx rs us).length ≤ rs.length := Nat.le_trans (List.length_filter_le _ _) (by simp)
def anewD (rs us : List Row) : PyData → Bool
  | .int i => !(rs.getD i.toNat none).isSome && (us.getD i.toNat none).isSome
  | _ => false
theorem anewD_eq (rs us : List Row) : ((intsD rs.length).filter (anewD rs us)).map (fun d => d) = (anewIx rs us).map encN := by
  rw [List.map_id']
  unfold intsD anewIx
  rw [List.filter_map]
  rfl
/-! the words of a walk -/
def WordOk (l : Link) : Prop := l.word = "anew" ∨ l.word = "instead" ∨ l.word = "beside"
theorem leave_words {y : List Rm} {now : List Int} {i : Nat} {ls : List Nat} {q : Option Nat} : ∀ l ∈ (walkLeave y now i ls q).1, WordOk l ∧ l.ask = i := by
  intro l hl
  unfold walkLeave at hl
  split at hl
  · cases hl
  · rw [List.mem_singleton] at hl
    rw [hl]
    exact ⟨.inr (.inr rfl), rfl⟩
theorem ask_words {y : List Rm} {now : List Int} {i : Nat} {a : Ask} {q : Option Nat} : ∀ l ∈ (walkAsk y now i a q).1, WordOk l ∧ l.ask = i := by
  intro l hl
  unfold walkAsk at hl
  split at hl
  · cases hl
  · rw [List.mem_singleton] at hl
    rw [hl]
    exact ⟨.inl rfl, rfl⟩
  · split at hl
    · exact leave_words l hl
    · rcases List.mem_cons.1 hl with e | hl
      · rw [e]; exact ⟨.inr (.inl rfl), rfl⟩
      · exact leave_words l hl
theorem day_words {y : List Rm} : ∀ {d : List Ask} {i : Nat} {now : List Int} {q : Option Nat}, ∀ l ∈ (walkDay y i now d q).1, WordOk l ∧ i ≤ l.ask ∧ l.ask < i + d.length
  | [], _, _, _, l, hl => nomatch hl
  | a :: d, i, now, q, l, hl => by
    rcases List.mem_append.1 hl with hl | hl
    · obtain ⟨h1, h2⟩ := ask_words l hl
      exact ⟨h1, by omega, by rw [List.length_cons]; omega⟩
    · obtain ⟨h1, h2, h3⟩ := day_words (d := d) l hl
      exact ⟨h1, by omega, by rw [List.length_cons]; omega⟩
/-! the links lead from spot to spot -/
def led (n : Nat) : Option Nat → List Link → Option (Option Nat)
  | sp, [] => some sp
  | sp, l :: ls => if l.ask = n then (if l.one = sp then led n l.two ls else none) else led n sp ls
theorem led_app (n : Nat) : ∀ (a b : List Link) (sp : Option Nat), led n sp (a ++ b) = (led n sp a).bind fun t => led n t b
  | [], b, sp => rfl
  | l :: a, b, sp => by
    show (if l.ask = n then (if l.one = sp then led n l.two (a ++ b) else none) else led n sp (a ++ b)) = (if l.ask = n then (if l.one = sp then led n l.two a else none) else led n sp a).bind _
    split
    · split
      · exact led_app n a b _
      · rfl
    · exact led_app n a b _
theorem led_other (n : Nat) : ∀ (a : List Link) (sp : Option Nat), (∀ l ∈ a, l.ask ≠ n) → led n sp a = some sp
  | [], sp, _ => rfl
  | l :: a, sp, h => by
    show (if l.ask = n then _ else led n sp a) = some sp
    rw [if_neg (h l List.mem_cons_self)]
    exact led_other n a sp fun x hx => h x (List.mem_cons_of_mem _ hx)
theorem led_leave {y : List Rm} {now : List Int} {n : Nat} {ls : List Nat} {q : Option Nat} (hl : now.length = y.length) (hs : OkO y.length q) (hls : ∀ p ∈ ls, p < y.length) : led n q (walkLeave y now n ls q).1 = some (walkLeave y now n ls q).2 := by
  have W := walk_leave (y := y) (now := now) (i := n) (ls := ls) (spot := q) (p := 0) (o := 0) hl hs hls
  have hled := W.led
  unfold walkLeave at hled ⊢
  by_cases e : firstR y (plusO now q) ls = firstR y now ls
  · rw [if_pos e]; rfl
  · rw [if_neg e] at hled ⊢
    have := (hled _ List.mem_cons_self).1
    show (if n = n then (if firstR y now ls = q then led n _ [] else none) else _) = _
    rw [if_pos rfl, if_pos this]
    rfl
theorem led_ask {y : List Rm} {now : List Int} {n : Nat} {a : Ask} {q : Option Nat} (f : Fine y now) (hs : OkO y.length q) (ha : AskOk y.length a) : led n q (walkAsk y now n a q).1 = some (walkAsk y now n a q).2 := by
  have hl := f.1
  have hcase : firstT (plusO now q) a.1 = firstT now a.1 ∨ (∃ p, q = some p ∧ firstT (plusO now q) a.1 = some p) := by
    cases q with
    | none => exact .inl rfl
    | some p => exact (take_or (ws := a.1) hl (hs p rfl)).imp id fun e => ⟨p, rfl, e⟩
  unfold walkAsk
  cases ep : firstT (plusO now q) a.1 with
  | none => rfl
  | some p =>
    rw [ep] at hcase
    cases eo : firstT now a.1 with
    | none =>
      rw [eo] at hcase
      rcases hcase with z | ⟨p', z, z2⟩
      · cases z
      · cases z2
        show (if n = n then (if some p = q then led n _ [] else none) else _) = _
        rw [if_pos rfl, if_pos z.symm]
        rfl
    | some o =>
      have ho := ha.1.2 o (firstT_some eo).1
      have l1 : (add now o (-1)).length = y.length := by rw [add_len]; exact hl
      dsimp only
      by_cases e : p = o
      · rw [if_pos e]
        exact led_leave l1 hs ha.2.2
      · rw [if_neg e]
        rw [eo] at hcase
        have hq : some p = q := by
          rcases hcase with z | ⟨p', z, z2⟩
          · exact absurd (Option.some.inj z) e
          · rw [z]; exact z2
        show (if n = n then (if some p = q then led n (some o) (walkLeave y (add now o (-1)) n a.2 (some o)).1 else none) else _) = _
        rw [if_pos rfl, if_pos hq]
        exact led_leave l1 (fun p hp => by cases hp; exact ho) ha.2.2
theorem led_day {y : List Rm} {s : List Int} {d : List Ask} {q : Option Nat} (f : Fine y s) (hq : OkO y.length q) (hd : DayOk y.length d) {n : Nat} (hn : n < d.length) : led n (lastO (spotsM y s (d.take n) q)) (linksM y s d q) = some (lastO (spotsM y s (d.take (n + 1)) q)) := by
  have etake : d.take (n + 1) = d.take n ++ [d.getD n ([], [])] := by
    rw [List.take_succ, List.getElem?_eq_getElem hn, getD_some (List.getElem?_eq_getElem hn)]; rfl
  have ha : AskOk y.length (d.getD n ([], [])) := hd.2 _ (by rw [getD_some (List.getElem?_eq_getElem hn)]; exact List.getElem_mem hn)
  have e1 := walkDay_app y (d.take (n + 1)) (d.drop (n + 1)) 0 s q
  rw [List.take_append_drop] at e1
  have e2 := walkDay_app y (d.take n) [d.getD n ([], [])] 0 s q
  have elen : 0 + (d.take n).length = n := by rw [List.length_take]; omega
  have elen1 : 0 + (d.take (n + 1)).length = n + 1 := by rw [List.length_take]; omega
  rw [elen, ← etake] at e2
  rw [elen1] at e1
  have dn := day_take hd n
  have hsp := spot_ok f hq dn
  have hlast : (q :: (walkDay y 0 s (d.take n) q).2).getLast?.getD none = lastO (spotsM y s (d.take n) q) := rfl
  rw [hlast] at e2
  have L1 : (walkDay y 0 s d q).1 = (walkDay y 0 s (d.take n) q).1 ++ ((walkAsk y (goM y s (d.take n)).2 n (d.getD n ([], [])) (lastO (spotsM y s (d.take n) q))).1 ++ (walkDay y (n + 1) (goM y s (d.take (n + 1))).2 (d.drop (n + 1)) ((q :: (walkDay y 0 s (d.take (n + 1)) q).2).getLast?.getD none)).1) := by
    rw [e1]
    show (walkDay y 0 s (d.take (n + 1)) q).1 ++ _ = _
    rw [e2]
    show ((walkDay y 0 s (d.take n) q).1 ++ ((walkAsk y (goM y s (d.take n)).2 n (d.getD n ([], [])) (lastO (spotsM y s (d.take n) q))).1 ++ [])) ++ _ = _
    rw [List.append_nil, List.append_assoc]
  have e3 : lastO (spotsM y s (d.take (n + 1)) q) = (walkAsk y (goM y s (d.take n)).2 n (d.getD n ([], [])) (lastO (spotsM y s (d.take n) q))).2 := by
    unfold spotsM
    rw [e2]
    unfold lastO
    show (q :: ((walkDay y 0 s (d.take n) q).2 ++ [_])).getLast?.getD none = _
    rw [← List.cons_append, List.getLast?_concat]
    rfl
  unfold linksM
  rw [L1, led_app, led_other n _ _ fun l hl => by
    have := (day_words l hl).2.2
    rw [List.length_take] at this
    omega]
  show led n (lastO (spotsM y s (d.take n) q)) _ = _
  rw [led_app, led_ask (fine_go f dn.2) hsp ha]
  show led n _ _ = _
  rw [led_other n _ _ fun l hl => by
    have := (day_words l hl).2.1
    omega, e3]
theorem plus_get (a : List Int) (o : Option Nat) (ho : OkO a.length o) (k : Nat) : (plusO a o).getD k 0 = a.getD k 0 ∨ (plusO a o).getD k 0 = a.getD k 0 + 1 := by
  cases o with
  | none => exact .inl rfl
  | some q =>
    show (add a q 1).getD k 0 = _ ∨ (add a q 1).getD k 0 = _
    rw [getD_add (ho q rfl)]
    split
    · rename_i z; subst z; exact .inr rfl
    · exact .inl rfl
end Kb
namespace Kb
open PySem PySem.Spec PyProof.Rows L2
/-! ### how far apart, moment by moment -/
def farL (y : List Rm) (s t : List Int) (d : List Ask) : List Int := (List.range (d.length + 1)).map fun n => distL (goM y s (d.take n)).2 (goM y t (d.take n)).2
theorem farL_len (y : List Rm) (s t : List Int) (d : List Ask) : (farL y s t d).length = d.length + 1 := by
  unfold farL
  rw [List.length_map, List.length_range]
def absPair : PyData → PyData
  | .tuple [.int x, .int z] => .int (absI (x - z))
  | _ => .none
def distsL : List Int → List Int → List Int
  | x :: a, z :: b => absI (x - z) :: distsL a b
  | _, _ => []
theorem dists_eq : ∀ a b : List Int, (zipD (a.map .int) (b.map .int)).map absPair = (distsL a b).map .int
  | [], _ => rfl
  | _ :: _, [] => rfl
  | x :: a, z :: b => by
    show absPair (.tuple [.int x, .int z]) :: (zipD (a.map .int) (b.map .int)).map absPair = .int (absI (x - z)) :: (distsL a b).map .int
    rw [dists_eq a b]
    rfl
theorem dists_sum : ∀ a b : List Int, (distsL a b).sum = distL a b
  | [], _ => rfl
  | _ :: _, [] => rfl
  | x :: a, z :: b => by
    show absI (x - z) + (distsL a b).sum = absI (x - z) + distL a b
    rw [dists_sum a b]
def distD : PyData → PyData
  | .tuple [.tuple a, .tuple b] => match intsOf a, intsOf b with
    | some x, some z => .int (distL x z)
    | _, _ => .none
  | _ => .none
theorem distD_enc (a b : List Int) : distD (.tuple [encS a, encS b]) = .int (distL a b) := by
  unfold distD encS
  simp only [intsOf_map]
theorem far_map (y : List Rm) (s t : List Int) (d : List Ask) : (zipD (momsD y s d) (momsD y t d)).map distD = (farL y s t d).map .int := by
  unfold momsD farL
  rw [zip_maps, List.map_map, List.map_map]
  apply List.map_congr_left
  intro n _
  exact distD_enc _ _
/-! the same, of a day in two parts -/
theorem far_get (y : List Rm) (s t : List Int) (d : List Ask) {n : Nat} (h : n < d.length + 1) : (farL y s t d)[n]? = some (distL (goM y s (d.take n)).2 (goM y t (d.take n)).2) := by
  unfold farL
  rw [List.getElem?_map, List.getElem?_range h]
  rfl
theorem far_app (y : List Rm) (s t : List Int) (d e : List Ask) : farL y s t (d ++ e) = (farL y s t d).take d.length ++ farL y (goM y s d).2 (goM y t d).2 e := by
  have hl : ((farL y s t d).take d.length).length = d.length := by rw [List.length_take, farL_len]; omega
  apply List.ext_getElem?
  intro n
  by_cases z : n < d.length
  · rw [List.getElem?_append_left (by rw [hl]; exact z), List.getElem?_take_of_lt z, far_get _ _ _ _ (by rw [List.length_append]; omega), far_get _ _ _ _ (by omega), List.take_append_of_le_length (by omega)]
  · rw [List.getElem?_append_right (by rw [hl]; omega), hl]
    by_cases z2 : n < d.length + e.length + 1
    · have e1 : (d ++ e).take n = d ++ e.take (n - d.length) := by
        rw [List.take_append, List.take_of_length_le (by omega)]
      rw [far_get _ _ _ _ (by rw [List.length_append]; exact z2), far_get _ _ _ _ (by omega), e1, go_app, go_app]
    · rw [List.getElem?_eq_none (by rw [farL_len, List.length_append]; omega), List.getElem?_eq_none (by rw [farL_len]; omega)]
theorem take_dropLast {α : Type} (l : List α) (n : Nat) (h : l.length = n + 1) : l.take n = l.dropLast := by
  rw [List.dropLast_eq_take, h, Nat.add_sub_cancel]
theorem cut_last {α : Type} (xs : List α) (h : xs ≠ []) : cutL xs none (some (-1)) = xs.dropLast := by
  have hl : 0 < xs.length := List.length_pos_iff.2 h
  unfold cutL
  rw [HT.sIx_none, List.drop_zero, Nat.sub_zero, List.dropLast_eq_take]
  congr 1
  unfold HT.sIx
  first
    | rfl
    | (simp; omega)
    | (split <;> omega)
theorem served_app (a b : List Row) : servedIx (a ++ b) = servedIx a ++ (servedIx b).map (· + a.length) := by
  unfold servedIx
  rw [List.length_append, List.range_add, List.filter_append]
  congr 1
  · apply List.filter_congr
    intro k hk
    have := List.mem_range.1 hk
    rw [List.getD_eq_getElem?_getD, List.getD_eq_getElem?_getD, List.getElem?_append_left this]
  · rw [List.filter_map]
    have : (List.range b.length).filter ((fun i => ((a ++ b).getD i none).isSome) ∘ fun x => a.length + x) = (List.range b.length).filter fun i => (b.getD i none).isSome := by
      apply List.filter_congr
      intro k _
      show ((a ++ b).getD (a.length + k) none).isSome = _
      rw [List.getD_eq_getElem?_getD, List.getD_eq_getElem?_getD, List.getElem?_append_right (by omega), Nat.add_sub_cancel_left]
    rw [this]
    apply List.map_congr_left
    intro k _
    omega
/-! walks with other numbers -/
def shiftL (n : Nat) (l : Link) : Link := ⟨l.ask + n, l.word, l.one, l.two⟩
theorem leave_shift (y : List Rm) (now : List Int) (i n : Nat) (ls : List Nat) (q : Option Nat) : walkLeave y now (i + n) ls q = ((walkLeave y now i ls q).1.map (shiftL n), (walkLeave y now i ls q).2) := by
  unfold walkLeave
  split <;> rfl
theorem ask_shift (y : List Rm) (now : List Int) (i n : Nat) (a : Ask) (q : Option Nat) : walkAsk y now (i + n) a q = ((walkAsk y now i a q).1.map (shiftL n), (walkAsk y now i a q).2) := by
  unfold walkAsk
  cases firstT (plusO now q) a.1 with
  | none => rfl
  | some p =>
    cases firstT now a.1 with
    | none => rfl
    | some o =>
      dsimp only
      by_cases e : p = o
      · rw [if_pos e, if_pos e, leave_shift]
      · rw [if_neg e, if_neg e, leave_shift]
        rfl
theorem day_shift (y : List Rm) (n : Nat) : ∀ (d : List Ask) (i : Nat) (now : List Int) (q : Option Nat), walkDay y (i + n) now d q = ((walkDay y i now d q).1.map (shiftL n), (walkDay y i now d q).2)
  | [], _, _, _ => rfl
  | a :: d, i, now, q => by
    have e : i + n + 1 = i + 1 + n := by omega
    show ((walkAsk y now (i + n) a q).1 ++ (walkDay y (i + n + 1) (serveM y now a).2 d (walkAsk y now (i + n) a q).2).1, (walkAsk y now (i + n) a q).2 :: (walkDay y (i + n + 1) (serveM y now a).2 d (walkAsk y now (i + n) a q).2).2) = _
    rw [ask_shift, e, day_shift y n d]
    show _ = (((walkAsk y now i a q).1 ++ (walkDay y (i + 1) (serveM y now a).2 d (walkAsk y now i a q).2).1).map (shiftL n), _)
    rw [List.map_append]
    rfl
theorem walk_parts (y : List Rm) (s : List Int) (d e : List Ask) (q : Option Nat) : linksM y s (d ++ e) q = linksM y s d q ++ (linksM y (goM y s d).2 e (lastO (spotsM y s d q))).map (shiftL d.length) ∧ spotsM y s (d ++ e) q = (spotsM y s d q).take d.length ++ spotsM y (goM y s d).2 e (lastO (spotsM y s d q)) := by
  have h := walkDay_app y d e 0 s q
  have h2 := day_shift y d.length e 0 (goM y s d).2 (lastO (spotsM y s d q))
  have hl := spots_len y s d q
  have hlast : (q :: (walkDay y 0 s d q).2).getLast?.getD none = lastO (spotsM y s d q) := rfl
  rw [hlast] at h
  constructor
  · unfold linksM
    rw [h, h2]
  · have e1 : spotsM y s (d ++ e) q = spotsM y s d q ++ (walkDay y 0 (goM y s d).2 e (lastO (spotsM y s d q))).2 := by
      unfold spotsM
      rw [h, h2]
      rfl
    have e2 : spotsM y s d q = (spotsM y s d q).take d.length ++ [lastO (spotsM y s d q)] := by
      rw [take_dropLast _ _ hl]
      have hne : spotsM y s d q ≠ [] := by unfold spotsM; exact fun z => (nomatch z)
      unfold lastO
      rw [List.getLast?_eq_some_getLast hne]
      exact (List.dropLast_concat_getLast hne).symm
    rw [e1]
    generalize lastO (spotsM y s d q) = sp at e2
    rw [e2]
    have e3 : (List.take d.length (spotsM y s d q) ++ [sp]).take d.length = List.take d.length (spotsM y s d q) := by
      rw [List.take_append_of_le_length (by rw [List.length_take]; omega), List.take_of_length_le (by rw [List.length_take]; omega)]
    rw [e3, List.append_assoc]
    rfl
/-- once met, met for ever -/
theorem walk_none (y : List Rm) : ∀ (d : List Ask) (i : Nat) (now : List Int), Fine y now → (∀ a ∈ d, AskOk y.length a) → walkDay y i now d none = ([], List.replicate d.length none)
  | [], _, _, _, _ => rfl
  | a :: d, i, now, f, h => by
    have ha := h a List.mem_cons_self
    obtain ⟨g1, g2⟩ := (walk_ask (i := i) (spot := none) f (fun p hp => (nomatch hp)) ha).gone rfl
    show ((walkAsk y now i a none).1 ++ (walkDay y (i + 1) (serveM y now a).2 d (walkAsk y now i a none).2).1, (walkAsk y now i a none).2 :: (walkDay y (i + 1) (serveM y now a).2 d (walkAsk y now i a none).2).2) = _
    rw [g1, g2, walk_none y d (i + 1) _ (fine_serve f ha) fun b hb => h b (List.mem_cons_of_mem _ hb)]
    rfl
end Kb
namespace Kb
open PySem PySem.Spec PyProof.Rows L2
/-! ### the lesser and the greater of two -/
def joinL : List Int → List Int → List Int
  | x :: a, z :: b => (if x < z then z else x) :: joinL a b
  | _, _ => []
def minPair : PyData → PyData
  | .tuple [.int x, .int z] => .int (if z < x then z else x)
  | _ => .none
def maxPair : PyData → PyData
  | .tuple [.int x, .int z] => .int (if z > x then z else x)
  | _ => .none
theorem meet_map : ∀ a b : List Int, (zipD (a.map .int) (b.map .int)).map minPair = (meetL a b).map .int
  | [], _ => rfl
  | _ :: _, [] => rfl
  | x :: a, z :: b => by
    show PyData.int (if z < x then z else x) :: (zipD (a.map .int) (b.map .int)).map minPair = .int (if x < z then x else z) :: (meetL a b).map .int
    rw [meet_map a b]
    congr 2
    split <;> split <;> omega
theorem join_map : ∀ a b : List Int, (zipD (a.map .int) (b.map .int)).map maxPair = (joinL a b).map .int
  | [], _ => rfl
  | _ :: _, [] => rfl
  | x :: a, z :: b => by
    show PyData.int (if z > x then z else x) :: (zipD (a.map .int) (b.map .int)).map maxPair = .int (if x < z then z else x) :: (joinL a b).map .int
    rw [join_map a b]
theorem join_len : ∀ {a b : List Int}, a.length = b.length → (joinL a b).length = a.length
  | [], [], _ => rfl
  | [], _ :: _, h => by simp at h
  | _ :: _, [], h => by simp at h
  | x :: a, z :: b, h => by
    show (joinL a b).length + 1 = a.length + 1
    rw [join_len (by simpa using h)]
theorem join_get : ∀ {a b : List Int} (p : Nat), a.length = b.length → p < a.length → (joinL a b).getD p 0 = if a.getD p 0 < b.getD p 0 then b.getD p 0 else a.getD p 0
  | [], [], _, _, h => by simp at h
  | [], _ :: _, _, h, _ => by simp at h
  | _ :: _, [], _, h, _ => by simp at h
  | x :: a, z :: b, 0, _, _ => rfl
  | x :: a, z :: b, p + 1, h, g => join_get (a := a) (b := b) p (by simpa using h) (by simpa using g)
theorem join_below {a b : List Int} (h : a.length = b.length) : Below a (joinL a b) ∧ Below b (joinL a b) := by
  refine ⟨⟨(join_len h).symm, fun p hp => ?_⟩, ⟨by rw [join_len h, h], fun p hp => ?_⟩⟩
  · rw [join_get p h hp]
    split <;> omega
  · rw [join_get p h (by rw [h]; exact hp)]
    split <;> omega
theorem join_fine {y : List Rm} {a b : List Int} (fa : Fine y a) (fb : Fine y b) : Fine y (joinL a b) := by
  have h : a.length = b.length := by rw [fa.1, fb.1]
  refine ⟨by rw [join_len h]; exact fa.1, fun p hp => ?_⟩
  rw [join_get p h (by rw [fa.1]; exact hp)]
  split
  · exact fb.2 p hp
  · exact fa.2 p hp
theorem meet_join : ∀ {a b : List Int}, a.length = b.length → (meetL a b).sum + (joinL a b).sum = a.sum + b.sum
  | [], [], _ => rfl
  | [], _ :: _, h => by simp at h
  | _ :: _, [], h => by simp at h
  | x :: a, z :: b, h => by
    have ih := meet_join (a := a) (b := b) (by simpa using h)
    show ((if x < z then x else z) + (meetL a b).sum) + ((if x < z then z else x) + (joinL a b).sum) = (x + a.sum) + (z + b.sum)
    split <;> omega
theorem meet_great {l a b : List Int} (h1 : Below l a) (h2 : Below l b) : Below l (meetL a b) := by
  have h : a.length = b.length := by rw [← h1.1, h2.1]
  refine ⟨by rw [meet_len h]; exact h1.1, fun p hp => ?_⟩
  rw [meet_get p h (by rw [← h1.1]; exact hp)]
  have := h1.2 p hp
  have := h2.2 p hp
  split <;> omega
theorem join_least {a b u : List Int} (h1 : Below a u) (h2 : Below b u) : Below (joinL a b) u := by
  have h : a.length = b.length := by rw [h1.1, h2.1]
  refine ⟨by rw [join_len h]; exact h1.1, fun p hp => ?_⟩
  rw [join_len h] at hp
  rw [join_get p h hp]
  have := h1.2 p hp
  have := h2.2 p (by rw [← h]; exact hp)
  split <;> omega
theorem dist_box {l a b u : List Int} (h1 : Below l a) (h2 : Below l b) (h3 : Below a u) (h4 : Below b u) : distL a b ≤ distL l u := by
  have h : a.length = b.length := by rw [← h1.1, h2.1]
  have m := meet_great h1 h2
  have j := join_least h3 h4
  have e1 := dist_meet h
  have e2 := meet_join h
  have s1 := below_sum m.1 m.2
  have s2 := below_sum j.1 j.2
  have lu := h1.trans h3
  have d := (dist_below lu.1 lu.2).1
  omega
theorem dist_mj {a b : List Int} (h : a.length = b.length) : distL (meetL a b) (joinL a b) = distL a b := by
  have e1 := dist_meet h
  have e2 := meet_join h
  have lu := (meet_below h).1.trans (join_below h).1
  have d := (dist_below lu.1 lu.2).1
  omega
theorem dist_side {a b c : List Int} (h : a.length = b.length) (hc : c = meetL a b ∨ c = joinL a b) : distL a c + distL c b = distL a b := by
  have e1 := dist_meet h
  have e2 := meet_join h
  rcases hc with rfl | rfl
  · obtain ⟨b1, b2⟩ := meet_below h
    have d1 := (dist_below b1.1 b1.2).2
    have d2 := (dist_below b2.1 b2.2).1
    omega
  · obtain ⟨b1, b2⟩ := join_below h
    have d1 := (dist_below b1.1 b1.2).1
    have d2 := (dist_below b2.1 b2.2).2
    omega
theorem below_day {y : List Rm} {d : List Ask} (hd : ∀ k ∈ d, AskOk y.length k) {a b : List Int} (h : Below a b) (fa : Fine y a) (fb : Fine y b) : Below (goM y a d).2 (goM y b d).2 := (below_go hd (b.sum - a.sum).toNat h fa fb (by omega)).1
theorem range_getD : ∀ l : List Int, (List.range l.length).map (fun k => l.getD k 0) = l
  | [] => rfl
  | x :: l => by
    rw [List.length_cons, List.range_succ_eq_map, List.map_cons, List.map_map]
    show x :: (List.range l.length).map (fun k => l.getD k 0) = x :: l
    rw [range_getD l]
def getID (l : List Int) : PyData → PyData
  | .int i => .int (l.getD i.toNat 0)
  | _ => .none
theorem getID_eq (l : List Int) : (intsD l.length).map (getID l) = l.map .int := by
  unfold intsD
  rw [List.map_map]
  show (List.range l.length).map (fun k => PyData.int (l.getD k 0)) = l.map .int
  conv => rhs; rw [← range_getD l]
  rw [List.map_map]
  rfl
theorem small_strs {n : Nat} {x : Str} (h : Small (.str x)) : Small (.list (List.replicate n (.str x))) := by
  have h' : PyData.strOk x = true := by
    have : (PyData.strOk x && decide (PyData.depth (.str x) ≤ 64)) = true := h
    exact (Bool.and_eq_true _ _ ▸ this).1
  have a : (PyData.list (List.replicate n (.str x))).canLay0 = true := by
    rw [PyData.canLay0]
    exact layAll_of fun d hd => by rw [List.eq_of_mem_replicate hd]; exact h'
  have b : (PyData.list (List.replicate n (.str x))).depth ≤ 1 := by
    rw [PyData.depth]
    have := depthAll_le (k := 0) (ds := List.replicate n (PyData.str x)) fun d hd => by rw [List.eq_of_mem_replicate hd]; exact Nat.le_refl 0
    omega
  show ((PyData.list (List.replicate n (.str x))).canLay0 && decide ((PyData.list (List.replicate n (.str x))).depth ≤ 64)) = true
  rw [a, Bool.true_and, decide_eq_true_eq]
  omega
theorem eqv_strs {n : Nat} {x : Str} (h : Small (.str x)) : PyData.eqv (.list (List.replicate n (.str x))) (.list (List.replicate n (.str x))) = true := by
  refine eqv_self _ ?_
  have h' : PyData.strOk x = true := by
    have : (PyData.strOk x && decide (PyData.depth (.str x) ≤ 64)) = true := h
    exact (Bool.and_eq_true _ _ ▸ this).1
  rw [PyData.canLay0]
  exact layAll_of fun d hd => by rw [List.eq_of_mem_replicate hd]; exact h'
end Kb
namespace Kb
open PySem PySem.Spec PyProof.Rows L2
/-- what a loop goes through is made first: by what holds of it -/
theorem sFor_k {I : WI} {g : WG} {S : WS} {D : EndW} {env : Ev} (P : List PyData → Prop) (E : Ev) (h : ∀ Q : List PyData → Ev → Prop, (∀ ds, P ds → Q ds E) → I env Q) (h2 : ∀ ds, P ds → forGo g S D ds E) : sFor I g S D env := h _ h2
end Kb
namespace Kb
open PySem PySem.Spec PyProof.Rows L2
/-! ### things that may be spared -/
def placesT (s : List Int) : List Nat := (List.range s.length).filter fun p => decide (0 < s.getD p 0)
def thingD : PyData → Bool
  | .tuple [_, .int m] => decide (0 < m)
  | _ => false
def fstD : PyData → PyData
  | .tuple [i, _] => i
  | _ => .none
theorem places_eq (s : List Int) : ((enumD (s.map .int)).filter thingD).map fstD = (placesT s).map encN := by
  unfold enumD placesT
  rw [List.filter_map, List.map_map, List.length_map]
  have e1 : (List.range s.length).filter (thingD ∘ fun i : Nat => PyData.tuple [.int (i : Int), (s.map PyData.int).getD i .none]) = (List.range s.length).filter fun p => decide (0 < s.getD p 0) := by
    apply List.filter_congr
    intro i hi
    have h := List.mem_range.1 hi
    show thingD (.tuple [.int (i : Int), (s.map PyData.int).getD i .none]) = _
    have e : (s.map PyData.int).getD i .none = .int (s.getD i 0) := by
      rw [List.getD_eq_getElem?_getD, List.getElem?_map, List.getElem?_eq_getElem h, getD_some (List.getElem?_eq_getElem h)]
      rfl
    rw [e]
    rfl
  rw [e1]
  rfl
theorem places_mem {s : List Int} {p : Nat} (h : p ∈ placesT s) : p < s.length ∧ 0 < s.getD p 0 := ⟨List.mem_range.1 (List.mem_filter.1 h).1, of_decide_eq_true (List.mem_filter.1 h).2⟩
theorem fewer_fine {y : List Rm} {s : List Int} {p : Nat} (f : Fine y s) (hp : p < y.length) (h0 : 0 < s.getD p 0) : Fine y (add s p (-1)) ∧ roomB y (add s p (-1)) p = true ∧ plusO (add s p (-1)) (some p) = s := by
  have hps : p < s.length := by rw [f.1]; exact hp
  refine ⟨fine_take f hp h0, ?_, ?_⟩
  · have f2 := f.2 p hp
    unfold roomB
    cases er : y.getD p none with
    | none => rfl
    | some i =>
      have := f2.2 i er
      refine decide_eq_true ?_
      rw [getD_add hps, if_pos rfl]
      omega
  · show add (add s p (-1)) p 1 = s
    rw [add_same hps, show (-1 : Int) + 1 = 0 from rfl, add_zero hps]
def spareM (y : List Rm) (s : List Int) (d : List Ask) : List Nat := (placesT s).filter fun p => (gainedM y (add s p (-1)) d (some p)).isEmpty
/-- the same are served just where nobody is served anew -/
theorem alike_iff {rs us : List Row} (hl : rs.length = us.length) (h : ∀ k, (rs.getD k none).isSome = true → (us.getD k none).isSome = true) : servedIx rs = servedIx us ↔ anewIx rs us = [] := by
  constructor
  · intro e
    unfold anewIx
    rw [List.filter_eq_nil_iff]
    intro k hk hc
    simp only [Bool.and_eq_true, Bool.not_eq_true'] at hc
    have hm : k ∈ servedIx us := List.mem_filter.2 ⟨by rw [← hl]; exact hk, hc.2⟩
    rw [← e] at hm
    have := (List.mem_filter.1 hm).2
    rw [hc.1] at this
    cases this
  · intro e
    unfold servedIx
    rw [hl]
    apply List.filter_congr
    intro k hk
    have hk' := List.mem_range.1 hk
    have hn : ¬ ((!(rs.getD k none).isSome && (us.getD k none).isSome) = true) := by
      have := (List.filter_eq_nil_iff.1 e) k (List.mem_range.2 (by omega))
      exact this
    have hh := h k
    cases h1 : (rs.getD k none).isSome <;> cases h2 : (us.getD k none).isSome <;> simp_all
theorem eqvAll_ix : ∀ a b : List Nat, PyData.eqvAll (a.map encN) (b.map encN) = decide (a = b)
  | [], [] => rfl
  | [], _ :: _ => rfl
  | _ :: _, [] => rfl
  | x :: a, z :: b => by
    have ih := eqvAll_ix a b
    have e : PyData.eqvAll ((x :: a).map encN) ((z :: b).map encN) = ((PyData.int (x : Int)).eqv (.int (z : Int)) && PyData.eqvAll (a.map encN) (b.map encN)) := by
      simp only [List.map_cons, encN, PyData.eqvAll]
    rw [e, ih]
    by_cases h : x = z
    · subst h
      rw [eqvI_eq rfl]
      simp
    · rw [eqvI_ne (fun q => h (by omega))]
      simp [h]
theorem eqv_ix (a b : List Nat) : (PyData.list (a.map encN)).eqv (.list (b.map encN)) = decide (a = b) := by
  rw [← eqvAll_ix a b]
  simp only [PyData.eqv]
/-! where no room is bounded, a thing more than asks want is spare -/
theorem endless_leave {y : List Rm} (he : ∀ p, p < y.length → y.getD p none = none) (a : List Int) {ls : List Nat} (hls : ∀ p ∈ ls, p < y.length) : firstR y a ls = ls.head? := by
  cases ls with
  | nil => rfl
  | cons q ls =>
    unfold firstR
    rw [List.find?_cons]
    have : roomB y a q = true := by unfold roomB; rw [he q (hls q List.mem_cons_self)]
    rw [this]
    rfl
def wishM (d : List Ask) (p : Nat) : Nat := (d.filter fun a => decide (p ∈ a.1)).length
theorem spare_many {y : List Rm} (he : ∀ p, p < y.length → y.getD p none = none) {p : Nat} (hp : p < y.length) : ∀ {d : List Ask} {a : List Int}, Fine y a → (∀ k ∈ d, AskOk y.length k) → (wishM d p : Int) ≤ a.getD p 0 → (goM y (add a p 1) d).1 = (goM y a d).1
  | [], _, _, _, _ => rfl
  | k :: d, a, f, hd, hw => by
    have hk := hd k List.mem_cons_self
    have hpa : p < a.length := by rw [f.1]; exact hp
    have hwc : wishM (k :: d) p = (if p ∈ k.1 then 1 else 0) + wishM d p := by
      unfold wishM
      rw [List.filter_cons]
      by_cases z : p ∈ k.1
      · rw [if_pos (decide_eq_true z), if_pos z, List.length_cons]; omega
      · rw [if_neg (by simpa using z), if_neg z]; omega
    have hw1 : p ∈ k.1 → (wishM d p : Int) + 1 ≤ a.getD p 0 := fun z => by
      rw [hwc, if_pos z] at hw
      omega
    have hw0 : (wishM d p : Int) ≤ a.getD p 0 := by
      rw [hwc] at hw
      by_cases z : p ∈ k.1
      · rw [if_pos z] at hw; omega
      · rw [if_neg z] at hw; omega
    have hT : firstT (add a p 1) k.1 = firstT a k.1 := by
      unfold firstT
      apply find_same
      intro q hq
      rw [getD_add hpa]
      by_cases z : p = q
      · subst z
        have := hw1 hq
        rw [if_pos rfl, decide_eq_true (by omega), decide_eq_true (by omega)]
      · rw [if_neg z]
    have r1 := serveM_row y a k
    have r2 := serveM_row y (add a p 1) k
    rw [hT] at r2
    show (serveM y (add a p 1) k).1 :: (goM y (serveM y (add a p 1) k).2 d).1 = (serveM y a k).1 :: (goM y (serveM y a k).2 d).1
    have fs := fine_serve f hk
    cases e : firstT a k.1 with
    | none =>
      rw [e] at r1 r2
      simp only at r1 r2
      rw [r1, r2]
      show none :: (goM y (add a p 1) d).1 = none :: (goM y a d).1
      rw [spare_many he hp (d := d) f (fun x hx => hd x (List.mem_cons_of_mem _ hx)) hw0]
    | some o =>
      rw [e] at r1 r2
      simp only at r1 r2
      have ho := hk.1.2 o (firstT_some e).1
      have hoa : o < a.length := by rw [f.1]; exact ho
      have e1 : firstR y (add (add a p 1) o (-1)) k.2 = firstR y (add a o (-1)) k.2 := by rw [endless_leave he _ hk.2.2, endless_leave he _ hk.2.2]
      have e2 : leaveM y (add (add a p 1) o (-1)) k.2 = add (leaveM y (add a o (-1)) k.2) p 1 := by
        rw [leaveM_plus, leaveM_plus, e1, add_comm hpa hoa]
        cases hu : firstR y (add a o (-1)) k.2 with
        | none => rfl
        | some u =>
          have hu' := hk.2.2 u (List.mem_of_find?_eq_some hu)
          exact add_comm (by rw [add_len]; exact hpa) (by rw [add_len, f.1]; exact hu')
      rw [r1] at fs
      rw [r1, r2, e1, e2]
      show _ :: (goM y (add (leaveM y (add a o (-1)) k.2) p 1) d).1 = _ :: (goM y (leaveM y (add a o (-1)) k.2) d).1
      have hge : a.getD p 0 - (if o = p then 1 else 0) ≤ (leaveM y (add a o (-1)) k.2).getD p 0 := by
        rw [leaveM_plus]
        have h1 : (add a o (-1)).getD p 0 = a.getD p 0 - (if o = p then 1 else 0) := by
          rw [getD_add hoa]
          split
          · rename_i z; subst z; omega
          · omega
        have hx : OkO (add a o (-1)).length (firstR y (add a o (-1)) k.2) := by rw [add_len, f.1]; exact firstR_lt hk.2.2
        rcases plus_get (add a o (-1)) (firstR y (add a o (-1)) k.2) hx p with z | z <;> omega
      have hop : o = p → p ∈ k.1 := fun z => z ▸ (firstT_some e).1
      rw [spare_many he hp (d := d) fs (fun x hx => hd x (List.mem_cons_of_mem _ hx)) (by
        show (wishM d p : Int) ≤ (leaveM y (add a o (-1)) k.2).getD p 0
        by_cases z : o = p
        · have := hw1 (hop z)
          rw [if_pos z] at hge
          omega
        · rw [if_neg z] at hge
          omega)]
end Kb
namespace Kb
open PySem PySem.Spec PyProof.Rows L2
/-! ### many things more, one behind another -/
def addAll (now : List Int) (qs : List Nat) : List Int := qs.foldl (fun a q => add a q 1) now
def PutOk (y : List Rm) : List Int → List Nat → Prop
  | _, [] => True
  | now, q :: qs => q < y.length ∧ roomB y now q = true ∧ PutOk y (add now q 1) qs
def putG (y : List Rm) (d : List Ask) : List Int → List Nat → List Nat
  | _, [] => []
  | now, q :: qs => gainedM y now d (some q) ++ putG y d (add now q 1) qs
def putE (y : List Rm) (d : List Ask) : List Int → List Nat → List (Option Nat)
  | _, [] => []
  | now, q :: qs => lastO (spotsM y now d (some q)) :: putE y d (add now q 1) qs
theorem addAll_len : ∀ (qs : List Nat) (now : List Int), (addAll now qs).length = now.length
  | [], _ => rfl
  | q :: qs, now => by
    show (addAll (add now q 1) qs).length = _
    rw [addAll_len qs, add_len]
theorem add_out {a : List Int} {p : Nat} {k : Int} (h : ¬ p < a.length) : add a p k = a := by
  unfold add
  exact List.set_eq_of_length_le (by omega)
theorem add_comm_all (a : List Int) (p q : Nat) : add (add a p 1) q 1 = add (add a q 1) p 1 := by
  by_cases hp : p < a.length
  · by_cases hq : q < a.length
    · exact add_comm hp hq
    · rw [add_out (a := add a p 1) (by rw [add_len]; exact hq), add_out (a := a) (p := q) hq]
  · rw [add_out (a := a) (p := p) hp, add_out (a := add a q 1) (by rw [add_len]; exact hp)]
theorem addAll_perm {ps qs : List Nat} (h : ps.Perm qs) (now : List Int) : addAll now ps = addAll now qs := h.foldl_eq' (fun x _ y _ z => add_comm_all z x y) now
theorem addAll_ge : ∀ (qs : List Nat) (now : List Int) (p : Nat), now.getD p 0 ≤ (addAll now qs).getD p 0
  | [], _, _ => Int.le_refl _
  | q :: qs, now, p => by
    have ih := addAll_ge qs (add now q 1) p
    show _ ≤ (addAll (add now q 1) qs).getD p 0
    by_cases hq : q < now.length
    · rw [getD_add hq] at ih
      split at ih
      · rename_i z; subst z; omega
      · exact ih
    · rw [add_out hq] at ih ⊢
      exact ih
theorem put_ok {y : List Rm} : ∀ {qs : List Nat} {now : List Int}, Fine y now → Fine y (addAll now qs) → (∀ q ∈ qs, q < y.length) → PutOk y now qs
  | [], _, _, _, _ => trivial
  | q :: qs, now, f, g, h => by
    have hq := h q List.mem_cons_self
    have hqn : q < now.length := by rw [f.1]; exact hq
    have ge := addAll_ge qs (add now q 1) q
    rw [getD_add hqn, if_pos rfl] at ge
    have g' : Fine y (addAll (add now q 1) qs) := g
    have hr : roomB y now q = true := by
      unfold roomB
      cases er : y.getD q none with
      | none => rfl
      | some i =>
        have := (g'.2 q hq).2 i er
        exact decide_eq_true (by omega)
    exact ⟨hq, hr, put_ok (fine_add f hq hr) g' fun x hx => h x (List.mem_cons_of_mem _ hx)⟩
theorem anew_split {r0 r1 r2 : List Row} (l1 : r0.length = r1.length) (l2 : r1.length = r2.length) (h1 : ∀ k, (r0.getD k none).isSome = true → (r1.getD k none).isSome = true) (h2 : ∀ k, (r1.getD k none).isSome = true → (r2.getD k none).isSome = true) : (anewIx r0 r1 ++ anewIx r1 r2).Perm (anewIx r0 r2) := by
  have p := List.filter_append_perm (fun k => (r1.getD k none).isSome) (anewIx r0 r2)
  have e1 : (anewIx r0 r2).filter (fun k => (r1.getD k none).isSome) = anewIx r0 r1 := by
    unfold anewIx
    rw [List.filter_filter]
    apply List.filter_congr
    intro k _
    have a := h1 k
    have b := h2 k
    cases c0 : (r0.getD k none).isSome <;> cases c1 : (r1.getD k none).isSome <;> cases c2 : (r2.getD k none).isSome <;> simp_all
  have e2 : (anewIx r0 r2).filter (fun k => !(r1.getD k none).isSome) = anewIx r1 r2 := by
    unfold anewIx
    rw [List.filter_filter, l1]
    apply List.filter_congr
    intro k _
    have a := h1 k
    have b := h2 k
    cases c0 : (r0.getD k none).isSome <;> cases c1 : (r1.getD k none).isSome <;> cases c2 : (r2.getD k none).isSome <;> simp_all
  rw [e1, e2] at p
  exact p
theorem put_all {y : List Rm} {d : List Ask} (hd : DayOk y.length d) : ∀ {qs : List Nat} {now : List Int}, Fine y now → PutOk y now qs → (putG y d now qs).Perm (anewIx (goM y now d).1 (goM y (addAll now qs) d).1) ∧ (∀ k, ((goM y now d).1.getD k none).isSome = true → ((goM y (addAll now qs) d).1.getD k none).isSome = true) ∧ (goM y (addAll now qs) d).2 = (putE y d now qs).foldl plusO (goM y now d).2
  | [], now, f, _ => by
    have e : anewIx (goM y now d).1 (goM y (addAll now []) d).1 = [] := (alike_iff rfl fun _ z => z).1 rfl
    rw [e]
    exact ⟨List.Perm.refl _, fun _ z => z, rfl⟩
  | q :: qs, now, f, h => by
    obtain ⟨hq, hr, h'⟩ := h
    have hqo : OkO y.length (some q) := fun p hp => by cases hp; exact hq
    obtain ⟨i1, i2, i3⟩ := put_all hd (fine_add f hq hr) h'
    have W := walk_day (d := d) (q := some q) 0 f hqo hd.2
    have gq := gained_eq (q := some q) f hqo hd.2
    have eb : plusO now (some q) = add now q 1 := rfl
    have Wr := W.rows
    have Wb := W.big
    rw [eb] at gq Wr Wb
    refine ⟨?_, fun k hk => i2 k (Wr k hk), ?_⟩
    · show (gainedM y now d (some q) ++ putG y d (add now q 1) qs).Perm _
      rw [gq]
      exact (i1.append_left _).trans (anew_split (by rw [goM_len, goM_len]) (by rw [goM_len, goM_len]) Wr i2)
    · show (goM y (addAll (add now q 1) qs) d).2 = (putE y d (add now q 1) qs).foldl plusO (plusO (goM y now d).2 (lastO (spotsM y now d (some q))))
      rw [i3, Wb]
      rfl
theorem put_ends {y : List Rm} {d : List Ask} (hd : DayOk y.length d) : ∀ {qs : List Nat} {now : List Int}, Fine y now → PutOk y now qs → ∀ o ∈ putE y d now qs, OkO y.length o
  | [], _, _, _, o, ho => nomatch ho
  | q :: qs, now, f, h, o, ho => by
    obtain ⟨hq, hr, h'⟩ := h
    rcases List.mem_cons.1 ho with rfl | ho
    · exact spot_ok f (fun p hp => by cases hp; exact hq) hd
    · exact put_ends hd (fine_add f hq hr) h' o ho
theorem still {y : List Rm} {s : List Int} {d : List Ask} {q : Option Nat} (f : Fine y s) (hq : OkO y.length q) (hd : DayOk y.length d) (h : linksM y s d q = []) : lastO (spotsM y s d q) = q := by
  have key : ∀ n, n ≤ d.length → lastO (spotsM y s (d.take n) q) = q := by
    intro n
    induction n with
    | zero => exact fun _ => rfl
    | succ n ih =>
      intro hn
      have l := led_day f hq hd (n := n) (by omega)
      rw [h, ih (by omega)] at l
      exact (Option.some.inj l).symm
  have := key d.length (Nat.le_refl _)
  rw [List.take_length] at this
  exact this
theorem anew_sorted (rs us : List Row) : ((anewIx rs us).map Int.ofNat).Pairwise (· ≤ ·) := by
  rw [List.pairwise_map]
  exact (List.pairwise_lt_range.filter _).imp fun h => by
    show (_ : Int) ≤ _
    exact Int.ofNat_le.2 (Nat.le_of_lt h)
theorem sorted_same {a b : List Int} (h : a.Perm b) (ha : a.Pairwise (· ≤ ·)) (hb : b.Pairwise (· ≤ ·)) : a = b := h.eq_of_pairwise (fun x y _ _ h1 h2 => Int.le_antisymm h1 h2) ha hb
theorem anew_self (rs : List Row) : anewIx rs rs = [] := (alike_iff rfl fun _ z => z).1 rfl
theorem putG_len (y : List Rm) (d : List Ask) (hd : DayOk y.length d) : ∀ {qs : List Nat} {now : List Int}, Fine y now → PutOk y now qs → (putG y d now qs).length ≤ d.length := fun {qs} {now} f h => by
  have p := (put_all hd f h).1.length_eq
  have l := anew_len (goM y now d).1 (goM y (addAll now qs) d).1
  rw [goM_len] at l
  omega
end Kb
namespace Kb
open PySem PySem.Spec PyProof.Rows L2
/-! ### how far one ask moves two worlds -/
theorem dist_sym : ∀ a b : List Int, distL a b = distL b a
  | [], [] => rfl
  | [], _ :: _ => rfl
  | _ :: _, [] => rfl
  | x :: a, z :: b => by
    show absI (x - z) + distL a b = absI (z - x) + distL b a
    rw [dist_sym a b]
    unfold absI
    split <;> split <;> omega
theorem dist_nonneg : ∀ a b : List Int, 0 ≤ distL a b
  | [], [] => Int.le_refl _
  | [], _ :: _ => Int.le_refl _
  | _ :: _, [] => Int.le_refl _
  | x :: a, z :: b => by
    show 0 ≤ absI (x - z) + distL a b
    have := dist_nonneg a b
    unfold absI
    split <;> omega
theorem dist_zero : ∀ {a b : List Int}, a.length = b.length → distL a b = 0 → a = b
  | [], [], _, _ => rfl
  | [], _ :: _, h, _ => by simp at h
  | _ :: _, [], h, _ => by simp at h
  | x :: a, z :: b, h, e => by
    have e' : absI (x - z) + distL a b = 0 := e
    have h1 := dist_nonneg a b
    have h2 : 0 ≤ absI (x - z) := by unfold absI; split <;> omega
    have h3 : absI (x - z) = 0 := by omega
    have h4 : x = z := by unfold absI at h3; split at h3 <;> omega
    rw [h4, dist_zero (a := a) (b := b) (by simpa using h) (by omega)]
theorem dist_par {a b : List Int} (h : a.length = b.length) : ∃ k : Int, distL a b = a.sum + b.sum + 2 * k := ⟨-(meetL a b).sum, by rw [dist_meet h]; omega⟩
def offR : Row → Int
  | some (_, none) => 1
  | _ => 0
theorem dist_add {a : List Int} {p : Nat} (hp : p < a.length) : distL a (add a p 1) = 1 ∧ distL (add a p 1) a = 1 := by
  have := dist_below (a := a) (b := add a p 1) (by rw [add_len]) (fun q hq => by
    rw [getD_add hp]
    split
    · rename_i e; subst e; omega
    · omega)
  rw [sum_add hp] at this
  omega
theorem dist_sub {a : List Int} {p : Nat} (hp : p < a.length) : distL a (add a p (-1)) = 1 := by
  have h := (dist_add (a := add a p (-1)) (p := p) (by rw [add_len]; exact hp)).2
  rw [add_same hp] at h
  have e : add a p (-1 + 1) = a := add_zero hp
  rw [e] at h
  exact h
theorem serve_moves {y : List Rm} {a : List Int} {k : Ask} (fa : Fine y a) (hk : AskOk y.length k) : distL a (serveM y a k).2 ≤ 2 ∧ (serveM y a k).2.sum = a.sum - offR (serveM y a k).1 := by
  rcases serve_cases fa hk with e | ⟨p, hp, e⟩ | ⟨p, o, hp, ho, e⟩
  · rw [e]
    refine ⟨by show distL a a ≤ 2; rw [dist_self]; omega, ?_⟩
    show a.sum = a.sum - 0
    omega
  · rw [e]
    have hp' : p < a.length := by rw [fa.1]; exact hp
    refine ⟨by show distL a (add a p (-1)) ≤ 2; rw [dist_sub hp']; omega, ?_⟩
    show (add a p (-1)).sum = a.sum - 1
    rw [sum_add hp']
    omega
  · rw [e]
    have hp' : p < a.length := by rw [fa.1]; exact hp
    have ho' : o < (add a p (-1)).length := by rw [add_len, fa.1]; exact ho
    refine ⟨?_, ?_⟩
    · show distL a (add (add a p (-1)) o 1) ≤ 2
      have t := dist_tri (a := a) (b := add a p (-1)) (c := add (add a p (-1)) o 1) (by rw [add_len]) (by rw [add_len (add a p (-1))])
      rw [dist_sub hp', (dist_add ho').1] at t
      exact t
    · show (add (add a p (-1)) o 1).sum = a.sum - 0
      rw [sum_add ho', sum_add hp']
      omega
/-- one ask: no farther, by four at most, by an odd number just where one world alone has a thing carried off -/
theorem falls_one {y : List Rm} {a b : List Int} {k : Ask} (fa : Fine y a) (fb : Fine y b) (hk : AskOk y.length k) : distL (serveM y a k).2 (serveM y b k).2 ≤ distL a b ∧ distL a b - distL (serveM y a k).2 (serveM y b k).2 ≤ 4 ∧
    (distL a b - distL (serveM y a k).2 (serveM y b k).2) % 2 = (offR (serveM y a k).1 + offR (serveM y b k).1) % 2 := by
  have hab : a.length = b.length := by rw [fa.1, fb.1]
  obtain ⟨m1, s1⟩ := serve_moves fa hk
  obtain ⟨m2, s2⟩ := serve_moves fb hk
  have g : distL (goM y a [k]).2 (goM y b [k]).2 ≤ distL a b := dist_go (fun x hx => by rw [List.mem_singleton.1 hx]; exact hk) fa fb
  have ga : (goM y a [k]).2 = (serveM y a k).2 := rfl
  have gb : (goM y b [k]).2 = (serveM y b k).2 := rfl
  rw [ga, gb] at g
  have la : (serveM y a k).2.length = a.length := by
    rw [← ga, (fine_go fa (d := [k]) (fun x hx => by rw [List.mem_singleton.1 hx]; exact hk)).1, fa.1]
  have lb : (serveM y b k).2.length = b.length := by
    rw [← gb, (fine_go fb (d := [k]) (fun x hx => by rw [List.mem_singleton.1 hx]; exact hk)).1, fb.1]
  have t1 := dist_tri (a := a) (b := (serveM y a k).2) (c := b) la.symm (by rw [la, hab])
  have t2 := dist_tri (a := (serveM y a k).2) (b := (serveM y b k).2) (c := b) (by rw [la, lb, hab]) lb
  rw [dist_sym (serveM y b k).2 b] at t2
  obtain ⟨u, eu⟩ := dist_par hab
  obtain ⟨v, ev⟩ := dist_par (a := (serveM y a k).2) (b := (serveM y b k).2) (by rw [la, lb, hab])
  refine ⟨g, by omega, ?_⟩
  rw [eu, ev, s1, s2]
  omega
/-- three standings are apart as three points are, together by an even number -/
theorem three_even {a b c : List Int} (h1 : a.length = b.length) (h2 : b.length = c.length) : (distL a b + distL b c + distL a c) % 2 = 0 := by
  obtain ⟨u, eu⟩ := dist_par h1
  obtain ⟨v, ev⟩ := dist_par h2
  obtain ⟨w, ew⟩ := dist_par (h1.trans h2)
  omega
theorem perm_three {x y z one two three : Int} (h : [one, two, three].Perm [x, y, z]) : one + two + three = x + y + z ∧ ((three = z ∧ one + two = x + y) ∨ (three = x ∧ one + two = y + z) ∨ (three = y ∧ one + two = x + z)) := by
  have hs := h.foldl_eq' (f := fun (u v : Int) => u + v) (fun x _ y _ z => by show z + x + y = z + y + x; omega) 0
  simp only [List.foldl_cons, List.foldl_nil] at hs
  have hm : three ∈ [x, y, z] := h.mem_iff.1 (by simp)
  simp only [List.mem_cons, List.not_mem_nil, or_false] at hm
  refine ⟨by omega, ?_⟩
  rcases hm with e | e | e
  · exact .inr (.inl ⟨e, by omega⟩)
  · exact .inr (.inr ⟨e, by omega⟩)
  · exact .inl ⟨e, by omega⟩
/-- where the distance is none first -/
def metM (y : List Rm) (s t : List Int) (d : List Ask) : Option Nat := (farL y s t d).findIdx? (· == 0)
theorem far_zero {y : List Rm} {s t : List Int} {d : List Ask} (fs : Fine y s) (ft : Fine y t) (hd : ∀ a ∈ d, AskOk y.length a) {m n : Nat} (h : m ≤ n) (hn : n < d.length + 1) (e : (farL y s t d)[m]? = some 0) : (farL y s t d)[n]? = some 0 := by
  rw [far_get y s t d (by omega)] at e
  have e0 : distL (goM y s (d.take m)).2 (goM y t (d.take m)).2 = 0 := Option.some.inj e
  rw [far_get y s t d hn]
  have hm : ∀ a ∈ d.take m, AskOk y.length a := fun a ha => hd a (List.mem_of_mem_take ha)
  have f1 := fine_go fs hm
  have f2 := fine_go ft hm
  have eq := dist_zero (by rw [f1.1, f2.1]) e0
  have cut : d.take n = d.take m ++ (d.take n).drop m := by
    have := List.take_append_drop m (d.take n)
    rw [List.take_take, Nat.min_eq_left h] at this
    exact this.symm
  rw [cut, go_app, go_app]
  simp only [eq]
  rw [dist_self]
theorem log_get {y : List Rm} {s : List Int} {d : List Ask} {i : Nat} {a : Ask} (h : d[i]? = some a) : (goM y s d).1[i]? = some (serveM y (goM y s (d.take i)).2 a).1 := by
  obtain ⟨hi, e⟩ := List.getElem?_eq_some_iff.1 h
  have cut : d = d.take i ++ (a :: d.drop (i + 1)) := by
    have h1 := List.take_append_drop i d
    rw [List.drop_eq_getElem_cons hi, e] at h1
    exact h1.symm
  have ht : (d.take i).length = i := by rw [List.length_take]; omega
  have e2 : (goM y s d).1 = (goM y s (d.take i)).1 ++ (goM y (goM y s (d.take i)).2 (a :: d.drop (i + 1))).1 := by
    have h3 : (goM y s (d.take i ++ (a :: d.drop (i + 1)))).1 = (goM y s (d.take i)).1 ++ (goM y (goM y s (d.take i)).2 (a :: d.drop (i + 1))).1 := by rw [go_app]
    rw [← cut] at h3
    exact h3
  rw [e2, List.getElem?_append_right (by rw [goM_len, ht]; omega), goM_len, ht, Nat.sub_self]
  rfl
def offRowD : PyData → PyData
  | .tuple [_, .none] => .bool true
  | _ => .bool false
theorem offR_b (r : Row) : offR r = if offB r = true then 1 else 0 := by
  rcases r with _ | ⟨p, _ | o⟩ <;> rfl
theorem offRowD_enc (r : Row) : offRowD (encRow r) = .bool (offB r) := by
  rcases r with _ | ⟨p, _ | o⟩ <;> rfl
theorem ints_eqv (l : List Int) : PyData.eqv (.list (l.map .int)) (.list (l.map .int)) = true := by
  refine eqv_self _ ?_
  have := (lay_ints l).1
  simpa [PyData.canLay0] using this
theorem ints_small (l : List Int) : Small (.list (l.map .int)) := by
  obtain ⟨l1, l2⟩ := lay_ints l
  have l3 : (PyData.list (l.map .int)).canLay0 = true := by simpa [PyData.canLay0] using l1
  show ((PyData.list (l.map .int)).canLay0 && decide ((PyData.list (l.map .int)).depth ≤ 64)) = true
  rw [l3, Bool.true_and, decide_eq_true_eq]
  simp only [PyData.depth, l2]
  omega
theorem rep_ints (n : Nat) (i : Int) : (List.replicate n [PyData.int i]).flatten = (List.replicate n i).map .int := by
  induction n with
  | zero => rfl
  | succ n ih => rw [List.replicate_succ, List.replicate_succ, List.flatten_cons, List.map_cons, ih]; rfl
theorem met_none {y : List Rm} {s t : List Int} {d : List Ask} (h : metM y s t d = none) : (0 : Int) ∉ farL y s t d := fun z => by
  have := List.findIdx?_eq_none_iff.1 h 0 z
  simp at this
theorem met_some {y : List Rm} {s t : List Int} {d : List Ask} (fs : Fine y s) (ft : Fine y t) (hd : ∀ a ∈ d, AskOk y.length a) {n : Nat} (h : metM y s t d = some n) : n < d.length + 1 ∧ (0 : Int) ∉ (farL y s t d).take n ∧ (farL y s t d).drop n = List.replicate (d.length + 1 - n) 0 := by
  obtain ⟨hn, h0, hlt⟩ := List.findIdx?_eq_some_iff_getElem.1 h
  have hl := farL_len y s t d
  have hn' : n < d.length + 1 := by omega
  refine ⟨hn', fun z => ?_, ?_⟩
  · obtain ⟨m, hm, e⟩ := List.getElem_of_mem z
    rw [List.length_take] at hm
    have := hlt m (by omega)
    rw [List.getElem_take] at e
    rw [e] at this
    simp at this
  · have e0 : (farL y s t d)[n]? = some 0 := by
      rw [List.getElem?_eq_getElem hn]
      congr 1
      simpa using h0
    refine List.eq_replicate_iff.2 ⟨by rw [List.length_drop, hl], fun x hx => ?_⟩
    obtain ⟨m, hm, e⟩ := List.getElem_of_mem hx
    rw [List.length_drop, hl] at hm
    rw [List.getElem_drop] at e
    have := far_zero fs ft hd (m := n) (n := n + m) (by omega) (by omega) e0
    rw [List.getElem?_eq_getElem (by omega)] at this
    rw [← e]
    exact Option.some.inj this
/-- one thing fewer at a place, where one lies -/
def nearL (s : List Int) (p : Nat) : List Int := s.set p (if 0 < s.getD p 0 - 1 then s.getD p 0 - 1 else 0)
theorem near_cut {s : List Int} {p : Nat} (hp : p < s.length) : s.take p ++ ((if 0 < s.getD p 0 - 1 then s.getD p 0 - 1 else 0) :: s.drop (p + 1)) = nearL s p := by
  unfold nearL
  rw [List.set_eq_take_append_cons_drop, if_pos hp]
theorem near_fine {y : List Rm} {s : List Int} {p : Nat} (f : Fine y s) (hp : p < y.length) : Fine y (nearL s p) := by
  have hp' : p < s.length := by rw [f.1]; exact hp
  refine ⟨by unfold nearL; rw [List.length_set]; exact f.1, fun q hq => ?_⟩
  have fq := f.2 q hq
  by_cases e : p = q
  · subst e
    have e1 : (nearL s p).getD p 0 = if 0 < s.getD p 0 - 1 then s.getD p 0 - 1 else 0 := by
      unfold nearL
      rw [List.getD_eq_getElem?_getD, List.getElem?_set_self hp']
      rfl
    rw [e1]
    refine ⟨by split <;> omega, fun i hi => ?_⟩
    have := fq.2 i hi
    have := fq.1
    split <;> omega
  · have e1 : (nearL s p).getD q 0 = s.getD q 0 := by
      unfold nearL
      rw [List.getD_eq_getElem?_getD, List.getElem?_set_ne e, ← List.getD_eq_getElem?_getD]
    rw [e1]
    exact fq
theorem day_rep {n : Nat} {d : List Ask} (h : ∀ a ∈ d, AskOk n a) {k m : Nat} (hl : d.length ≤ m) (hk : k * m ≤ 200) : DayOk n (List.replicate k d).flatten := by
  refine ⟨?_, fun a ha => ?_⟩
  · rw [List.length_flatten, List.map_replicate, List.sum_replicate_nat]
    exact Nat.le_trans (Nat.mul_le_mul_left k hl) hk
  · obtain ⟨l, hl, ha⟩ := List.mem_flatten.1 ha
    rw [List.eq_of_mem_replicate hl] at ha
    exact h a ha
theorem rep_map {α β : Type} (f : α → β) (k : Nat) (d : List α) : (List.replicate k (d.map f)).flatten = ((List.replicate k d).flatten).map f := by
  rw [List.map_flatten, List.map_replicate]
end Kb
namespace Kb
open PySem PySem.Spec PyProof.Rows L2
theorem momsM_at (y : List Rm) : ∀ (d : List Ask) (s : List Int) (n : Nat), n ≤ d.length → (momsM y s d)[n]? = some (goM y s (d.take n)).2
  | [], s, 0, _ => rfl
  | [], _, _ + 1, h => by simp at h
  | _ :: _, _, 0, _ => rfl
  | a :: d, s, n + 1, h => by
    show (momsM y (serveM y s a).2 d)[n]? = _
    rw [momsM_at y d _ n (by simpa using h)]
    rfl
theorem momsM_len (y : List Rm) (s : List Int) (d : List Ask) : (momsM y s d).length = d.length + 1 := by
  show (momsT y s d).length + 1 = _
  rw [momsT_len]
theorem dist_app : ∀ {a b c d : List Int}, a.length = b.length → distL (a ++ c) (b ++ d) = distL a b + distL c d
  | [], [], c, d, _ => by show distL c d = 0 + distL c d; omega
  | [], _ :: _, _, _, h => by simp at h
  | _ :: _, [], _, _, h => by simp at h
  | x :: a, z :: b, c, d, h => by
    show absI (x - z) + distL (a ++ c) (b ++ d) = absI (x - z) + distL a b + distL c d
    rw [dist_app (by simpa using h)]
    omega
theorem dist_take {a b : List Int} {n : Nat} (h : a.length = b.length) (hn : n < a.length) : distL (a.take (n + 1)) (b.take (n + 1)) = distL (a.take n) (b.take n) + absI (a.getD n 0 - b.getD n 0) := by
  have hb : n < b.length := by omega
  rw [List.take_succ, List.take_succ, List.getElem?_eq_getElem hn, List.getElem?_eq_getElem hb]
  rw [dist_app (by rw [List.length_take, List.length_take]; omega), getD_some (List.getElem?_eq_getElem hn), getD_some (List.getElem?_eq_getElem hb)]
  show _ + (absI (a[n] - b[n]) + 0) = _
  omega
theorem far_sym (y : List Rm) (s t : List Int) (d : List Ask) : farL y t s d = farL y s t d := by
  unfold farL
  exact List.map_congr_left fun n _ => dist_sym _ _
theorem met_sym (y : List Rm) (s t : List Int) (d : List Ask) : metM y t s d = metM y s t d := by
  unfold metM
  rw [far_sym]
theorem dist_bound {K : Int} : ∀ {a b : List Int}, (∀ x ∈ a, 0 ≤ x ∧ x ≤ K) → (∀ x ∈ b, 0 ≤ x ∧ x ≤ K) → 0 ≤ K → distL a b ≤ a.length * K
  | [], [], _, _, h => by show (0 : Int) ≤ 0 * K; omega
  | [], _ :: _, _, _, h => by show (0 : Int) ≤ 0 * K; omega
  | x :: a, [], _, _, h => by
    show (0 : Int) ≤ ((a.length + 1 : Nat) : Int) * K
    exact Int.mul_nonneg (by omega) h
  | x :: a, z :: b, ha, hb, h => by
    have ih := dist_bound (fun u hu => ha u (List.mem_cons_of_mem _ hu)) (fun u hu => hb u (List.mem_cons_of_mem _ hu)) h
    have h1 := ha x List.mem_cons_self
    have h2 := hb z List.mem_cons_self
    show absI (x - z) + distL a b ≤ ((a.length + 1 : Nat) : Int) * K
    have e : ((a.length + 1 : Nat) : Int) * K = a.length * K + K := by
      rw [show ((a.length + 1 : Nat) : Int) = (a.length : Int) + 1 by omega, Int.add_mul, Int.one_mul]
    rw [e]
    unfold absI
    split <;> omega
theorem upto_mem {y : List Rm} {K : Int} {s : List Int} (f : Fine y s) (h : Upto K s) : ∀ x ∈ s, 0 ≤ x ∧ x ≤ K := fun x hx => by
  obtain ⟨p, hp, rfl⟩ := List.getElem_of_mem hx
  have e := getD_some (d := (0 : Int)) (List.getElem?_eq_getElem hp)
  have h1 := (f.2 p (by rw [← f.1]; exact hp)).1
  have h2 := h p hp
  rw [e] at h1 h2
  exact ⟨h1, h2⟩
theorem far_small {y : List Rm} {s t : List Int} {d : List Ask} (h9 : y.length ≤ 9) (fs : Fine y s) (ft : Fine y t) (us : Upto 1000000000000 s) (ut : Upto 1000000000000 t) (hd : ∀ a ∈ d, AskOk y.length a) : (∀ x ∈ farL y s t d, x.natAbs < 10 ^ 18) ∧ (distL s t).natAbs < 10 ^ 18 := by
  have b := dist_bound (upto_mem fs us) (upto_mem ft ut) (by decide)
  have hl : s.length ≤ 9 := by rw [fs.1]; exact h9
  have b2 : distL s t ≤ 9 * 1000000000000 := by
    have : ((s.length : Nat) : Int) * 1000000000000 ≤ 9 * 1000000000000 := by omega
    omega
  have n0 := dist_nonneg s t
  refine ⟨fun x hx => ?_, by omega⟩
  unfold farL at hx
  obtain ⟨n, _, rfl⟩ := List.mem_map.1 hx
  have g := dist_go (d := d.take n) (fun a ha => hd a (List.mem_of_mem_take ha)) fs ft
  have n1 := dist_nonneg (goM y s (d.take n)).2 (goM y t (d.take n)).2
  omega
theorem nice_ints {l : List Int} (hl : l.length ≤ 201) (h : ∀ x ∈ l, x.natAbs < 10 ^ 18) : Nice 12300 1 (.list (l.map .int)) := nice_list (w := 60) (k := 0) (fun x hx => by
  obtain ⟨i, hi, rfl⟩ := List.mem_map.1 hx
  exact nice_int (h i hi)) (by rw [List.length_map]; omega)
def zeroD (F : List Int) : PyData → Bool
  | .int i => F.getD i.toNat 0 == 0
  | _ => false
theorem zero_first (F : List Int) : (((intsD F.length).filter (zeroD F)).map (fun d => d) ++ [PyData.none])[0]? = some (match F.findIdx? (· == 0) with | none => PyData.none | some n => .int (n : Int)) := by
  rw [List.map_id']
  have e1 : intsD F.length = (List.range F.length).map fun (n : Nat) => PyData.int (n : Int) := rfl
  have e2 : (intsD F.length).filter (zeroD F) = ((List.range F.length).filter fun n => F.getD n 0 == 0).map fun (n : Nat) => PyData.int (n : Int) := by
    rw [e1, List.filter_map]
    rfl
  rw [e2]
  cases hf : F.findIdx? (· == 0) with
  | none =>
    have : (List.range F.length).filter (fun n => F.getD n 0 == 0) = [] := by
      rw [List.filter_eq_nil_iff]
      intro n hn
      have hn' := List.mem_range.1 hn
      have := List.findIdx?_eq_none_iff.1 hf F[n] (List.getElem_mem hn')
      rw [getD_some (List.getElem?_eq_getElem hn')]
      simpa using this
    rw [this]
    rfl
  | some n =>
    obtain ⟨hn, h0, hlt⟩ := List.findIdx?_eq_some_iff_getElem.1 hf
    have hfind : (List.range F.length).find? (fun n => F.getD n 0 == 0) = some n := by
      rw [List.find?_range_eq_some]
      refine ⟨?_, by simpa using hn, fun j hj => ?_⟩
      · rw [getD_some (List.getElem?_eq_getElem hn)]; exact h0
      · have hj' : j < F.length := by omega
        rw [getD_some (List.getElem?_eq_getElem hj')]
        have := hlt j hj
        simpa using this
    have hh := List.head?_filter (p := fun n => F.getD n 0 == 0) (l := List.range F.length)
    rw [hfind] at hh
    cases hl : (List.range F.length).filter (fun n => F.getD n 0 == 0) with
    | nil => rw [hl] at hh; cases hh
    | cons m r =>
      rw [hl] at hh
      cases hh
      rfl
theorem near_upto {s : List Int} {p : Nat} {K : Int} (h0 : 0 ≤ K) (h : Upto K s) : Upto K (nearL s p) := fun q hq => by
  unfold nearL at hq ⊢
  rw [List.length_set] at hq
  have hs := h q hq
  by_cases e : p = q
  · subst e
    rw [List.getD_eq_getElem?_getD, List.getElem?_set_self hq]
    show (if 0 < s.getD p 0 - 1 then s.getD p 0 - 1 else 0) ≤ K
    split <;> omega
  · rw [List.getD_eq_getElem?_getD, List.getElem?_set_ne e, ← List.getD_eq_getElem?_getD]
    exact hs
theorem none_get (n q : Nat) : (List.replicate n (0 : Int)).getD q 0 = 0 := by
  rw [List.getD_eq_getElem?_getD]
  by_cases h : q < n
  · rw [List.getElem?_replicate_of_lt h]; rfl
  · rw [List.getElem?_eq_none (by rw [List.length_replicate]; omega)]; rfl
theorem none_fine {y : List Rm} (hy : YardOk y) : Fine y (List.replicate y.length (0 : Int)) := by
  refine ⟨List.length_replicate, fun q hq => ?_⟩
  rw [none_get]
  refine ⟨Int.le_refl 0, fun i hi => ?_⟩
  refine hy.2.2 _ ?_ i hi
  rw [getD_some (List.getElem?_eq_getElem hq)]
  exact List.getElem_mem hq
theorem none_upto (n : Nat) {K : Int} (h : 0 ≤ K) : Upto K (List.replicate n (0 : Int)) := fun q _ => by rw [none_get]; exact h
end Kb
namespace Kb
open PySem PySem.Spec PyProof.Rows L2
/-! ### who of some asks goes without first -/
def RiseOk (n : Nat) (few : List Nat) : Prop := few.Pairwise (fun i j => i < j) ∧ ∀ k ∈ few, k < n
/-- whether ask number k is served -/
def getsB (y : List Rm) (s : List Int) (d : List Ask) (k : Nat) : Bool := ((goM y s d).1.getD k none).isSome
def firstW (y : List Rm) (s : List Int) (d : List Ask) (few : List Nat) : Option Nat := few.find? fun k => !getsB y s d k
theorem gets_at {y : List Rm} {s : List Int} {d : List Ask} {k : Nat} (h : k < d.length) : getsB y s d k = (serveM y (goM y s (d.take k)).2 d[k]).1.isSome := by
  unfold getsB
  rw [getD_some (log_get (List.getElem?_eq_getElem h))]
theorem firstW_cons (y : List Rm) (s : List Int) (d : List Ask) (k : Nat) (few : List Nat) : firstW y s d (k :: few) = if getsB y s d k = true then firstW y s d few else some k := by
  unfold firstW
  rw [List.find?_cons]
  cases getsB y s d k <;> rfl
/-- the day from one ask on up to another one, gone on -/
theorem go_part (y : List Rm) (s : List Int) (d : List Ask) {i j : Nat} (h : i ≤ j) : (goM y (goM y s (d.take i)).2 ((d.take j).drop i)).2 = (goM y s (d.take j)).2 := by
  have cut : d.take j = d.take i ++ (d.take j).drop i := by
    have := List.take_append_drop i (d.take j)
    rw [List.take_take, Nat.min_eq_left h] at this
    exact this.symm
  conv => rhs; rw [cut, go_app]
theorem rise_tail {n k : Nat} {few : List Nat} (h : RiseOk n (k :: few)) : RiseOk n few ∧ k < n ∧ ∀ j ∈ few, k < j :=
  ⟨⟨(List.pairwise_cons.1 h.1).2, fun j hj => h.2 j (List.mem_cons_of_mem _ hj)⟩, h.2 k List.mem_cons_self, (List.pairwise_cons.1 h.1).1⟩
theorem gets_mem {y : List Rm} {s : List Int} {d : List Ask} {k : Nat} : k ∈ servedIx (goM y s d).1 ↔ getsB y s d k = true := by
  unfold getsB servedIx
  rw [List.mem_filter, List.mem_range]
  refine ⟨fun h => h.2, fun h => ⟨?_, h⟩⟩
  by_cases hk : k < (goM y s d).1.length
  · exact hk
  · rw [List.getD_eq_getElem?_getD, List.getElem?_eq_none (by omega)] at h
    cases h
theorem rise_len {n : Nat} : ∀ {few : List Nat} {m : Nat}, few.Pairwise (fun i j => i < j) → (∀ k ∈ few, m ≤ k ∧ k < n) → few.length ≤ n - m
  | [], _, _, _ => Nat.zero_le _
  | k :: r, m, hp, hk => by
    have h1 := hk k List.mem_cons_self
    have ih := rise_len (n := n) (few := r) (m := k + 1) (List.pairwise_cons.1 hp).2 fun j hj => ⟨(List.pairwise_cons.1 hp).1 j hj, (hk j (List.mem_cons_of_mem _ hj)).2⟩
    rw [List.length_cons]
    omega
theorem rise_pairs : ∀ {few : List Nat}, few.Pairwise (fun i j => i < j) → ∀ x ∈ zipD (few.map encN) ((few.map encN).drop 1), ∃ i j : Nat, i < j ∧ x = .tuple [encN i, encN j]
  | [], _, x, hx => by cases hx
  | [_], _, x, hx => by cases hx
  | a :: b :: r, hp, x, hx => by
    have e : zipD ((a :: b :: r).map encN) (((a :: b :: r).map encN).drop 1) = .tuple [encN a, encN b] :: zipD ((b :: r).map encN) (((b :: r).map encN).drop 1) := rfl
    rw [e] at hx
    rcases List.mem_cons.1 hx with h | h
    · exact ⟨a, b, (List.pairwise_cons.1 hp).1 b List.mem_cons_self, h⟩
    · exact rise_pairs (List.pairwise_cons.1 hp).2 x h
end Kb
namespace Kb
open PySem PySem.Spec PyProof.Rows L2
/-! ### loops over things of a kind -/
theorem forGo_pre {α : Type} {g : WG} {S : WS} {D : EndW} (enc : α → PyData) (I : List α → Ev → Prop) : ∀ (post pre : List α) (env : Ev),
    (∀ (p : List α) (x : α) (q : List α), p ++ x :: q = pre ++ post → ∀ (env : Ev) (X : Ev → Prop), I p env → (∀ e, I (p ++ [x]) e → X e) → g (.data (enc x)) env fun e => S { nx := X, ct := X, bk := D.nx, rt := D.rt } e) →
    (∀ env, I (pre ++ post) env → D.nx env) → I pre env → forGo g S D (post.map enc) env
  | [], pre, env, _, hn, h0 => hn env (by rw [List.append_nil]; exact h0)
  | x :: post, pre, env, hs, hn, h0 => by
    refine hs pre x post rfl env _ h0 fun e he => ?_
    have e1 : pre ++ x :: post = (pre ++ [x]) ++ post := by rw [List.append_assoc]; rfl
    exact forGo_pre enc I post (pre ++ [x]) e (fun p y q h => hs p y q (h.trans e1.symm)) (fun env h => hn env (by rw [e1]; exact h)) he
theorem forGo_enc {α : Type} {g : WG} {S : WS} {D : EndW} {env : Ev} (enc : α → PyData) (xs : List α) (I : List α → Ev → Prop) (h0 : I [] env)
    (hs : ∀ (p : List α) (x : α) (q : List α), p ++ x :: q = xs → ∀ (env : Ev) (X : Ev → Prop), I p env → (∀ e, I (p ++ [x]) e → X e) → g (.data (enc x)) env fun e => S { nx := X, ct := X, bk := D.nx, rt := D.rt } e)
    (hn : ∀ env, I xs env → D.nx env) : forGo g S D (xs.map enc) env := forGo_pre enc I xs [] env (fun p x q h => hs p x q h) (fun env h => hn env h) h0
theorem intsD_at {n j : Nat} (hj : j < n) : (intsD n).drop j = .int (j : Int) :: (intsD n).drop (j + 1) := by
  have hl : (intsD n).length = n := by unfold intsD; rw [List.length_map, List.length_range]
  rw [List.drop_eq_getElem_cons (by rw [hl]; exact hj)]
  congr 1
  unfold intsD
  rw [List.getElem_map, List.getElem_range]
theorem intsD_len (n : Nat) : (intsD n).length = n := by unfold intsD; rw [List.length_map, List.length_range]
theorem forGo_rngj {g : WG} {S : WS} {D : EndW} (n : Nat) (I : Nat → Ev → Prop)
    (hs : ∀ i, i < n → ∀ (env : Ev) (X : Ev → Prop), I i env → (∀ e, I (i + 1) e → X e) → g (.data (.int (i : Int))) env fun e => S { nx := X, ct := X, bk := D.nx, rt := D.rt } e)
    (hn : ∀ env, I n env → D.nx env) : ∀ (m j : Nat) (env : Ev), m + j = n → I j env → forGo g S D ((intsD n).drop j) env
  | 0, j, env, e, h0 => by
    have : j = n := by omega
    subst this
    rw [List.drop_of_length_le (by rw [intsD_len]; omega)]
    exact hn env h0
  | m + 1, j, env, e, h0 => by
    rw [intsD_at (by omega)]
    exact hs j (by omega) env _ h0 fun e' he => forGo_rngj n I hs hn m (j + 1) e' (by omega) he
theorem forGo_rng {g : WG} {S : WS} {D : EndW} {env : Ev} (n : Nat) (I : Nat → Ev → Prop) (h0 : I 0 env)
    (hs : ∀ i, i < n → ∀ (env : Ev) (X : Ev → Prop), I i env → (∀ e, I (i + 1) e → X e) → g (.data (.int (i : Int))) env fun e => S { nx := X, ct := X, bk := D.nx, rt := D.rt } e)
    (hn : ∀ env, I n env → D.nx env) : forGo g S D (intsD n) env := forGo_rngj n I hs hn n 0 env rfl h0
theorem compGo_enc {α : Type} {g : WG} {T : WT} {W : WE} {is : List Nat} {Q : List PyData → Ev → Prop} (E : Ev) (enc : α → PyData) (p : α → Bool) (f : α → PyData) : ∀ (xs : List α) (acc : List PyData) (env : Ev), kill env is = E → acc.length + xs.length ≤ lim →
    (∀ d ∈ xs, ∀ (Z : DV → Ev → Prop) (U : Ev → Prop), (p d = true → ∀ (dv : DV) (e : Ev), dv.dat = f d → kill e is = E → ∀ (_ : dv.nd = true := by rfl), Z dv e) → (p d = false → ∀ e, kill e is = E → U e) → g (.data (enc d)) E fun e1 => T e1 fun b e2 => if b = true then W e2 Z else U e2) →
    Q (acc ++ (xs.filter p).map f) E → compGo g T W is Q (xs.map enc) acc env
  | [], acc, env, hE, hl, h, hq => by
    show Q acc (kill env is)
    rw [hE]
    simpa using hq
  | d :: ds, acc, env, hE, hl, h, hq => by
    show g (.data (enc d)) (kill env is) _
    rw [hE]
    rw [List.length_cons] at hl
    refine h d List.mem_cons_self (fun dv e3 => acc.length < lim ∧ dv.nd = true ∧ compGo g T W is Q (ds.map enc) (acc ++ [dv.dat]) e3) (fun e2 => compGo g T W is Q (ds.map enc) acc e2) (fun hp dv e hd he hnd => ⟨by omega, hnd, ?_⟩) (fun hp e he => ?_)
    · refine compGo_enc E enc p f ds _ e he (by rw [List.length_append]; simp only [List.length_cons, List.length_nil]; omega) (fun d' hd' => h d' (List.mem_cons_of_mem _ hd')) ?_
      rw [List.filter_cons, if_pos hp, List.map_cons] at hq
      rw [hd, List.append_assoc]
      exact hq
    · refine compGo_enc E enc p f ds _ e he (by omega) (fun d' hd' => h d' (List.mem_cons_of_mem _ hd')) ?_
      rw [List.filter_cons, if_neg (by rw [hp]; exact Bool.false_ne_true)] at hq
      exact hq
theorem compGo_encm {α : Type} {g : WG} {W : WE} {is : List Nat} {Q : List PyData → Ev → Prop} (E : Ev) (enc : α → PyData) (f : α → PyData) (xs : List α) (acc : List PyData) (env : Ev) (hE : kill env is = E) (hl : acc.length + xs.length ≤ lim)
    (h : ∀ d ∈ xs, ∀ (Z : DV → Ev → Prop), (∀ (dv : DV) (e : Ev), dv.dat = f d → kill e is = E → ∀ (_ : dv.nd = true := by rfl), Z dv e) → g (.data (enc d)) E fun e1 => W e1 Z)
    (hq : Q (acc ++ xs.map f) E) : compGo g tYes' W is Q (xs.map enc) acc env :=
  compGo_enc E enc (fun _ => true) f xs acc env hE hl (fun d hd Z U hZ _ => h d hd Z fun dv e a b c => hZ rfl dv e a b c) (by
    rw [List.filter_eq_self.2 (fun _ _ => rfl)]
    exact hq)
theorem intsD_map (n : Nat) : intsD n = (List.range n).map fun i => .int (i : Int) := rfl
/-- over numbers from nought -/
theorem compGo_rng {g : WG} {T : WT} {W : WE} {is : List Nat} {Q : List PyData → Ev → Prop} (E : Ev) (n : Nat) (p : Nat → Bool) (f : Nat → PyData) (acc : List PyData) (env : Ev) (hE : kill env is = E) (hl : acc.length + n ≤ lim)
    (h : ∀ i, i < n → ∀ (Z : DV → Ev → Prop) (U : Ev → Prop), (p i = true → ∀ (dv : DV) (e : Ev), dv.dat = f i → kill e is = E → ∀ (_ : dv.nd = true := by rfl), Z dv e) → (p i = false → ∀ e, kill e is = E → U e) → g (.data (.int (i : Int))) E fun e1 => T e1 fun b e2 => if b = true then W e2 Z else U e2)
    (hq : Q (acc ++ ((List.range n).filter p).map f) E) : compGo g T W is Q (intsD n) acc env :=
  compGo_enc (α := Nat) E (fun i => .int (i : Int)) p f (List.range n) acc env hE (by rw [List.length_range]; exact hl) (fun i hi => h i (List.mem_range.1 hi)) hq
theorem compGo_rngm {g : WG} {W : WE} {is : List Nat} {Q : List PyData → Ev → Prop} (E : Ev) (n : Nat) (f : Nat → PyData) (acc : List PyData) (env : Ev) (hE : kill env is = E) (hl : acc.length + n ≤ lim)
    (h : ∀ i, i < n → ∀ (Z : DV → Ev → Prop), (∀ (dv : DV) (e : Ev), dv.dat = f i → kill e is = E → ∀ (_ : dv.nd = true := by rfl), Z dv e) → g (.data (.int (i : Int))) E fun e1 => W e1 Z)
    (hq : Q (acc ++ (List.range n).map f) E) : compGo g tYes' W is Q (intsD n) acc env :=
  compGo_encm (α := Nat) E (fun i => .int (i : Int)) f (List.range n) acc env hE (by rw [List.length_range]; exact hl) (fun i hi => h i (List.mem_range.1 hi)) hq
/-- a comprehension that changes the state, over things of a kind: what is told so far and the state, by those gone through -/
theorem compGo_pre {α : Type} {g : WG} {T : WT} {W : WE} {is : List Nat} {Q : List PyData → Ev → Prop} (enc : α → PyData) (I : List α → List PyData → Ev → Prop) : ∀ (post pre : List α) (acc : List PyData) (env : Ev), I pre acc (kill env is) → acc.length + post.length ≤ lim →
    (∀ (p : List α) (x : α) (q : List α), p ++ x :: q = pre ++ post → ∀ (acc : List PyData) (env : Ev) (Z : DV → Ev → Prop) (U : Ev → Prop), I p acc env → (∀ (dv : DV) (e : Ev), I (p ++ [x]) (acc ++ [dv.dat]) (kill e is) → ∀ (_ : dv.nd = true := by rfl), Z dv e) → (∀ e, I (p ++ [x]) acc (kill e is) → U e) → g (.data (enc x)) env fun e1 => T e1 fun b e2 => if b = true then W e2 Z else U e2) →
    (∀ acc env, I (pre ++ post) acc env → Q acc env) → compGo g T W is Q (post.map enc) acc env
  | [], pre, acc, env, hI, hl, h, hq => hq acc _ (by rw [List.append_nil]; exact hI)
  | x :: post, pre, acc, env, hI, hl, h, hq => by
    rw [List.length_cons] at hl
    have e1 : pre ++ x :: post = (pre ++ [x]) ++ post := by rw [List.append_assoc]; rfl
    refine h pre x post rfl acc (kill env is) (fun dv e3 => acc.length < lim ∧ dv.nd = true ∧ compGo g T W is Q (post.map enc) (acc ++ [dv.dat]) e3) (fun e2 => compGo g T W is Q (post.map enc) acc e2) hI (fun dv e he hnd => ⟨by omega, hnd, ?_⟩) (fun e he => ?_)
    · exact compGo_pre enc I post (pre ++ [x]) _ e he (by rw [List.length_append]; simp only [List.length_cons, List.length_nil]; omega) (fun p y q hh => h p y q (hh.trans e1.symm)) (fun a b c => hq a b (by rw [e1]; exact c))
    · exact compGo_pre enc I post (pre ++ [x]) _ e he (by omega) (fun p y q hh => h p y q (hh.trans e1.symm)) (fun a b c => hq a b (by rw [e1]; exact c))
theorem compGo_encs {α : Type} {g : WG} {T : WT} {W : WE} {is : List Nat} {Q : List PyData → Ev → Prop} {env : Ev} (enc : α → PyData) (xs : List α) (I : List α → List PyData → Ev → Prop) (hI : I [] [] (kill env is)) (hl : xs.length ≤ lim)
    (h : ∀ (p : List α) (x : α) (q : List α), p ++ x :: q = xs → ∀ (acc : List PyData) (env : Ev) (Z : DV → Ev → Prop) (U : Ev → Prop), I p acc env → (∀ (dv : DV) (e : Ev), I (p ++ [x]) (acc ++ [dv.dat]) (kill e is) → ∀ (_ : dv.nd = true := by rfl), Z dv e) → (∀ e, I (p ++ [x]) acc (kill e is) → U e) → g (.data (enc x)) env fun e1 => T e1 fun b e2 => if b = true then W e2 Z else U e2)
    (hq : ∀ acc env, I xs acc env → Q acc env) : compGo g T W is Q (xs.map enc) [] env :=
  compGo_pre enc I xs [] [] env hI (by simpa using hl) (fun p x q hh => h p x q hh) hq
theorem compGo_rngs {g : WG} {T : WT} {W : WE} {is : List Nat} {Q : List PyData → Ev → Prop} {env : Ev} (n : Nat) (I : Nat → List PyData → Ev → Prop) (hI : I 0 [] (kill env is)) (hl : n ≤ lim)
    (h : ∀ i, i < n → ∀ (acc : List PyData) (env : Ev) (Z : DV → Ev → Prop) (U : Ev → Prop), I i acc env → (∀ (dv : DV) (e : Ev), I (i + 1) (acc ++ [dv.dat]) (kill e is) → ∀ (_ : dv.nd = true := by rfl), Z dv e) → (∀ e, I (i + 1) acc (kill e is) → U e) → g (.data (.int (i : Int))) env fun e1 => T e1 fun b e2 => if b = true then W e2 Z else U e2)
    (hq : ∀ acc env, I n acc env → Q acc env) : compGo g T W is Q (intsD n) [] env := by
  refine compGo_encs (α := Nat) (fun i => .int (i : Int)) (List.range n) (fun p acc e => I p.length acc e) hI (by rw [List.length_range]; exact hl) (fun p x q hh acc env Z U hi hZ hU => ?_) (fun acc env hi => hq acc env (by rw [List.length_range] at hi; exact hi))
  have hx : x = p.length ∧ p.length < n := by
    have e1 := congrArg (fun l => l[p.length]?) hh
    simp only [List.getElem?_append_right (Nat.le_refl _), Nat.sub_self, List.getElem?_cons_zero] at e1
    have hl : p.length < n := by
      have := congrArg List.length hh
      rw [List.length_append, List.length_cons, List.length_range] at this
      omega
    rw [List.getElem?_range hl] at e1
    exact ⟨Option.some.inj e1, hl⟩
  obtain ⟨rfl, hlt⟩ := hx
  exact h _ hlt acc env Z U hi (fun dv e he hnd => hZ dv e (by rw [List.length_append]; exact he) hnd) (fun e he => hU e (by rw [List.length_append]; exact he))
/-! ### branches -/
theorem ifT {c : Prop} [Decidable c] {A B : Prop} (h1 : c → A) (h2 : ¬ c → B) : if decide c = true then A else B := by
  by_cases h : c
  · rw [if_pos (by simpa using h)]; exact h1 h
  · rw [if_neg (by simpa using h)]; exact h2 h
theorem ifF {c : Prop} [Decidable c] {A B : Prop} (h1 : ¬ c → A) (h2 : c → B) : if (!decide c) = true then A else B := by
  by_cases h : c
  · rw [if_neg (by simp [h])]; exact h2 h
  · rw [if_pos (by simp [h])]; exact h1 h
theorem ifB {b : Bool} {A B : Prop} (h1 : b = true → A) (h2 : b = false → B) : if b = true then A else B := by
  cases b
  · rw [if_neg (by simp)]; exact h2 rfl
  · rw [if_pos rfl]; exact h1 rfl
theorem ifN {b : Bool} {A B : Prop} (h1 : b = false → A) (h2 : b = true → B) : if (!b) = true then A else B := by
  cases b
  · simp only [Bool.not_false, if_true]; exact h1 rfl
  · simp only [Bool.not_true, Bool.false_eq_true, if_false]; exact h2 rfl
theorem boolsOf_mapf {α : Type} (b : α → Bool) : ∀ xs : List α, boolsOf (xs.map fun x => .bool (b x)) = some (xs.map b)
  | [] => rfl
  | x :: xs => by
    show (match boolsOf (xs.map fun x => .bool (b x)) with | some l => some (b x :: l) | none => none) = _
    rw [boolsOf_mapf b xs]
    rfl
theorem intsOf_mapf {α : Type} (b : α → Int) : ∀ xs : List α, intsOf (xs.map fun x => .int (b x)) = some (xs.map b)
  | [] => rfl
  | x :: xs => by
    show (match intsOf (xs.map fun x => .int (b x)) with | some l => some (b x :: l) | none => none) = _
    rw [intsOf_mapf b xs]
    rfl
theorem all_id {α : Type} (b : α → Bool) (xs : List α) : (xs.map b).all (fun b => b) = xs.all b := by
  rw [List.all_map]; rfl
theorem any_id {α : Type} (b : α → Bool) (xs : List α) : (xs.map b).any (fun b => b) = xs.any b := by
  rw [List.any_map]; rfl
theorem ofNat_nat (n : Nat) : Int.toNat (n : Int) = n := Int.toNat_natCast n
end Kb
namespace Kb
open PySem PySem.Spec PyProof.Rows L2
/-! ### how many are in a set that a comprehension makes, of numbers -/
section
variable {X : Cx}
/-- a number goes into the set -/
theorem putI_ok {pins : List (Addr × Obj)} {σ : L2.St} {H : Hp} {s : Shared} {E : Value → Shared → Prop} {A0 : Addr} {S : Int → Bool} {n : Nat} {y : Int} {tk : Tok} {Q : Value → Shared → Prop} (J : Inv X pins σ H s) (hA : H A0 = some (SetO X.w A0 S n)) (few : n + 1 < scanBound)
    (nxt : ∀ s', Inv X pins σ (upd H A0 (SetO X.w A0 (fun j => S j || decide (j = y)) (if S y = true then n else n + 1))) s' → Q .none s') : wpAny (model X.prog X.w) X.A (call (.builtin "set.add") [.ref A0, .int y tk]) Q E s :=
  setR_add (setO_get J hA) few fun h2 beside made => by
    obtain ⟨o, a1, a2, a3, ho, a4⟩ := id made
    exact nxt _ (J.write (e := A0) (t' := s.toks + 1) (by rw [hA]; trivial) (.inl rfl) (fun b u q r => (beside.2 b q).trans r) ⟨o, ho⟩ (setO_new made))
/-- {elt for target in iter if ..}, elt a number: what is asked -/
def tSi (w : World) (wi : TI) (g : TG) (tt : TT) (te : TE) (vs : List Nat) (QD : Addr → Hp → Prop) : L2.St → Hp → Prop := fun σ H => wi σ H fun J H1 => ∀ D, H1 D = none → ∃ M : Nat → Nat → Hp → Prop, (∃ m, M 0 m (upd H1 D (SetO w D (fun _ => false) 0))) ∧ ∀ i m H, M i m H →
  (J.stop i H ∧ QD D H) ∨ (J.go i H ∧ ∃ Nx : Hp → Prop, (∀ H', Nx H' → ∃ m', m' < m ∧ M (i + 1) m' H') ∧ ∀ x H', J.yld i H x H' → g x (wipe σ vs) H' fun σ2 H2 => wipe σ2 vs = wipe σ vs ∧ tt σ2 H2 fun b H3 =>
    if b = true then te σ2 H3 fun y H4 => ∃ (c : Int) (S : Int → Bool) (n : Nat), y = .int c ∧ H4 D = some (SetO w D S n) ∧ n + 1 < scanBound ∧ Nx (upd H4 D (SetO w D (fun j => S j || decide (j = c)) (if S c = true then n else n + 1))) else Nx H3)
theorem si_core {pins : List (Addr × Obj)} {s : Shared} {σ : L2.St} {H : Hp} {elt tg iter : Expr} {ifs : List Expr} {scope : Scope} {own : List (PySem.Str × Nat)} {pos pos' : Pos} {wi : TI} {g : TG} {tt : TT} {te : TE} {QD : Addr → Hp → Prop} {use : Option (Value → Sem Unit)} {Qf : Value → Shared → Prop}
    (hcalm : X.calm = true) (hnd : X.N.Nodup) (J0 : Inv X pins σ H s) (hiter : PI X tg iter wi) (okB : BlkOk X.N X.env.scope scope own)
    (htg : ∀ (s : Shared) (H : Hp) (C : Addr) (cl : List (PySem.Str × Addr)) (fp : List Addr), PG (X.blk s H scope (compEnvC scope cl C X.env) fp) tg g)
    (hif : ∀ (s : Shared) (H : Hp) (C : Addr) (cl : List (PySem.Str × Addr)) (fp : List Addr), PTs (X.blk s H scope (compEnvC scope cl C X.env) fp) ifs tt)
    (helt : ∀ (s : Shared) (H : Hp) (C : Addr) (cl : List (PySem.Str × Addr)) (fp : List Addr), PE (X.blk s H scope (compEnvC scope cl C X.env) fp) elt te)
    (hfold : ∀ x, foldedSetIterable iter X.env x = pure x)
    (hask : tSi X.w wi g tt te (own.map (·.2)) QD σ H)
    (hend : ∀ D C s' m H', Inv X pins σ H' s' → QD D H' → s'.heap.Ns C m → FpOk X pins H' C → compPost (model X.prog X.w) X.A X.xe use Qf (.ref D) C (.ok .next) s') :
    wpAny (model X.prog X.w) X.A (comprehension (.SetComp elt [⟨tg, iter, ifs, 0⟩] scope pos) scope X.env pos' (newSet (.type "set")) false (eval iter X.env) use) Qf X.xe s := by
  have frees : ∀ y ∈ scope.names, y.2 = .free → ∃ c, X.env.cells.lookup y.1 = some c := by
    intro y hy e
    cases okB.free y hy e with
    | inl k => exact J0.ok.has _ (.inl k)
    | inr k => exact J0.ok.has _ (.inr k)
  refine wpAny_comprehension_free (use := use) rfl hfold (closure_ok frees) okB.kind (fun y hy e => by rw [okB.uniq y hy, e]) ?_
  refine thn (hiter.run pins s σ H _ J0 hask) fun xv s1 hx => thn hx fun itv s2 h2 => ?_
  obtain ⟨it, fp, tn, J, H2, rfl, I2, T, stt, ff, asks⟩ := h2
  refine PpSet.newSet_ok (newEnv_comp ?_)
  generalize eA : s2.heap.objs.size = A0
  have free0 : H2 A0 = none := I2.hok.fresh (Nat.le_of_eq eA)
  obtain ⟨M, ⟨m0, M0⟩, turns⟩ := asks A0 free0
  generalize es3 : ({ s2 with heap := s2.heap.push { cls := .type "set", dict := none, data := .set #[] 0 (.fresh 0 0 (!X.w.params.followText "set-order")) } } : Shared) = s3
  have hp3 : s3.heap = s2.heap.push { cls := .type "set", dict := none, data := .set #[] 0 (.fresh 0 0 (!X.w.params.followText "set-order")) } := by rw [← es3]
  have I3 : Inv X pins σ (upd H2 A0 (SetO X.w A0 (fun _ => false) 0)) s3 := by
    subst es3
    refine I2.laid (t' := s2.toks) (fun b o q => Heap.get?_push_of_some _ q) (Nat.le_of_eq eA) ?_
    subst eA
    exact setO_new (setR_fresh X.w)
  have small : ∀ b ∈ fp, b < s2.heap.objs.size := by
    intro b hb
    obtain ⟨o, e, _⟩ := T.obj _ _ stt b hb
    exact Heap.lt_size e
  have ff3 : ∀ b ∈ fp, FpOk X pins (upd H2 A0 (SetO X.w A0 (fun _ => false) 0)) b ∧ b < s3.heap.objs.size := by
    intro b hb
    have lt := small b hb
    have ne : b ≠ A0 := by rw [← eA]; exact Nat.ne_of_lt lt
    exact ⟨⟨by rw [upd_ne ne]; exact (ff b hb).1, (ff b hb).2⟩, by rw [hp3, Heap.size_push]; exact Nat.lt_succ_of_lt lt⟩
  have stt3 : tn 0 s3.heap := T.keep _ _ _ stt fun b _ o e => by rw [hp3]; exact Heap.get?_push_of_some _ e
  have I4 := block_start I3 okB hnd ff3
  generalize ecl : cellsFrom (s3.heap.objs.size + 1) scope.names (cloFrom X.env.cells scope.names []) = cl at I4
  have pg := htg s3 (upd H2 A0 (SetO X.w A0 (fun _ => false) 0)) s3.heap.objs.size cl fp
  have pt := hif s3 (upd H2 A0 (SetO X.w A0 (fun _ => false) 0)) s3.heap.objs.size cl fp
  have pe := helt s3 (upd H2 A0 (SetO X.w A0 (fun _ => false) 0)) s3.heap.objs.size cl fp
  show codeAny _ _ (.compStart (.SetComp elt [⟨tg, iter, ifs, 0⟩] scope pos) 0 (.ref it) (.ref A0) (compEnvC scope cl s3.heap.objs.size X.env)) (compPost (model X.prog X.w) X.A X.xe use Qf (.ref A0) s3.heap.objs.size) { s3 with heap := pushCells (s3.heap.push { cls := .type "dict", data := .dict #[] }) scope.names }
  have none3 : ∀ b ∈ fp, (upd H2 A0 (SetO X.w A0 (fun _ => false) 0)) b = none := fun b hb => (ff3 b hb).1.1
  generalize ece : compEnvC scope cl s3.heap.objs.size X.env = ce at I4 pg pt pe ⊢
  have locs : ce.locals = s3.heap.objs.size := by rw [← ece]; rfl
  generalize eH3 : upd H2 A0 (SetO X.w A0 (fun _ => false) 0) = H3 at I3 I4 pg pt pe M0 none3 ff3
  generalize es4 : ({ s3 with heap := pushCells (s3.heap.push { cls := .type "dict", data := .dict #[] }) scope.names } : Shared) = s4 at I4 ⊢
  have stt4 : tn 0 s4.heap := T.keep _ _ _ stt3 fun b _ o e => by rw [← es4]; exact pushCells_keeps _ _ _ _ (Heap.get?_push_of_some _ e)
  have still : ∀ {σ' : L2.St} {H' : Hp} {s' : Shared}, Inv (X.blk s3 H3 scope ce fp) [] σ' H' s' → (∀ b ∈ fp, H' b = none) → ∀ b ∈ fp, FpOk (X.blk s3 H3 scope ce fp) [] H' b := by
    intro σ' H' s' I' hn b hb
    exact ⟨hn b hb, (I'.ok.exf b hb).1, I'.ok.exfs b hb, .inl hb, fun x c e => (I'.ok.exf b hb).2 x c e, fun p hp => absurd (show p ∈ ([] : List (Addr × Obj)) ++ [] from hp) (by simp)⟩
  have whole : codeAny (model X.prog X.w) X.A (.compLoop (.SetComp elt [⟨tg, iter, ifs, 0⟩] scope pos) 0 (.ref it) (.ref A0) ce) (compPost (model X.prog X.w) X.A X.xe use Qf (.ref A0) s3.heap.objs.size) s4 := by
    refine PpSet.compLoopS_any (fun n s' => ∃ i H', Inv (X.blk s3 H3 scope ce fp) [] (wipe σ (own.map (·.2))) H' s' ∧ tn i s'.heap ∧ (∀ b ∈ fp, H' b = none) ∧ M i n H') ?_ m0 ⟨0, H3, I4, stt4, none3, M0⟩
    rintro n s5 ⟨i, H5, I5, st5, none5, M5⟩
    cases turns i n H5 M5 with
    | inl h =>
      obtain ⟨stop, qq⟩ := h
      refine thnF (T.done (X.blk s3 H3 scope ce fp) rfl rfl rfl hcalm i [] s5 _ H5 (fun _ _ => False) I5 (still I5 none5) st5 stop) fun r s6 hr => ?_
      obtain ⟨rfl, I6⟩ := hr
      have I7 : Inv X pins σ H5 s6 := I3.call' (ch := fp) I6.os I6.base I6.hok I6.bare fun b hb => ⟨(ff3 b hb).1.2.2.2.1, (ff3 b hb).1.2.1, (ff3 b hb).1.2.2.2.2.1, (ff3 b hb).1.2.2.2.2.2⟩
      have noneC : H5 s3.heap.objs.size = none := by
        have z : H5 ce.locals = none := I6.free
        rwa [locs] at z
      obtain ⟨m, hm, _⟩ := I6.loc
      have hm : s6.heap.Ns ce.locals m := hm
      rw [locs] at hm
      exact hend A0 s3.heap.objs.size s6 m H5 I7 qq hm (I3.fpOk (Nat.le_refl _) noneC)
    | inr h =>
      obtain ⟨go, Nx, hNx, step⟩ := h
      refine thnF (T.item (X.blk s3 H3 scope ce fp) rfl rfl rfl hcalm i [] s5 _ H5 (fun _ _ => False) I5 (still I5 none5) st5 go) fun r s6 hr => ?_
      obtain ⟨u, rfl, h6⟩ := hr
      refine thnF h6 fun _ s7 h7 => ?_
      obtain ⟨x, H7, I7, r7, y7, st7, none7⟩ := h7
      have I7' := I7.pinned (still I7 none7) (T.obj _ _ st7)
      refine thnF (pg.run _ s7 _ H7 x u _ I7' r7 (step x H7 y7)) fun _ s8 h8 => ?_
      obtain ⟨σ8, H8, I8, hw8, q8⟩ := h8
      refine thnF (pt.run _ s8 σ8 H8 _ I8 q8) fun b s9 h9 => ?_
      obtain ⟨H9, I9, q9⟩ := h9
      have fin : ∀ {s' : Shared} {H' : Hp}, Inv (X.blk s3 H3 scope ce fp) ([] ++ pinsAt fp s7.heap) σ8 H' s' → Nx H' → ∃ m, m < n ∧ ∃ i H', Inv (X.blk s3 H3 scope ce fp) [] (wipe σ (own.map (·.2))) H' s' ∧ tn i s'.heap ∧ (∀ b ∈ fp, H' b = none) ∧ M i m H' := by
        intro s' H' I' nx
        obtain ⟨m', hm, M'⟩ := hNx H' nx
        have held : ∀ b ∈ fp, ∀ o, s7.heap.get? b = some o → s'.heap.get? b = some o ∧ H' b = none := by
          intro b hb o e
          have z := I'.pin (b, o) (List.mem_append_right _ (List.mem_append_right _ (mem_pinsAt hb e)))
          exact ⟨z.1, z.2.1⟩
        have ll : (wipe σ (own.map (·.2))).length = σ8.length := by rw [← hw8, wipe_length]
        refine ⟨m', hm, i + 1, H', (I'.unpinned (pins := [])).weak ll ?_, T.keep _ _ _ st7 fun b hb o e => (held b hb o e).1, fun b hb => ?_, M'⟩
        · intro j v e
          rw [← hw8] at e
          exact (wipe_some e).1
        · obtain ⟨o, e, _⟩ := T.obj _ _ st7 b hb
          exact (held b hb o e).2
      cases b with
      | false =>
        simp only [Bool.false_eq_true, if_false] at q9 ⊢
        exact fin I9 q9
      | true =>
        simp only [if_true] at q9 ⊢
        refine thnF (pe.run _ s9 σ8 H9 _ I9 q9) fun z s10 h10 => ?_
        obtain ⟨yv, H10, I10, r10, cb, S0, n0, rfl, hA10, few, nx⟩ := h10
        obtain ⟨tk, rfl⟩ := r10
        exact putI_ok (X := X.blk s3 H3 scope ce fp) I10 hA10 few fun s11 I11 => fin I11 nx
  exact PpSet.codeAny_compStart_set whole (T.self X.A 0 _ _ _ stt4 whole)
/-- len({elt for target in iter if ..}) -/
theorem pe_lenSi {elt tg iter : Expr} {ifs : List Expr} {scope : Scope} {own : List (PySem.Str × Nat)} {p q pos : Pos} {wi : TI} {g : TG} {tt : TT} {te : TE} (hg : Gl X "len") (hm : X.mg "len" = none) (hcalm : X.calm = true) (hnd : X.N.Nodup) (hiter : PI X tg iter wi) (okB : BlkOk X.N X.env.scope scope own)
    (htg : ∀ (s : Shared) (H : Hp) (C : Addr) (cl : List (PySem.Str × Addr)) (fp : List Addr), PG (X.blk s H scope (compEnvC scope cl C X.env) fp) tg g)
    (hif : ∀ (s : Shared) (H : Hp) (C : Addr) (cl : List (PySem.Str × Addr)) (fp : List Addr), PTs (X.blk s H scope (compEnvC scope cl C X.env) fp) ifs tt)
    (helt : ∀ (s : Shared) (H : Hp) (C : Addr) (cl : List (PySem.Str × Addr)) (fp : List Addr), PE (X.blk s H scope (compEnvC scope cl C X.env) fp) elt te)
    (hfold : ∀ x, foldedSetIterable iter X.env x = pure x)
    (na : starEach [.SetComp elt [⟨tg, iter, ifs, 0⟩] scope q] X.env = (false, eval (.SetComp elt [⟨tg, iter, ifs, 0⟩] scope q) X.env) :: starEach [] X.env) :
    PE X (.Call (.Name "len" p) [.SetComp elt [⟨tg, iter, ifs, 0⟩] scope q] [] pos) (fun σ H Q => tSi X.w wi g tt te (own.map (·.2)) (fun D H' => ∃ (S : Int → Bool) (n : Nat), H' D = some (SetO X.w D S n) ∧ n < 4000 ∧ Q (.int (n : Nat)) H') σ H) := by
  constructor
  intro pins s σ H Q I h
  refine Call_ (ld_blt (u := .builtin "len") I hg hm boot_len ?_)
  refine PyProof.Rows.callWith_builtin1 ?_ na rfl
  refine PyProof.Rows.args_cons ?_ na
  rw [PpSet.eval_SetComp]
  refine si_core hcalm hnd I hiter okB htg hif helt hfold h fun D C s' m H' I' q hn f => ⟨m, hn, fun h'' sb => ?_⟩
  obtain ⟨f0, f1, f2, f3, f4, f5⟩ := f
  have I2 := I'.turned (t' := s'.toks) (fun b o hb e => (sb.2 b hb).trans e) f0 f1 f3 f4 f5
  obtain ⟨S, n, hD, hn4, hq⟩ := q
  obtain ⟨o, es, ep, tb, ho, hex, hd, _, _, _, _, hf, he, _⟩ := setO_get I2 hD
  refine PyProof.Rows.args_nil ?_
  exact call_len_set ho hex hd hf (by rw [he]; omega) ⟨.int (n : Nat), H', I2.tok _, ⟨_, by rw [he]⟩, hq⟩
end

/-! #### as a reading -/
theorem once_snoc (acc : List Int) (c : Int) : (once (acc ++ [c])).length = if c ∈ acc then (once acc).length else (once acc).length + 1 := by
  by_cases h : c ∈ acc
  · rw [if_pos h]
    exact len_eq_of_mem (once_nodup _) (once_nodup _) fun n => by
      rw [mem_once, mem_once, List.mem_append, List.mem_singleton]
      exact ⟨fun z => z.elim id fun e => e ▸ h, .inl⟩
  · rw [if_neg h]
    have : (once acc).length + 1 = (c :: once acc).length := rfl
    rw [this]
    exact len_eq_of_mem (once_nodup _) (List.nodup_cons.2 ⟨fun z => h (mem_once.1 z), once_nodup _⟩) fun n => by
      rw [mem_once, List.mem_append, List.mem_singleton, List.mem_cons, mem_once]
      exact Or.comm
theorem once_le : ∀ acc : List Int, (once acc).length ≤ acc.length
  | [] => Nat.le_refl 0
  | a :: l => by
    have := once_le l
    unfold once
    split
    · rw [List.length_cons]; omega
    · rw [List.length_cons, List.length_cons]; omega
def siGo (g : WG) (T : WT) (W : WE) (is : List Nat) (Q : List Int → Ev → Prop) : List PyData → List Int → Ev → Prop
  | [], acc, env => Q acc (kill env is)
  | d :: ds, acc, env => g (.data d) (kill env is) fun e1 => T e1 fun b e2 => if b = true then W e2 fun dv e3 => (match dv with
      | .data (.int i) => acc.length < 3999 ∧ siGo g T W is Q ds (acc ++ [i]) e3
      | _ => False) else siGo g T W is Q ds acc e2
def wLenSi (I : WI) (g : WG) (T : WT) (W : WE) (is : List Nat) : WE := fun env Q => I env fun ds e => siGo g T W is (fun acc e2 => Q (.data (.int ((once acc).length : Nat))) (bring e e2 is)) ds [] e
section
variable {P : Program} {w : World} {K : PySem.W.Frag} {mg : Str → Option Value} {base : Heap} {k : Nat} {N : List Str} {sc : Scf} {pin : List Bool}
variable {env : Ev} {a b c e tg elt iter : Expr} {ifs : List Expr} {scope : Scope} {own : List (Str × Nat)} {pos p q : Pos} {W : WE} {T : WT} {I : WI} {g : WG} {x : Str}
def tSiV (w : World) (ti : TI) (g' : TG) (tt : TT) (te : TE) (is : List Nat) : TE := fun σ H Q => tSi w ti g' tt te is (fun D H' => ∃ (S : Int → Bool) (n : Nat), H' D = some (SetO w D S n) ∧ n < 4000 ∧ Q (.int (n : Nat)) H') σ H
theorem snd_lenSi {ti : TI} {g' : TG} {tt : TT} {te : TE} {is : List Nat} (hi : SndI K ti I) (hg : SndG K [] g' g) (ht : SndT K tt T) (he : SndE K te W) (hw : Wipes g' is) : SndE K (tSiV w ti g' tt te is) (wLenSi I g T W is) := by
  intro σ H G B env Q Qv c hw' q
  refine hi σ H G B env _ _ c hw' fun ds J H1 G1 B1 e1 hq c1 s1 it => ?_
  intro D hD
  have gD : G1 D = none := by
    cases e : G1 D with
    | none => rfl
    | some u => rw [c1.le D u e] at hD; cases hD
  have c0 : Conc K (upd H1 D (SetO w D (fun _ => false) 0)) G1 B1 (wipe σ is) (kill e1 is) := conc_kill ((Alloc.own (o := SetO w D (fun _ => false) 0) c1.le hD).res c1).conc
  let W0 : Nat → Hp → Prop := fun i H' => i ≤ ds.length ∧ ∃ G' B' env' acc S n, siGo g T W is (fun acc e2 => Q (.data (.int ((once acc).length : Nat))) (bring e1 e2 is)) (ds.drop i) acc env' ∧ acc.length ≤ 3999 ∧ Conc K H' G' B' (wipe σ is) (kill env' is) ∧ H' D = some (SetO w D S n) ∧ (∀ j, S j = true ↔ j ∈ acc) ∧ n = (once acc).length ∧ G' D = none ∧ ¬ B' D ∧
    (Le G1 G' ∧ (∀ a, B' a → B1 a ∨ H1 a = none) ∧ (∀ a, H1 a ≠ none → ¬ B1 a → H' a = H1 a ∧ G' a = G1 a) ∧ ∀ a, H1 a ≠ none → H' a ≠ none)
  refine ⟨fun i m H' => m = ds.length - i ∧ W0 i H', ⟨ds.length, by simp, Nat.zero_le _, G1, B1, e1, [], _, _, hq, by simp, c0, upd_same, fun j => by simp, rfl, gD, fun z => (c1.fr D z).2 hD, Le.rfl', fun _ z => .inl z, fun a z n => ⟨upd_ne fun y => z (by rw [y]; exact hD), rfl⟩, fun a z => by rw [upd_ne fun y => z (by rw [y]; exact hD)]; exact z⟩, ?_⟩
  rintro i m H' ⟨rfl, hi', G', B', env', acc, S, n, hf, hal, c', hDl, hS, hn, gD', nB, l', ow, fr, th⟩
  by_cases hlt : i < ds.length
  · refine .inr ⟨it.go H' i (l'.tr c'.le) hlt, W0 (i + 1), fun H2 h2 => ⟨ds.length - (i + 1), by omega, rfl, h2⟩, fun x H2 hy => ?_⟩
    obtain ⟨d, G2, ed, al, dp⟩ := it.yld H' G' H2 i x l' c'.le hlt hy
    have r2 := al.res c'
    have hd : ds.drop i = d :: ds.drop (i + 1) := by
      rw [List.drop_eq_getElem_cons hlt]
      have : ds[i] = d := by
        rw [List.getElem?_eq_getElem hlt] at ed
        exact Option.some.inj ed
      rw [this]
    rw [hd] at hf
    have s2 : Step H' G' B' H2 G2 B' := r2.drop
    have keepD : ∀ {H3 G3 : Hp} {B3 : Addr → Prop}, Step H' G' B' H3 G3 B3 → H3 D = some (SetO w D S n) ∧ G3 D = none ∧ ¬ B3 D := fun {H3 G3 B3} s3 => by
      have nn : H' D ≠ none := by rw [hDl]; exact fun q => nomatch q
      obtain ⟨e1, e2⟩ := s3.fr D nn nB
      exact ⟨e1.trans hDl, e2.trans gD', fun z => (s3.own D z).elim nB nn⟩
    have thru : ∀ {H3 G3 : Hp} {B3 : Addr → Prop}, Step H' G' B' H3 G3 B3 → (Le G1 G3 ∧ (∀ a, B3 a → B1 a ∨ H1 a = none) ∧ (∀ a, H1 a ≠ none → ¬ B1 a → H3 a = H1 a ∧ G3 a = G1 a) ∧ ∀ a, H1 a ≠ none → H3 a ≠ none) := fun {H3 G3 B3} s3 => by
      refine ⟨l'.tr s3.g, fun a z => (s3.own a z).elim (ow a) fun n => ?_, fun a z n => ?_, fun a z => s3.th a (th a z)⟩
      · by_cases h : H1 a = none
        · exact .inr h
        · exact absurd n (th a h)
      · obtain ⟨e1, e2⟩ := fr a z n
        have nb : ¬ B' a := fun y => (ow a y).elim n z
        obtain ⟨e3, e4⟩ := s3.fr a (th a z) nb
        exact ⟨e3.trans e1, e4.trans e2⟩
    have own := hw.own x (wipe σ is) H2 (fun σ2 H3 => tt σ2 H3 fun b H4 => if b = true then te σ2 H4 fun y H5 => ∃ (c : Int) (S : Int → Bool) (n : Nat), y = .int c ∧ H5 D = some (SetO w D S n) ∧ n + 1 < scanBound ∧ W0 (i + 1) (upd H5 D (SetO w D (fun j => S j || decide (j = c)) (if S c = true then n else n + 1))) else W0 (i + 1) H4) ?_
    · rw [wipe_wipe] at own
      exact own
    refine hg x (.data d) (wipe σ is) H2 G2 B' (fun _ => False) (kill env' is) _ _ r2.conc (fun _ z => z.elim) (fun _ z => z.elim) (.data dp) hf fun σ3 B3 env3 hb3 c3 w3 p3 ws => ?_
    rw [wipe_wipe] at ws
    have s3 : Step H' G' B' H2 G2 B3 := s2.less fun a z => (w3 a z).elim id False.elim
    refine ht σ3 H2 G2 B3 env3 _ _ c3 hb3 fun b H4 G4 B4 e4 hq4 c4 s4 => ?_
    have s34 := s3.tr s4
    cases b with
    | false =>
      have c5 : Conc K H4 G4 B4 (wipe σ is) (kill e4 is) := by
        have := conc_kill (is := is) c4
        rw [ws] at this
        exact this
      obtain ⟨k1, k2, k3⟩ := keepD s34
      exact ⟨hlt, G4, B4, e4, acc, S, n, hq4, hal, c5, k1, hS, hn, k2, k3, thru s34⟩
    | true =>
      refine he σ3 H4 G4 B4 e4 _ _ c4 hq4 fun y H5 G5 B5 C5 e5 dv hq5 r5 o5 => ?_
      split at hq5
      case h_2 => exact hq5.elim
      rename_i ci
      have ey : y = .int ci := by
        cases o5 with
        | data hh => cases hh; rfl
      subst ey
      have r6 : Res K H4 G4 B4 H5 G5 B5 (fun _ => False) σ3 e5 := r5.bare
      have s36 := s34.tr r6.drop
      obtain ⟨k1, k2, k3⟩ := keepD s36
      have c7 : Conc K H5 G5 B5 (wipe σ is) (kill e5 is) := by
        have := conc_kill (is := is) r6.conc
        rw [ws] at this
        exact this
      have hb : n + 1 < scanBound := by
        have := once_le acc
        have : (4000 : Nat) < scanBound := by decide
        omega
      have hn' : (if S ci = true then n else n + 1) = (once (acc ++ [ci])).length := by
        rw [once_snoc, hn]
        by_cases hc : ci ∈ acc
        · rw [if_pos hc, if_pos ((hS ci).2 hc)]
        · rw [if_neg hc, if_neg fun z => hc ((hS ci).1 z)]
      refine ⟨ci, S, n, rfl, k1, hb, hlt, G5, B5, e5, acc ++ [ci], _, _, hq5.2, by rw [List.length_append, List.length_singleton]; omega, ⟨fun a o z => ?_, fun a z => ⟨(c7.fr a z).1, ?_⟩, c7.own.mono Le.rfl' (fun a o z w => ?_) fun _ z => z⟩, upd_same, fun j => ?_, hn', k2, k3, ?_⟩
      · rw [upd_ne fun w => by rw [w, k2] at z; cases z]
        exact c7.le a o z
      · by_cases w : a = D
        · rw [w, upd_same]; exact fun q => nomatch q
        · rw [upd_ne w]; exact (c7.fr a z).2
      · rw [upd_ne fun y => k3 (by rw [← y]; exact z)]
        exact w
      · rw [List.mem_append, List.mem_singleton, Bool.or_eq_true, hS j, decide_eq_true_eq]
      · obtain ⟨t1, t2, t3, t4⟩ := thru s36
        refine ⟨t1, t2, fun a z n => ?_, fun a z => ?_⟩
        · rw [upd_ne fun y => by rw [y] at z; exact z hD]
          exact t3 a z n
        · rw [upd_ne fun y => by rw [y] at z; exact z hD]
          exact t4 a z
  · have e : i = ds.length := by omega
    subst e
    rw [List.drop_length] at hf
    refine .inl ⟨it.stop H' (l'.tr c'.le), S, n, hDl, by have := once_le acc; omega, ?_⟩
    have cc : Conc K H' G' B' σ (bring e1 (kill env' is) is) := conc_bring (conc_back c') (fun i d e => by
      obtain ⟨v, e3, o⟩ := c1.own.look e
      cases o with
      | data h => exact ⟨v, e3, dp_le l' h⟩) is
    rw [hn]
    refine q (.int ((once acc).length : Nat)) H' G' B' (fun _ => False) (bring e1 (kill env' is) is) _ hf ⟨cc, fun a z => z.elim, fun a z => z.elim, ?_⟩ (.data (.int _))
    refine s1.tr ⟨l', fun a z => z.elim (ow a) fun y => y.elim, fr, th⟩
theorem den_lenSi (hm : mg "len" = none) (hgl : GloB sc "len" = true) (hk : scope.kind = .function) (ok : blkC N sc.sc scope own = true) (hi : DenI P w K mg base k N sc tg iter I) (hc : CompOk P w K mg base k N (scB scope sc) tg elt ifs own g T W) (hs : ∀ env x, foldedSetIterable iter env x = pure x := by intros; rfl)
    (hst : ∀ env, starEach [.SetComp elt [⟨tg, iter, ifs, 0⟩] scope q] env = (false, eval (.SetComp elt [⟨tg, iter, ifs, 0⟩] scope q) env) :: starEach [] env := by intros; rfl) :
    DenE P w K mg base k N sc (.Call (.Name "len" p) [.SetComp elt [⟨tg, iter, ifs, 0⟩] scope q] [] pos) (wLenSi I g T W (own.map (·.2))) := by
  obtain ⟨ti, i1, i2⟩ := hi
  obtain ⟨g', tt, te, g1, t1, e1, g2, t2, e2, hw⟩ := hc.ex
  refine ⟨tSiV w ti g' tt te (own.map (·.2)), fun X hX => ?_, snd_lenSi i2 g2 t2 e2 hw⟩
  have := pe_lenSi (p := p) (q := q) (pos := pos) (gl_of hX hgl) (by rw [hX.eg]; exact hm) hX.calm (by rw [hX.eN]; exact hX.nd) (i1 X hX) (blkOk_by (by rw [hX.eN, hX.es]; exact ok)) (fun s H Cc cl fp => g1 _ (blk_ok hX hk s H Cc cl fp)) (fun s H Cc cl fp => t1 _ (blk_ok hX hk s H Cc cl fp)) (fun s H Cc cl fp => e1 _ (blk_ok hX hk s H Cc cl fp)) (hs X.env) (hst X.env)
  rw [hX.ew] at this
  exact this
end
theorem siGo_encm {α : Type} {g : WG} {W : WE} {is : List Nat} {Q : List Int → Ev → Prop} (E : Ev) (enc : α → PyData) (f : α → Int) : ∀ (xs : List α) (acc : List Int) (env : Ev), kill env is = E → acc.length + xs.length ≤ 3999 →
    (∀ d ∈ xs, ∀ (Z : DV → Ev → Prop), (∀ e, kill e is = E → Z (.data (.int (f d))) e) → g (.data (enc d)) E fun e1 => W e1 Z) → Q (acc ++ xs.map f) E → siGo g tYes' W is Q (xs.map enc) acc env
  | [], acc, env, hE, hl, h, hq => by
    show Q acc (kill env is)
    rw [hE]
    simpa using hq
  | d :: ds, acc, env, hE, hl, h, hq => by
    rw [List.length_cons] at hl
    show g (.data (enc d)) (kill env is) _
    rw [hE]
    refine h d List.mem_cons_self _ fun e he => ⟨by omega, ?_⟩
    refine siGo_encm E enc f ds _ e he (by rw [List.length_append]; simp only [List.length_cons, List.length_nil]; omega) (fun d' hd' => h d' (List.mem_cons_of_mem _ hd')) ?_
    rw [List.append_assoc]
    exact hq
end Kb
namespace Kb
open PySem PySem.Spec PyProof.Rows L2
/-! ### a pair as a target, its parts any targets -/
section
variable {P : Program} {w : World} {K : PySem.W.Frag} {mg : Str → Option Value} {base : Heap} {k : Nat} {N : List Str} {sc : Scf} {pin : List Bool}
def gPr (g h : WG) : WG := fun dv env Q => match dv with
  | .data (.tuple [a, b]) => g (.data a) env fun e => h (.data b) e Q
  | _ => False
theorem sndG_pr {g' h' : TG} {g h : WG} (hg : SndG K pin g' g) (hh : SndG K pin h' h) : SndG K pin (gTup K 2 (gCons g' (gCons h' gNil))) (gPr g h) := by
  intro v dv σ H G B C env Q Qg c f d o hw q
  unfold gPr at hw
  split at hw
  case h_2 => exact hw.elim
  rename_i a b
  cases o with
  | data z =>
    cases z with
    | tup s t =>
      cases t with
      | cons ha t =>
        cases t with
        | cons hb t =>
          cases t
          refine ⟨_, _, rfl, sqt_le c.le s, rfl, _, _, rfl, ?_⟩
          refine hg _ _ σ H G B (fun _ => False) env _ _ c (fun _ z => z.elim) (fun _ z => z.elim) (.data ha) hw fun σ1 B1 e1 h1 c1 s1 p1 => ?_
          refine ⟨_, _, rfl, ?_⟩
          refine hh _ _ σ1 H G B1 (fun _ => False) e1 _ _ c1 (fun _ z => z.elim) (fun _ z => z.elim) (.data hb) h1 fun σ2 B2 e2 h2 c2 s2 p2 => ?_
          exact ⟨rfl, q σ2 B2 e2 h2 c2 (fun a z => .inl (((s2 a z).elim (s1 a) False.elim).elim id False.elim)) (p1.tr p2)⟩
theorem deng_pr {a b : Expr} {kk : Nat} {pos : Pos} {g h : WG} (ha : DenG P w K mg base k N sc pin a g) (hb : DenG P w K mg base k N sc pin b h)
    (h1 : ∀ env, (assignEach [a, b] env).map (·.2) = assign a env :: (assignEach [b] env).map (·.2) := by intros; rfl) (h2 : ∀ env, (assignEach [b] env).map (·.2) = assign b env :: (assignEach [] env).map (·.2) := by intros; rfl)
    (hn : ∀ env, (assignEach [a, b] env).length = 2 := by intros; rfl) (hst : ∀ env, (assignEach [a, b] env).findIdx? (·.1) = none := by intros; rfl) : DenG P w K mg base k N sc pin (.Tuple [a, b] kk pos) (gPr g h) := by
  obtain ⟨ga, a1, a2⟩ := ha
  obtain ⟨gb, b1, b2⟩ := hb
  refine ⟨_, fun X hX => ?_, sndG_pr a2 b2⟩
  rw [← hX.eK]
  exact pg_tup hX.calm (pgs_cons (a1 X hX) (pgs_cons (b1 X hX) pgs_nil (h2 X.env)) (h1 X.env)) (hn X.env) (hst X.env)
end
end Kb
namespace Kb
open PySem PySem.Spec PyProof.Rows L2
/-! ### wide asks -/
abbrev WAsk := List (Nat × Nat)
def encPr (p : Nat × Nat) : PyData := .tuple [encN p.1, encN p.2]
def encW (a : WAsk) : PyData := .list (a.map encPr)
def encWD (d : List WAsk) : PyData := .list (d.map encW)
def WideOk (n : Nat) (a : WAsk) : Prop := (a.map Prod.fst).Nodup ∧ ∀ p ∈ a, p.1 < n ∧ p.2 < n
def WDayOk (n : Nat) (d : List WAsk) : Prop := d.length ≤ 200 ∧ ∀ a ∈ d, WideOk n a
def wfind (now : List Int) (a : WAsk) : Option (Nat × Nat) := a.find? fun p => decide (0 < now.getD p.1 0)
def wserve (now : List Int) (a : WAsk) : Row × List Int := match wfind now a with
  | none => (none, now)
  | some (p, o) => (some (p, some o), add (add now p (-1)) o 1)
def wgo : List Int → List WAsk → List Row × List Int
  | now, [] => ([], now)
  | now, a :: d => ((wserve now a).1 :: (wgo (wserve now a).2 d).1, (wgo (wserve now a).2 d).2)
theorem wserve_len (now : List Int) (a : WAsk) : (wserve now a).2.length = now.length := by
  unfold wserve
  split
  · rfl
  · rw [add_len, add_len]
theorem wgo_len : ∀ (d : List WAsk) (now : List Int), (wgo now d).1.length = d.length
  | [], _ => rfl
  | a :: d, now => by
    show (wgo (wserve now a).2 d).1.length + 1 = d.length + 1
    rw [wgo_len d]
theorem wgo_len2 : ∀ (d : List WAsk) (now : List Int), (wgo now d).2.length = now.length
  | [], _ => rfl
  | a :: d, now => by
    show (wgo (wserve now a).2 d).2.length = _
    rw [wgo_len2 d, wserve_len]
theorem wgo_app : ∀ (d e : List WAsk) (now : List Int), wgo now (d ++ e) = ((wgo now d).1 ++ (wgo (wgo now d).2 e).1, (wgo (wgo now d).2 e).2)
  | [], _, _ => rfl
  | a :: d, e, now => by
    show ((wserve now a).1 :: (wgo (wserve now a).2 (d ++ e)).1, (wgo (wserve now a).2 (d ++ e)).2) = _
    rw [wgo_app d e]
    rfl
theorem wgo_snoc (d : List WAsk) (a : WAsk) (now : List Int) : wgo now (d ++ [a]) = ((wgo now d).1 ++ [(wserve (wgo now d).2 a).1], (wserve (wgo now d).2 a).2) := by
  rw [wgo_app]; rfl
theorem wfind_some {now : List Int} {a : WAsk} {p : Nat × Nat} (h : wfind now a = some p) : p ∈ a ∧ 0 < now.getD p.1 0 := by
  unfold wfind at h
  have := List.find?_some h
  exact ⟨List.mem_of_find?_eq_some h, of_decide_eq_true this⟩
/-- whole numbers from nought on -/
def NN (s : List Int) : Prop := ∀ p, p < s.length → 0 ≤ s.getD p 0
theorem nn_serve {n : Nat} {now : List Int} {a : WAsk} (hl : now.length = n) (h : NN now) (ha : WideOk n a) : NN (wserve now a).2 := by
  unfold wserve
  split
  · exact h
  · rename_i p o e
    obtain ⟨m, pos⟩ := wfind_some e
    obtain ⟨hp, ho⟩ := ha.2 _ m
    intro q hq
    rw [add_len, add_len] at hq
    rw [getD_add (by rw [add_len]; omega), getD_add (by omega), getD_add (by omega)]
    have h1 := h q hq
    have h2 := h p (by omega)
    have h3 := h o (by omega)
    simp only at pos
    split <;> (split <;> omega)
theorem nn_go {n : Nat} : ∀ {d : List WAsk} {now : List Int}, now.length = n → NN now → (∀ a ∈ d, WideOk n a) → NN (wgo now d).2
  | [], _, _, h, _ => h
  | a :: d, now, hl, h, hd => nn_go (d := d) (by rw [wserve_len]; exact hl) (nn_serve hl h (hd a List.mem_cons_self)) fun b hb => hd b (List.mem_cons_of_mem _ hb)
theorem wserve_sum {n : Nat} {now : List Int} {a : WAsk} (hl : now.length = n) (ha : WideOk n a) : (wserve now a).2.sum = now.sum := by
  unfold wserve
  split
  · rfl
  · rename_i p o e
    obtain ⟨m, pos⟩ := wfind_some e
    obtain ⟨hp, ho⟩ := ha.2 _ m
    rw [sum_add (by rw [add_len]; omega), sum_add (by omega)]
    omega
theorem wgo_sum {n : Nat} : ∀ {d : List WAsk} {now : List Int}, now.length = n → (∀ a ∈ d, WideOk n a) → (wgo now d).2.sum = now.sum
  | [], _, _, _ => rfl
  | a :: d, now, hl, hd => by
    show (wgo (wserve now a).2 d).2.sum = _
    rw [wgo_sum (d := d) (by rw [wserve_len]; exact hl) fun b hb => hd b (List.mem_cons_of_mem _ hb), wserve_sum hl (hd a List.mem_cons_self)]
/-! #### of anything -/
def isStepD (n : Nat) : PyData → Bool
  | .tuple [a, b] => isPlaceD n a && isPlaceD n b
  | _ => false
def stepI : PyData → Int
  | .tuple (.int i :: _) => i
  | _ => 0
def isWideD (n : Nat) : PyData → Bool
  | .list es => es.all (isStepD n) && decide ((once (es.map stepI)).length = es.length)
  | _ => false
def isOpenD : PyData → Bool
  | .tuple ds => decide (1 ≤ ds.length) && decide (ds.length ≤ 9) && ds.all isCountD
  | _ => false
def isWDayD (n : Nat) : PyData → Bool
  | .list es => es.all (isWideD n)
  | _ => false
theorem step_enc {n : Nat} {p : Nat × Nat} (h : p.1 < n ∧ p.2 < n) : isStepD n (encPr p) = true := by
  unfold encPr encN isStepD isPlaceD
  simp; omega
theorem wide_enc {n : Nat} {a : WAsk} (h : WideOk n a) : isWideD n (encW a) = true := by
  unfold encW isWideD
  rw [Bool.and_eq_true]
  refine ⟨?_, ?_⟩
  · rw [List.all_map, List.all_eq_true]
    intro p hp
    exact step_enc (h.2 p hp)
  · rw [List.map_map]
    have e : a.map (stepI ∘ encPr) = (a.map Prod.fst).map Int.ofNat := by rw [List.map_map]; rfl
    rw [e, once_len (nodup_of h.1)]
    simp
theorem wday_enc {n : Nat} {d : List WAsk} (h : ∀ a ∈ d, WideOk n a) : isWDayD n (encWD d) = true := by
  show ((d.map encW).all (isWideD n)) = true
  rw [List.all_map, List.all_eq_true]
  intro a ha
  exact wide_enc (h a ha)
theorem open_enc {s : List Int} (h1 : 1 ≤ s.length) (h9 : s.length ≤ 9) (h : NN s) : isOpenD (encS s) = true := by
  unfold encS isOpenD
  simp only [List.length_map, h1, h9, decide_true, Bool.true_and]
  rw [List.all_map, List.all_eq_true]
  intro i hi
  obtain ⟨p, hp, rfl⟩ := List.mem_iff_getElem.1 hi
  have := h p hp
  rw [getD_some (List.getElem?_eq_getElem hp)] at this
  simpa [isCountD] using this
theorem wide_len {n : Nat} {a : WAsk} (h : WideOk n a) : a.length ≤ n := by
  have := below_len h.1 fun p hp => by
    obtain ⟨q, hq, rfl⟩ := List.mem_map.1 hp
    exact (h.2 q hq).1
  rwa [List.length_map] at this
theorem shrt_Pr (p : Nat × Nat) : Shrt (encPr p) := by
  unfold encPr encN
  rw [Shrt, ShrtAll, ShrtAll, ShrtAll]
  exact ⟨by simp, shrt_int _, shrt_int _, trivial⟩
theorem shrt_W {n : Nat} {a : WAsk} (hn : n ≤ 9) (h : WideOk n a) : Shrt (encW a) := by
  have := wide_len h
  unfold encW
  rw [Shrt]
  exact ⟨by rw [List.length_map]; omega, shrt_map _ _ fun p _ => shrt_Pr p⟩
theorem shrt_WD {n : Nat} {d : List WAsk} (hn : n ≤ 9) (h : WDayOk n d) : Shrt (encWD d) := by
  have := h.1
  unfold encWD
  rw [Shrt]
  exact ⟨by rw [List.length_map]; omega, shrt_map _ _ fun a ha => shrt_W hn (h.2 a ha)⟩
theorem nice_W {n : Nat} {a : WAsk} (hn : n ≤ 9) (h : WideOk n a) : Nice 300 2 (encW a) := nice_list (w := 22) (k := 1) (fun x hx => by
  obtain ⟨p, hp, rfl⟩ := List.mem_map.1 hx
  have := h.2 p hp
  exact nice_tuple (w := 10) (k := 0) (fun d hd => by
    simp only [List.mem_cons, List.not_mem_nil, or_false] at hd
    rcases hd with rfl | rfl
    · exact nice_N (by omega)
    · exact nice_N (by omega)) (by show 2 * 11 ≤ 22; omega)) (by have := wide_len h; rw [List.length_map]; omega)
theorem nice_WD {n : Nat} {d : List WAsk} (hn : n ≤ 9) (h : WDayOk n d) : Nice 61000 3 (encWD d) := nice_list (w := 300) (k := 2) (fun x hx => by
  obtain ⟨a, ha, rfl⟩ := List.mem_map.1 hx
  exact nice_W hn (h.2 a ha)) (by have := h.1; rw [List.length_map]; omega)
theorem wide_map {α : Type} {f g : α → PyData} {l : List α} (h : ∀ a ∈ l, f a = g a) : l.map f = l.map g := List.map_congr_left h
end Kb
namespace Kb
open PySem PySem.Spec PyProof.Rows L2
/-! ### loops with numbers, loops over pairs -/
theorem enum_go {α : Type} (enc : α → PyData) : ∀ (xs pre : List α), ((List.range (pre ++ xs).length).drop pre.length).map (fun i => PyData.tuple [.int (i : Nat), ((pre ++ xs).map enc).getD i .none]) = (xs.zipIdx pre.length).map fun p => .tuple [.int (p.2 : Nat), enc p.1]
  | [], pre => by
    rw [List.append_nil, List.drop_of_length_le (by rw [List.length_range]; exact Nat.le_refl _)]; rfl
  | x :: xs, pre => by
    have hl : pre.length < (List.range (pre ++ x :: xs).length).length := by rw [List.length_range, List.length_append, List.length_cons]; omega
    rw [List.drop_eq_getElem_cons hl, List.getElem_range, List.map_cons, List.zipIdx_cons, List.map_cons]
    have ih := enum_go enc xs (pre ++ [x])
    have e1 : (pre ++ [x]) ++ xs = pre ++ x :: xs := by rw [List.append_assoc]; rfl
    have e2 : (pre ++ [x]).length = pre.length + 1 := by rw [List.length_append]; rfl
    rw [e1, e2] at ih
    rw [ih]
    congr 2
    have : ((pre ++ x :: xs).map enc).getD pre.length .none = enc x := by
      rw [List.getD_eq_getElem?_getD, List.getElem?_map, List.getElem?_append_right (Nat.le_refl _), Nat.sub_self]; rfl
    rw [this]
theorem enumD_map {α : Type} (enc : α → PyData) (xs : List α) : enumD (xs.map enc) = xs.zipIdx.map fun p => .tuple [.int (p.2 : Nat), enc p.1] := by
  have := enum_go enc xs []
  simp only [List.nil_append, List.length_nil, List.drop_zero] at this
  unfold enumD
  rw [List.length_map]
  exact this
theorem zipIdx_at {α : Type} {xs : List α} {p q : List (α × Nat)} {x : α} {i : Nat} (h : p ++ (x, i) :: q = xs.zipIdx) : i = p.length ∧ p.map Prod.fst ++ x :: q.map Prod.fst = xs := by
  have e1 := congrArg (List.map Prod.fst) h
  rw [List.map_append, List.map_cons, List.zipIdx_map_fst] at e1
  have e2 := congrArg (fun l => l[p.length]?) h
  simp only [List.getElem?_append_right (Nat.le_refl _), Nat.sub_self, List.getElem?_cons_zero, List.getElem?_zipIdx] at e2
  cases hx : xs[p.length]? with
  | none => rw [hx] at e2; cases e2
  | some y =>
    rw [hx] at e2
    simp only [Option.map_some, Option.some.injEq, Prod.mk.injEq] at e2
    exact ⟨by omega, e1⟩
theorem forGo_enu {α : Type} {g : WG} {S : WS} {D : EndW} {env : Ev} (enc : α → PyData) (xs : List α) (I : List α → Ev → Prop) (h0 : I [] env)
    (hs : ∀ (p : List α) (x : α) (q : List α), p ++ x :: q = xs → ∀ (env : Ev) (X : Ev → Prop), I p env → (∀ e, I (p ++ [x]) e → X e) → g (.data (.tuple [.int (p.length : Nat), enc x])) env fun e => S { nx := X, ct := X, bk := D.nx, rt := D.rt } e)
    (hn : ∀ env, I xs env → D.nx env) : forGo g S D (enumD (xs.map enc)) env := by
  rw [enumD_map]
  refine forGo_enc (fun p : α × Nat => PyData.tuple [.int (p.2 : Nat), enc p.1]) xs.zipIdx (fun p e => I (p.map Prod.fst) e) h0 (fun p y q h env X hI hX => ?_) (fun env h => hn env (by rwa [List.zipIdx_map_fst] at h))
  obtain ⟨x, i⟩ := y
  obtain ⟨rfl, e2⟩ := zipIdx_at h
  have := hs (p.map Prod.fst) x (q.map Prod.fst) e2 env X hI fun e he => hX e (by rw [List.map_append]; exact he)
  rw [List.length_map] at this
  exact this
theorem compGo_enu {α : Type} {g : WG} {T : WT} {W : WE} {is : List Nat} {Q : List PyData → Ev → Prop} (E : Ev) (enc : α → PyData) (p : α × Nat → Bool) (f : α × Nat → PyData) (xs : List α) (acc : List PyData) (env : Ev) (hE : kill env is = E) (hl : acc.length + xs.length ≤ lim)
    (h : ∀ (i : Nat) (x : α), xs[i]? = some x → ∀ (Z : DV → Ev → Prop) (U : Ev → Prop), (p (x, i) = true → ∀ (dv : DV) (e : Ev), dv.dat = f (x, i) → kill e is = E → ∀ (_ : dv.nd = true := by rfl), Z dv e) → (p (x, i) = false → ∀ e, kill e is = E → U e) → g (.data (.tuple [.int (i : Nat), enc x])) E fun e1 => T e1 fun b e2 => if b = true then W e2 Z else U e2)
    (hq : Q (acc ++ (xs.zipIdx.filter p).map f) E) : compGo g T W is Q (enumD (xs.map enc)) acc env := by
  rw [enumD_map]
  refine compGo_enc E (fun p : α × Nat => PyData.tuple [.int (p.2 : Nat), enc p.1]) p f xs.zipIdx acc env hE (by rw [List.length_zipIdx]; exact hl) (fun y hy Z U hZ hU => ?_) hq
  obtain ⟨x, i⟩ := y
  have hx := List.mem_zipIdx_iff_getElem?.1 hy
  exact h i x hx Z U (fun a dv e b c n => hZ a dv e b c n) hU
theorem zipD_map {α β : Type} (f : α → PyData) (g : β → PyData) : ∀ (xs : List α) (ys : List β), zipD (xs.map f) (ys.map g) = (xs.zip ys).map fun p => .tuple [f p.1, g p.2]
  | [], _ => rfl
  | _ :: _, [] => rfl
  | x :: xs, y :: ys => by
    show PyData.tuple [f x, g y] :: zipD (xs.map f) (ys.map g) = _
    rw [zipD_map f g xs ys]
    rfl
/-! ### reading in short lists of anything -/
theorem atV0 {α : Type} {x : α} {l : List α} : atI (x :: l) 0 = some x := Kb.atI_nat (p := 0) rfl
theorem atV1 {α : Type} {x y : α} {l : List α} : atI (x :: y :: l) 1 = some y := Kb.atI_nat (p := 1) rfl
theorem atV2 {α : Type} {x y z : α} {l : List α} : atI (x :: y :: z :: l) 2 = some z := Kb.atI_nat (p := 2) rfl
theorem atI_get {α : Type} {f : α → PyData} {l : List α} {i : Nat} {x : α} (h : l[i]? = some x) : atI (l.map f) (i : Int) = some (f x) := Kb.atI_nat (by rw [List.getElem?_map, h]; rfl)
theorem atI_getD {α : Type} {f : α → PyData} {l : List α} {i : Nat} (d : α) (h : i < l.length) : atI (l.map f) (i : Int) = some (f (l.getD i d)) := atI_get (by rw [List.getElem?_eq_getElem h, getD_some (List.getElem?_eq_getElem h)])
/-- the first of those that a filter leaves, or None -/
theorem first_none {ns : List Nat} : atI (ns.map encN ++ [PyData.none]) 0 = some (encO ns.head?) := by
  cases ns with
  | nil => exact atV0
  | cons n ns => exact atV0
/-! ### a list changed at one place, as the laws write it -/
theorem add_cut {s : List Int} {p : Nat} {k : Int} (hp : p < s.length) : (s.take p ++ [s.getD p 0 + k]) ++ s.drop (p + 1) = add s p k := by
  unfold add
  rw [List.set_eq_take_append_cons_drop, if_pos hp, List.append_assoc]
  rfl
theorem add_cutD {s : List Int} {p : Nat} {k : Int} (hp : p < s.length) : List.take p (s.map PyData.int) ++ [PyData.int (s.getD p 0 + k)] ++ List.drop (p + 1) (s.map PyData.int) = (add s p k).map .int := by
  rw [← add_cut hp, List.map_append, List.map_append, List.map_take, List.map_drop]
  rfl
end Kb
namespace Kb
open PySem PySem.Spec PyProof.Rows L2
/-! ### wide asks that keep the promise -/
theorem ext_getD {a b : List Int} (h : a.length = b.length) (g : ∀ p, p < a.length → a.getD p 0 = b.getD p 0) : a = b := by
  refine List.ext_getElem h fun i h1 h2 => ?_
  have := g i h1
  rw [getD_some (List.getElem?_eq_getElem h1), getD_some (List.getElem?_eq_getElem h2)] at this
  exact this
def ind (p q : Nat) (k : Int) : Int := if p = q then k else 0
theorem getD_ind {now : List Int} {p q : Nat} {k : Int} (hp : p < now.length) : (add now p k).getD q 0 = now.getD q 0 + ind p q k := by
  rw [getD_add hp]
  unfold ind
  split
  · rename_i z; subst z; rfl
  · omega
theorem ind_neg (p q : Nat) : ind p q (-1) = - ind p q 1 := by
  unfold ind
  split <;> rfl
def KeptW (a : WAsk) : Prop := a.Pairwise fun x y => y.2 = x.2 ∨ y.2 = y.1
theorem wfind_more {now : List Int} {q : Nat} (hq : q < now.length) : ∀ (a : WAsk), wfind (add now q 1) a = wfind now a ∨ ∃ o l1 l2, a = l1 ++ (q, o) :: l2 ∧ wfind (add now q 1) a = some (q, o) ∧ wfind now a = wfind now l2
  | [] => .inl rfl
  | (x, o) :: r => by
    have e1 : wfind now ((x, o) :: r) = if 0 < now.getD x 0 then some (x, o) else wfind now r := by
      unfold wfind
      rw [List.find?_cons]
      by_cases h : 0 < now.getD x 0
      · rw [if_pos h]; simp only [h, decide_true]
      · rw [if_neg h]; simp only [h, decide_false]
    have e2 : wfind (add now q 1) ((x, o) :: r) = if 0 < (add now q 1).getD x 0 then some (x, o) else wfind (add now q 1) r := by
      unfold wfind
      rw [List.find?_cons]
      by_cases h : 0 < (add now q 1).getD x 0
      · rw [if_pos h]; simp only [h, decide_true]
      · rw [if_neg h]; simp only [h, decide_false]
    rw [getD_add hq] at e2
    rw [e1, e2]
    by_cases h : 0 < now.getD x 0
    · refine .inl ?_
      rw [if_pos h, if_pos]
      split
      · rename_i z; subst z; omega
      · exact h
    · rw [if_neg h]
      by_cases z : q = x
      · subst z
        rw [if_pos rfl]
        by_cases h2 : 0 < now.getD q 0 + 1
        · rw [if_pos h2]
          exact .inr ⟨o, [], r, rfl, rfl, rfl⟩
        · rw [if_neg h2]
          rcases wfind_more hq r with g | ⟨o2, l1, l2, g1, g2, g3⟩
          · exact .inl g
          · exact .inr ⟨o2, (q, o) :: l1, l2, by rw [g1]; rfl, g2, g3⟩
      · rw [if_neg z, if_neg h]
        rcases wfind_more hq r with g | ⟨o2, l1, l2, g1, g2, g3⟩
        · exact .inl g
        · exact .inr ⟨o2, (x, o) :: l1, l2, by rw [g1]; rfl, g2, g3⟩
theorem kept_step {n : Nat} {now : List Int} {a : WAsk} {q : Nat} (hl : now.length = n) (ha : WideOk n a) (hk : KeptW a) (hq : q < n) : ∃ q', q' < n ∧ (wserve (add now q 1) a).2 = add (wserve now a).2 q' 1 ∧ ((wserve now a).1.isSome = true → (wserve (add now q 1) a).1.isSome = true) := by
  have hqn : q < now.length := by omega
  have same : ∀ {p o : Nat}, p < n → o < n → add (add (add now q 1) p (-1)) o 1 = add (add (add now p (-1)) o 1) q 1 := fun {p o} hp ho => by
    refine ext_getD (by simp only [add_len]) fun x hx => ?_
    rw [getD_ind (by simp only [add_len]; omega), getD_ind (by simp only [add_len]; omega), getD_ind (by omega), getD_ind (by simp only [add_len]; omega), getD_ind (by simp only [add_len]; omega), getD_ind (by omega)]
    omega
  unfold wserve
  rcases wfind_more hqn a with g | ⟨o, l1, l2, g1, g2, g3⟩
  · rw [g]
    cases e : wfind now a with
    | none => exact ⟨q, hq, rfl, fun h => by cases h⟩
    | some po =>
      obtain ⟨p, o⟩ := po
      obtain ⟨hp, ho⟩ := ha.2 _ (wfind_some e).1
      exact ⟨q, hq, same hp ho, fun _ => rfl⟩
  · rw [g2, g3]
    have hqo : (q, o) ∈ a := by rw [g1]; exact List.mem_append_right _ List.mem_cons_self
    obtain ⟨_, ho⟩ := ha.2 _ hqo
    simp only at ho
    have e0 : add (add now q 1) q (-1) = now := by
      refine ext_getD (by simp only [add_len]) fun x hx => ?_
      rw [getD_add (by rw [add_len]; omega), getD_add hqn, getD_add hqn]
      split
      · rename_i z; subst z; rw [if_pos rfl]; omega
      · rfl
    cases e : wfind now l2 with
    | none =>
      refine ⟨o, ho, ?_, fun h => by cases h⟩
      show add (add (add now q 1) q (-1)) o 1 = add now o 1
      rw [e0]
    | some po =>
      obtain ⟨p, o2⟩ := po
      have hm := (wfind_some e).1
      obtain ⟨hp, ho2⟩ := ha.2 (p, o2) (by rw [g1]; exact List.mem_append_right _ (List.mem_cons_of_mem _ hm))
      simp only at hp ho2
      have hk2 : o2 = o ∨ o2 = p := by
        unfold KeptW at hk
        rw [g1, List.pairwise_append] at hk
        exact (List.pairwise_cons.1 hk.2.1).1 _ hm
      show ∃ q', q' < n ∧ add (add (add now q 1) q (-1)) o 1 = add (add (add now p (-1)) o2 1) q' 1 ∧ _
      rw [e0]
      rcases hk2 with z | z
      · subst z
        refine ⟨p, hp, ?_, fun _ => rfl⟩
        refine ext_getD (by simp only [add_len]) fun x hx => ?_
        rw [getD_ind (by omega), getD_ind (by simp only [add_len]; omega), getD_ind (by simp only [add_len]; omega), getD_ind (by omega), ind_neg]
        omega
      · subst z
        refine ⟨o, ho, ?_, fun _ => rfl⟩
        refine ext_getD (by simp only [add_len]) fun x hx => ?_
        rw [getD_ind (by omega), getD_ind (by simp only [add_len]; omega), getD_ind (by simp only [add_len]; omega), getD_ind (by omega), ind_neg]
        omega
theorem keptw_go {n : Nat} : ∀ {d : List WAsk} {now : List Int} {q : Nat}, now.length = n → (∀ a ∈ d, WideOk n a ∧ KeptW a) → q < n → ∃ q', q' < n ∧ (wgo (add now q 1) d).2 = add (wgo now d).2 q' 1 ∧ ∀ k, ((wgo now d).1.getD k none).isSome = true → ((wgo (add now q 1) d).1.getD k none).isSome = true
  | [], now, q, _, _, hq => ⟨q, hq, rfl, fun _ h => h⟩
  | a :: d, now, q, hl, hd, hq => by
    obtain ⟨h1, h2⟩ := hd a List.mem_cons_self
    obtain ⟨q1, k1, k2, k3⟩ := kept_step hl h1 h2 hq
    obtain ⟨q2, m1, m2, m3⟩ := keptw_go (d := d) (now := (wserve now a).2) (q := q1) (by rw [wserve_len]; exact hl) (fun b hb => hd b (List.mem_cons_of_mem _ hb)) k1
    refine ⟨q2, m1, ?_, ?_⟩
    · show (wgo (wserve (add now q 1) a).2 d).2 = add (wgo (wserve now a).2 d).2 q2 1
      rw [k2, m2]
    · rintro (_ | k) h
      · exact k3 h
      · show ((wgo (wserve (add now q 1) a).2 d).1.getD k none).isSome = true
        rw [k2]
        exact m3 k h
theorem below_w {n : Nat} {a : WAsk} (ha : WideOk n a) (hk : KeptW a) : ∀ (m : Nat) {s t : List Int}, s.length = n → Below s t → t.sum - s.sum ≤ (m : Int) → Below (wserve s a).2 (wserve t a).2
  | m, s, t, hl, h, hm => by
    rcases below_or h.1 h.2 with rfl | ⟨q, hq, hlt⟩
    · exact .refl _
    · have hs := sum_add (k := 1) hq
      have h1 : Below (add s q 1) t := ⟨by rw [add_len]; exact h.1, fun p hp => by
        rw [getD_add hq]
        rw [add_len] at hp
        split
        · rename_i z; subst z; omega
        · exact h.2 p hp⟩
      have s1 := below_sum h1.1 h1.2
      obtain ⟨q', c1, c2, _⟩ := kept_step hl ha hk (by rw [← hl]; exact hq)
      have b1 : Below (wserve s a).2 (wserve (add s q 1) a).2 := by
        rw [c2]
        have hq2 : q' < (wserve s a).2.length := by rw [wserve_len, hl]; exact c1
        refine ⟨by rw [add_len], fun p hp => ?_⟩
        rw [getD_add hq2]
        split
        · rename_i z; subst z; omega
        · exact Int.le_refl _
      cases m with
      | zero => exact absurd hm (by omega)
      | succ m => exact b1.trans (below_w ha hk m (by rw [add_len]; exact hl) h1 (by omega))
theorem dist_w {n : Nat} {a : WAsk} (ha : WideOk n a) (hk : KeptW a) {s t : List Int} (hs : s.length = n) (ht : t.length = n) : distL (wserve s a).2 (wserve t a).2 ≤ distL s t := by
  have h : s.length = t.length := by omega
  obtain ⟨m1, m2⟩ := meet_below h
  have hm : (meetL s t).length = n := by rw [meet_len h]; exact hs
  have b1 := below_w ha hk (s.sum - (meetL s t).sum).toNat hm m1 (by omega)
  have b2 := below_w ha hk (t.sum - (meetL s t).sum).toNat hm m2 (by omega)
  have e := dist_meet h
  have h' : (wserve s a).2.length = (wserve t a).2.length := by rw [wserve_len, wserve_len]; exact h
  have e' := dist_meet h'
  have g := meet_great b1 b2
  have g2 := below_sum g.1 g.2
  rw [wserve_sum hm ha] at g2
  rw [wserve_sum hs ha, wserve_sum ht ha] at e'
  omega
/-! #### the first two that break it -/
def breakM : WAsk → Option (Nat × Nat × Nat)
  | [] => none
  | (p, l) :: r => match r.find? (fun x => decide (x.2 ≠ l ∧ x.2 ≠ x.1)) with
    | some (b, o) => some (p, b, o)
    | none => breakM r
theorem break_none : ∀ {a : WAsk}, breakM a = none ↔ KeptW a
  | [] => ⟨fun _ => List.Pairwise.nil, fun _ => rfl⟩
  | (p, l) :: r => by
    unfold breakM KeptW
    rw [List.pairwise_cons]
    cases e : r.find? (fun x => decide (x.2 ≠ l ∧ x.2 ≠ x.1)) with
    | some x =>
      obtain ⟨b, o⟩ := x
      have h1 := List.mem_of_find?_eq_some e
      have h2 := List.find?_some e
      simp only [decide_eq_true_eq] at h2
      refine ⟨fun h => (by cases h), fun h => ?_⟩
      rcases h.1 _ h1 with z | z
      · exact absurd z h2.1
      · exact absurd z h2.2
    | none =>
      rw [List.find?_eq_none] at e
      have ih := break_none (a := r)
      unfold KeptW at ih
      rw [ih]
      refine ⟨fun h => ⟨fun x hx => ?_, h⟩, fun h => h.2⟩
      have := e x hx
      simp only [decide_eq_true_eq, not_and, Decidable.not_not] at this
      by_cases z : x.2 = l
      · exact .inl z
      · exact .inr (this z)
theorem break_some : ∀ {a : WAsk} {p b o : Nat}, breakM a = some (p, b, o) → ∃ l1 l l2 l3, a = l1 ++ (p, l) :: l2 ++ (b, o) :: l3 ∧ o ≠ l ∧ o ≠ b
  | [], _, _, _, h => by cases h
  | (p', l) :: r, p, b, o, h => by
    unfold breakM at h
    cases e : r.find? (fun x => decide (x.2 ≠ l ∧ x.2 ≠ x.1)) with
    | some x =>
      obtain ⟨b', o'⟩ := x
      rw [e] at h
      simp only [Option.some.injEq, Prod.mk.injEq] at h
      obtain ⟨rfl, rfl, rfl⟩ := h
      have h2 := List.find?_some e
      simp only [decide_eq_true_eq] at h2
      obtain ⟨s, t, hst⟩ := List.append_of_mem (List.mem_of_find?_eq_some e)
      exact ⟨[], l, s, t, by rw [hst]; rfl, h2.1, h2.2⟩
    | none =>
      rw [e] at h
      obtain ⟨l1, l', l2, l3, h1, h2, h3⟩ := break_some (a := r) h
      exact ⟨(p', l) :: l1, l', l2, l3, by rw [h1]; rfl, h2, h3⟩
theorem wfind_app {now : List Int} {l1 l2 : WAsk} {p o : Nat} (h0 : ∀ x ∈ l1, ¬ 0 < now.getD x.1 0) (h1 : 0 < now.getD p 0) : wfind now (l1 ++ (p, o) :: l2) = some (p, o) := by
  unfold wfind
  rw [List.find?_eq_some_iff_append]
  refine ⟨by simpa using h1, l1, l2, rfl, fun x hx => ?_⟩
  have := h0 x hx
  simpa using this
/-- the two worlds that show it -/
theorem break_harm {n : Nat} {a : WAsk} {p b o : Nat} {s : List Int} (hl : s.length = n) (ha : WideOk n a) (h : breakM a = some (p, b, o)) (hb : s.getD b 0 = 1) (h0 : ∀ x ∈ a, (x.1 ≠ b → s.getD x.1 0 = 0) ∧ (x.2 ≠ b → s.getD x.2 0 = 0)) :
    (wgo s [a, [(o, o)]]).1 = [some (b, some o), some (o, some o)] ∧ ∃ l, (wgo (add s p 1) [a, [(o, o)]]).1 = [some (p, some l), none] := by
  obtain ⟨l1, l, l2, l3, e, hol, hob⟩ := break_some h
  have hnd := ha.1
  have mp : (p, l) ∈ a := by rw [e]; simp
  have mb : (b, o) ∈ a := by rw [e]; simp
  obtain ⟨hp, hlb⟩ := ha.2 _ mp
  obtain ⟨hbn, ho⟩ := ha.2 _ mb
  simp only at hp hlb hbn ho
  rw [e, List.map_append, List.map_append, List.map_cons, List.map_cons] at hnd
  have hnd2 := List.nodup_append.1 hnd
  have hnd3 := List.nodup_append.1 hnd2.1
  have nb : ∀ x ∈ l1 ++ (p, l) :: l2, x.1 ≠ b := fun x hx => hnd2.2.2 x.1 (by rw [← List.map_cons, ← List.map_append]; exact List.mem_map_of_mem hx) b List.mem_cons_self
  have np : ∀ x ∈ l1, x.1 ≠ p := fun x hx => hnd3.2.2 x.1 (List.mem_map_of_mem hx) p List.mem_cons_self
  have pb : p ≠ b := nb (p, l) (by simp)
  have ina : ∀ x ∈ l1 ++ (p, l) :: l2, x ∈ a := fun x hx => by rw [e]; exact List.mem_append_left _ hx
  have so : s.getD o 0 = 0 := (h0 _ mb).2 hob
  have sp0 : s.getD p 0 = 0 := (h0 _ mp).1 pb
  have f1 : wfind s a = some (b, o) := by
    rw [e]
    refine wfind_app (fun x hx => ?_) (by omega)
    rw [(h0 x (ina x hx)).1 (nb x hx)]; omega
  have f2 : wfind (add s p 1) a = some (p, l) := by
    rw [e, List.append_assoc]
    refine wfind_app (fun x hx => ?_) ?_
    · have m : x ∈ l1 ++ (p, l) :: l2 := List.mem_append_left _ hx
      rw [getD_add (by omega), if_neg (fun z => np x hx z.symm), (h0 x (ina x m)).1 (nb x m)]; omega
    · rw [getD_add (by omega), if_pos rfl, sp0]; omega
  have w1 : wserve s a = (some (b, some o), add (add s b (-1)) o 1) := by unfold wserve; rw [f1]
  have w2 : wserve (add s p 1) a = (some (p, some l), add (add (add s p 1) p (-1)) l 1) := by unfold wserve; rw [f2]
  refine ⟨?_, l, ?_⟩
  · show [(wserve s a).1, (wserve (wserve s a).2 [(o, o)]).1] = _
    rw [w1]
    have f3 : wfind (add (add s b (-1)) o 1) [(o, o)] = some (o, o) := by
      refine wfind_app (l1 := []) (fun x hx => (List.not_mem_nil hx).elim) ?_
      rw [getD_add (by rw [add_len]; omega), if_pos rfl, getD_add (by omega), if_neg (fun z => hob z.symm), so]; omega
    unfold wserve
    rw [f3]
  · show [(wserve (add s p 1) a).1, (wserve (wserve (add s p 1) a).2 [(o, o)]).1] = _
    rw [w2]
    have f3 : wfind (add (add (add s p 1) p (-1)) l 1) [(o, o)] = none := by
      unfold wfind
      rw [List.find?_cons]
      have : ¬ 0 < (add (add (add s p 1) p (-1)) l 1).getD o 0 := by
        rw [getD_add (by simp only [add_len]; omega), if_neg (fun z => hol z.symm), getD_add (by simp only [add_len]; omega), getD_add (by omega), getD_add (by omega)]
        split
        · rw [if_pos rfl]; omega
        · omega
      simp only [this, decide_false]
      rfl
    unfold wserve
    rw [f3]
end Kb
namespace Kb
open PySem PySem.Spec PyProof.Rows L2
/-! ### dicts whose keys are tuples of numbers -/
def lookD : List (List Int × PyData) → List Int → Option PyData
  | [], _ => none
  | (a, x) :: r, k => if a = k then some x else lookD r k
/-- d[k] = v -/
def putD : List (List Int × PyData) → List Int → PyData → List (List Int × PyData)
  | [], k, v => [(k, v)]
  | (a, x) :: r, k, v => if a = k then (a, v) :: r else (a, x) :: putD r k v
theorem putD_keys : ∀ (kvs : List (List Int × PyData)) (k : List Int) (v : PyData), (putD kvs k v).map Prod.fst = if k ∈ kvs.map Prod.fst then kvs.map Prod.fst else kvs.map Prod.fst ++ [k]
  | [], k, v => by simp [putD]
  | (a, x) :: r, k, v => by
    unfold putD
    by_cases h : a = k
    · rw [if_pos h, List.map_cons, List.map_cons, if_pos (by rw [h]; exact List.mem_cons_self)]
    · rw [if_neg h, List.map_cons, putD_keys r k v, List.map_cons]
      by_cases g : k ∈ r.map Prod.fst
      · rw [if_pos g, if_pos (List.mem_cons_of_mem _ g)]
      · rw [if_neg g, if_neg (fun z => (List.mem_cons.1 z).elim (fun e => h e.symm) g)]; rfl
theorem putD_nodup {kvs : List (List Int × PyData)} {k : List Int} {v : PyData} (h : (kvs.map Prod.fst).Nodup) : ((putD kvs k v).map Prod.fst).Nodup := by
  rw [putD_keys]
  split
  · exact h
  · rename_i g
    rw [List.nodup_append]
    refine ⟨h, List.nodup_cons.2 ⟨List.not_mem_nil, List.nodup_nil⟩, fun a ha b hb => ?_⟩
    rw [List.mem_singleton.1 hb]
    exact fun e => g (e ▸ ha)
theorem putD_len (kvs : List (List Int × PyData)) (k : List Int) (v : PyData) : (putD kvs k v).length ≤ kvs.length + 1 := by
  have := congrArg List.length (putD_keys kvs k v)
  rw [List.length_map] at this
  rw [this]
  split <;> simp
theorem lookD_put (k j : List Int) (v : PyData) : ∀ kvs : List (List Int × PyData), lookD (putD kvs k v) j = if k = j then some v else lookD kvs j
  | [] => by
    unfold putD lookD
    rfl
  | (a, x) :: r => by
    unfold putD
    by_cases h : a = k
    · rw [if_pos h]
      subst h
      unfold lookD
      by_cases g : a = j
      · rw [if_pos g, if_pos g]
      · rw [if_neg g, if_neg g, if_neg g]
    · rw [if_neg h]
      unfold lookD
      rw [lookD_put k j v r]
      by_cases g : a = j
      · rw [if_pos g, if_pos g, if_neg (fun e => h (g.trans e.symm))]
      · rw [if_neg g, if_neg g]
section
variable {K : PySem.W.Frag} {G H : Hp} {X : Cx}
abbrev KD (prog : Program) (w : World) := tupleKind (intKind prog w)
theorem items_ints {prog : Program} {w : World} : ∀ {its : List Value} {ks : List Int}, Vals (ks.map V.int) its → ItemsAre (intKind prog w) ks its
  | [], [], _ => .nil
  | _, [], h => by cases h; exact .nil
  | _, k :: ks, h => by
    cases h with
    | cons r t =>
      obtain ⟨tk, rfl⟩ := r
      exact .cons (by simp [intKind, Value.isInt]) (items_ints t)
theorem key_ok {pins : List (Addr × Obj)} {σ : L2.St} {s : Shared} {b : Addr} {ks : List Int} (I : Inv X pins σ H s) (h : SqT X.K H b (ks.map V.int)) : (KD X.prog X.w).is s.heap ks b := by
  obtain ⟨its, r, ⟨o, e, hc, n, hd⟩, _⟩ := I.tuple h
  exact ⟨o, _, n, e, hc, hd, by simpa using items_ints r⟩
/-- the entries, one by one -/
inductive XK (K : PySem.W.Frag) (G : Hp) : List (List Int × Addr × Value) → List (List Int × PyData) → Prop
  | nil : XK K G [] []
  | cons {b : Addr} {k : List Int} {u : Value} {v : V} {d : PyData} {xs : List (List Int × Addr × Value)} {kvs : List (List Int × PyData)} : SqT K G b (k.map V.int) → RelV v u → Dp K G v d → XK K G xs kvs → XK K G ((k, b, u) :: xs) ((k, d) :: kvs)
def entD (x : List Int × Addr × Value) : DictEntry := ⟨tHash x.1, .ref x.2.1, x.2.2⟩
theorem xk_of : ∀ {es : List DictEntry} {kvs : List (List Int × PyData)}, DEnt K G es kvs → ∃ xs, es = xs.map entD ∧ XK K G xs kvs
  | _, _, .nil => ⟨[], rfl, .nil⟩
  | _, _, .cons a b c t => by
    obtain ⟨xs, e, x⟩ := xk_of t
    exact ⟨_ :: xs, by rw [e]; rfl, .cons a b c x⟩
theorem xk_dent : ∀ {xs : List (List Int × Addr × Value)} {kvs : List (List Int × PyData)}, XK K G xs kvs → DEnt K G (xs.map entD) kvs
  | _, _, .nil => .nil
  | _, _, .cons a b c t => .cons a b c (xk_dent t)
theorem xk_keys : ∀ {xs : List (List Int × Addr × Value)} {kvs : List (List Int × PyData)}, XK K G xs kvs → xs.map (·.1) = kvs.map Prod.fst
  | _, _, .nil => rfl
  | _, _, .cons _ _ _ t => by rw [List.map_cons, List.map_cons, xk_keys t]
theorem xk_len : ∀ {xs : List (List Int × Addr × Value)} {kvs : List (List Int × PyData)}, XK K G xs kvs → xs.length = kvs.length
  | _, _, .nil => rfl
  | _, _, .cons _ _ _ t => by rw [List.length_cons, List.length_cons, xk_len t]
theorem atKey_cons {x : List Int × Addr × Value} {xs : List (List Int × Addr × Value)} {k : List Int} : atKey (x :: xs) k = if x.1 = k then some x.2 else atKey xs k := by
  unfold atKey
  rw [List.find?_cons]
  by_cases h : x.1 = k
  · simp only [h, decide_true, if_true]; rfl
  · simp only [h, decide_false, if_false]
theorem xk_at {k : List Int} : ∀ {xs : List (List Int × Addr × Value)} {kvs : List (List Int × PyData)}, XK K G xs kvs → (atKey xs k = none ∧ lookD kvs k = none) ∨ ∃ b u v d, atKey xs k = some (b, u) ∧ lookD kvs k = some d ∧ RelV v u ∧ Dp K G v d
  | _, _, .nil => .inl ⟨rfl, rfl⟩
  | _, _, .cons (b := b) (k := a) (u := u) (v := v) (d := d) h1 h2 h3 t => by
    rw [atKey_cons]
    unfold lookD
    by_cases e : a = k
    · rw [if_pos e, if_pos e]
      exact .inr ⟨b, u, v, d, rfl, rfl, h2, h3⟩
    · rw [if_neg e, if_neg e]
      exact xk_at t
theorem xk_putAt {k : List Int} {v : V} {u : Value} {d : PyData} (r : RelV v u) (h : Dp K G v d) : ∀ {xs : List (List Int × Addr × Value)} {kvs : List (List Int × PyData)}, XK K G xs kvs → (kvs.map Prod.fst).Nodup → (lookD kvs k).isSome = true → XK K G (xs.map (putAt k u)) (putD kvs k d)
  | _, _, .nil, _, g => by cases g
  | _, _, .cons (b := b) (k := a) (u := u0) (xs := xs) (kvs := kvs) h1 h2 h3 t, n, g => by
    rw [List.map_cons, List.nodup_cons] at n
    unfold putD
    unfold lookD at g
    rw [List.map_cons]
    by_cases e : a = k
    · subst e
      rw [if_pos rfl]
      have e1 : putAt a u (a, b, u0) = (a, b, u) := by simp [putAt]
      rw [e1]
      have e2 : xs.map (putAt a u) = xs := map_putAt_of_not_mem xs a u (by rw [xk_keys t]; exact n.1)
      rw [e2]
      exact .cons h1 r h t
    · rw [if_neg e] at g ⊢
      have e1 : putAt k u (a, b, u0) = (a, b, u0) := by simp [putAt, e]
      rw [e1]
      exact .cons h1 h2 h3 (xk_putAt r h t n.2 g)
theorem xk_snoc {k : List Int} {b : Addr} {v : V} {u : Value} {d : PyData} (s : SqT K G b (k.map V.int)) (r : RelV v u) (h : Dp K G v d) : ∀ {xs : List (List Int × Addr × Value)} {kvs : List (List Int × PyData)}, XK K G xs kvs → lookD kvs k = none → XK K G (xs ++ [(k, b, u)]) (putD kvs k d)
  | _, _, .nil, _ => .cons s r h .nil
  | _, _, .cons (k := a) h1 h2 h3 t, g => by
    unfold lookD at g
    unfold putD
    by_cases e : a = k
    · rw [if_pos e] at g; cases g
    · rw [if_neg e] at g ⊢
      exact .cons h1 h2 h3 (xk_snoc s r h t g)
theorem xk_stored {k : List Int} {b : Addr} {v : V} {u : Value} {d : PyData} {xs : List (List Int × Addr × Value)} {kvs : List (List Int × PyData)} (s : SqT K G b (k.map V.int)) (r : RelV v u) (h : Dp K G v d) (x : XK K G xs kvs) (n : (kvs.map Prod.fst).Nodup) : XK K G (storedH xs k b u) (putD kvs k d) := by
  rcases xk_at (k := k) x with ⟨e1, e2⟩ | ⟨b', u', v', d', e1, e2, _, _⟩
  · rw [storedH_new e1]
    exact xk_snoc s r h x e2
  · rw [storedH_old e1]
    exact xk_putAt r h x n (by rw [e2]; rfl)
/-- the dict is held -/
theorem dictH {pins : List (Addr × Obj)} {σ : L2.St} {s : Shared} {a : Addr} {o : Obj} {xs : List (List Int × Addr × Value)} {kvs : List (List Int × PyData)} (I : Inv X pins σ H s) (hH : H a = some (dO a o)) (k : DOk a o (xs.map entD)) (x : XK X.K H xs kvs) (n : (kvs.map Prod.fst).Nodup) : s.heap.DictOfH (KD X.prog X.w) a xs := by
  obtain ⟨h1, _⟩ := (show _ ∧ _ from I.hok a _ hH)
  obtain ⟨es, ep, e1, e2⟩ := k.da
  refine ⟨o, es, ep, h1, k.ex, e1, by rw [e2]; rfl, ?_, by rw [xk_keys x]; exact n⟩
  have all : ∀ {xs : List (List Int × Addr × Value)} {kvs : List (List Int × PyData)}, XK X.K H xs kvs → ∀ y ∈ xs, (KD X.prog X.w).is s.heap y.1 y.2.1 := by
    intro xs kvs x
    induction x with
    | nil => intro y hy; exact nomatch hy
    | cons h1 h2 h3 t ih =>
      intro y hy
      rcases List.mem_cons.1 hy with rfl | hy
      · exact key_ok I h1
      · exact ih y hy
  exact all x
/-! #### k in d, k not in d, d[k] -/
def DHas (K : PySem.W.Frag) (H : Hp) (a : Addr) (o : Obj) (kvs : List (List Int × PyData)) : Prop := H a = some (dO a o) ∧ ∃ xs, DOk a o (xs.map entD) ∧ XK K H xs kvs ∧ (kvs.map Prod.fst).Nodup
def rDIn (K : PySem.W.Frag) (neg : Bool) : R2 := fun x y H Q => ∃ b a o ks kvs, x = .ref b ∧ y = .ref a ∧ DHas K H a o kvs ∧ SqT K H b (ks.map V.int) ∧ Q (.bl (if neg then !(lookD kvs ks).isSome else (lookD kvs ks).isSome)) H
theorem op_din (hu : X.A.units + 1 < cLine) : OpR X (compareOp .In) (rDIn X.K false) := by
  intro pins s σ H x y v u Q I rx ry h
  obtain ⟨b, a, o, ks, kvs, rfl, rfl, ⟨hH, xs, k, xk, n⟩, hs, q⟩ := h
  cases rx
  cases ry
  refine wpAny_in_heap (tupleKind_room_in1 hu) (key_ok I hs) k.ne (dictH I hH k xk n) ?_
  have e : (atKey xs ks).isSome = (lookD kvs ks).isSome := by
    rcases xk_at (k := ks) xk with ⟨e1, e2⟩ | ⟨_, _, _, _, e1, e2, _, _⟩ <;> rw [e1, e2] <;> rfl
  rw [e]
  have q' : Q (.bl (lookD kvs ks).isSome) H := q
  exact ⟨.bl _, H, I.tok _, rfl, q'⟩
theorem op_dnotin (hu : X.A.units + 1 < cLine) : OpR X (compareOp .NotIn) (rDIn X.K true) := by
  intro pins s σ H x y v u Q I rx ry h
  obtain ⟨b, a, o, ks, kvs, rfl, rfl, ⟨hH, xs, k, xk, n⟩, hs, q⟩ := h
  cases rx
  cases ry
  refine wpAny_notIn_heap (tupleKind_room_in1 hu) (key_ok I hs) k.ne (dictH I hH k xk n) ?_
  have e : (atKey xs ks).isSome = (lookD kvs ks).isSome := by
    rcases xk_at (k := ks) xk with ⟨e1, e2⟩ | ⟨_, _, _, _, e1, e2, _, _⟩ <;> rw [e1, e2] <;> rfl
  rw [e]
  have q' : Q (.bl (!(lookD kvs ks).isSome)) H := q
  exact ⟨.bl _, H, I.tok _, rfl, q'⟩
def rDGet (K : PySem.W.Frag) : R2 := fun x y H Q => ∃ a b o ks xs kvs b' u' v, x = .ref a ∧ y = .ref b ∧ H a = some (dO a o) ∧ DOk a o (xs.map entD) ∧ XK K H xs kvs ∧ (kvs.map Prod.fst).Nodup ∧ SqT K H b (ks.map V.int) ∧ atKey xs ks = some (b', u') ∧ RelV v u' ∧ Q v H
theorem dict_ty {pins : List (Addr × Obj)} {σ : L2.St} {s : Shared} {a : Addr} {o : Obj} {xs : List (List Int × Addr × Value)} {kvs : List (List Int × PyData)} (I : Inv X pins σ H s) (hH : H a = some (dO a o)) (k : DOk a o (xs.map entD)) (x : XK X.K H xs kvs) (n : (kvs.map Prod.fst).Nodup) : s.TypeIs (.ref a) "dict" := (dictH I hH k x n).typeIs
theorem ix_dict (hu : X.A.units + 1 < cLine) : IxR X (rDGet X.K) := by
  intro value slice pins s σ H x y v u Q I rx ry h hs
  obtain ⟨a, b, o, ks, xs, kvs, b', u', v', rfl, rfl, hH, k, xk, n, hks, e1, rv, q⟩ := h
  cases rx
  cases ry
  have hD := dictH I hH k xk n
  have hT : s.TypeIs (.ref a) "dict" := hD.typeIs
  unfold subscriptTail
  refine wpAny_bind ?_
  rw [getitemInPython_of_ne hT.not_modules]
  refine wpAny_bind (wpAny_specialOf hT PySem.F.slot_dict_getitem.lookup ?_)
  have body : wpAny (model X.prog X.w) X.A (subscripted slice false (.ref a) (.ref b)) (fun r s3 => wpAny (model X.prog X.w) X.A (letTemporaryGo value (.ref a) r >>= fun _ => pure r) (EP X pins σ Q) X.xe s3) X.xe s := by
    rw [hs]
    refine wpAny_operating (wpAny_getItem_heap (tupleKind_room_in1 hu) (key_ok I hks) hD e1 ?_)
    exact wpAny_bind (wpAny_letTemporaryGo (wpAny_pure ⟨v', H, I.tok _, rv, q⟩))
  first
    | exact wpAny_pure (wpAny_bind body)
    | exact wpAny_bind (wpAny_pure (wpAny_bind body))
    | exact wpAny_bind body
/-! #### {}, d[k] = v -/
theorem dO_ok {P : Program} {w : World} {H : Hp} {h : Heap} {a : Addr} {o : Obj} (e : h.get? a = some o) : ObjOk P w H h a (dO a o) := ⟨e, ⟨o, e⟩, fun _ _ p k => k _ p⟩
def tDNewO : TE := fun _ H Q => ∀ p o, DOk p o [] → H p = none → Q (.ref p) (upd H p (dO p o))
theorem pe_dnewO {pos : Pos} : PE X (.Dict [] [] pos) tDNewO := ⟨fun pins s σ H Q I h => by
  have ne : (s.heap.objs.size == sysModules) = false := beq_eq_false_iff_ne.mpr (Ne.symm (Nat.ne_of_lt I.big))
  exact wpAny_Dict_empty ⟨.ref s.heap.objs.size, _, I.laid (a := s.heap.objs.size) (o := dO s.heap.objs.size { cls := .type "dict", data := .dict #[] }) (t' := s.toks) (fun _ _ q => Heap.get?_push_of_some _ q) (Nat.le_refl _) (dO_ok (Heap.get?_push_size _ rfl)), rfl, h _ _ ⟨ne, ⟨rfl, rfl, rfl⟩, #[], 0, rfl, rfl⟩ (I.hok.fresh (Nat.le_refl _))⟩⟩
def sDPutO (K : PySem.W.Frag) (td ty tv : TE) : TS := fun D σ H => tv σ H fun v H1 => td σ H1 fun x H2 => ty σ H2 fun y H3 => ∃ a b o ks xs kvs, x = .ref a ∧ y = .ref b ∧ H3 a = some (dO a o) ∧ DOk a o (xs.map entD) ∧ XK K H3 xs kvs ∧ (kvs.map Prod.fst).Nodup ∧ SqT K H3 b (ks.map V.int) ∧ xs.length ≤ sizeLine ∧
  ∀ o' u, RelV v u → DOk a o' ((storedH xs ks b u).map entD) → D.nx σ (upd H3 a (dO a o'))
theorem ps_dputO {o i value : Expr} {pos pos' : Pos} {td ty tv : TE} (hu : X.A.units + 1 < cLine) (ho : PE X o td) (hi : PE X i ty) (hv : PE X value tv) (hs : swapsWith value (some (.Subscript o i pos')) pos.line X.env = pure false) :
    PS X (.Assign [.Subscript o i pos'] value pos) (sDPutO X.K td ty tv) := by
  refine ⟨fun pins s σ H D I h => wpAny_Assign_Subscript (thn (hv.run pins s σ H _ I h) fun r s1 h1 => ?_) hs⟩
  obtain ⟨v, H1, I1, rv, q1⟩ := h1
  refine thn (ho.run pins s1 σ H1 _ I1 q1) fun u s2 h2 => ?_
  obtain ⟨x, H2, I2, rx, q2⟩ := h2
  refine thn (hi.run pins s2 σ H2 _ I2 q2) fun iv s3 h3 => ?_
  obtain ⟨y, H3, I3, ry, a, b, ob, ks, xs, kvs, rfl, rfl, hH, k, xk, n, hks, hz, q3⟩ := h3
  cases rx
  cases ry
  refine wpAny_setItem_heap (hsz := hz) (tupleKind_room_in1 hu) (key_ok I3 hks) (dictH I3 hH k xk n) fun h' dd hsb => ?_
  obtain ⟨o2, es, ep, g1, g2, g3, g4, _, _⟩ := dd
  have k2 : DOk a o2 ((storedH xs ks b r).map entD) := ⟨k.ne, g2, es, ep, g3, g4⟩
  exact ⟨σ, _, I3.write (x := a) (e := a) (by rw [hH]; trivial) (.inl rfl) (fun c q hb z => (hsb.2 c hb).trans z) ⟨o2, g1⟩ (dO_ok g1), q3 o2 r rv k2⟩
end
section
variable {P : Program} {w : World} {K : PySem.W.Frag} {mg : Str → Option Value} {base : Heap} {k : Nat} {N : List Str} {sc : Scf} {pin : List Bool}
variable {G H : Hp} {B : Addr → Prop} {σ : L2.St} {env : Ev}
variable {a b e : Expr} {pos p : Pos} {A O : WO} {W U : WE} {x : Str}
def dictOf : DV → Option (List (List Int × PyData))
  | .odict kvs => some kvs
  | .sdict kvs => some kvs
  | _ => none
def fDIn (neg : Bool) : F2 := fun x y Q => match x, dictOf y with
  | .data (.tuple ds), some kvs => (match intsOf ds with
    | some ks => Q (.data (.bool (if neg then !(lookD kvs ks).isSome else (lookD kvs ks).isSome)))
    | none => False)
  | _, _ => False
theorem pk_dictG {y : V} {dy : DV} {kvs : List (List Int × PyData)} (h : Pk K G H y dy) (l : Le G H) (e : dictOf dy = some kvs) : ∃ a o xs, y = .ref a ∧ H a = some (dO a o) ∧ DOk a o (xs.map entD) ∧ XK K G xs kvs ∧ (kvs.map Prod.fst).Nodup := by
  obtain ⟨C, h⟩ := h
  cases h with
  | @odict _ a o es _ hb hp k t n =>
    cases e
    obtain ⟨xs, rfl, xk⟩ := xk_of t
    exact ⟨a, o, xs, rfl, hp, k, xk, n.1⟩
  | @sdict _ a o es _ hp k t n =>
    cases e
    obtain ⟨xs, rfl, xk⟩ := xk_of t
    exact ⟨a, o, xs, rfl, l _ _ hp, k, xk, n.1⟩
  | data _ => cases e
  | olist _ _ _ => cases e
  | otup _ _ _ => cases e
theorem xk_le (l : Le G H) : ∀ {xs : List (List Int × Addr × Value)} {kvs : List (List Int × PyData)}, XK K G xs kvs → XK K H xs kvs
  | _, _, .nil => .nil
  | _, _, .cons a b c t => .cons (sqt_le l a) b (dp_le l c) (xk_le l t)
theorem pk_dict {y : V} {dy : DV} {kvs : List (List Int × PyData)} (h : Pk K G H y dy) (l : Le G H) (e : dictOf dy = some kvs) : ∃ a o, y = .ref a ∧ DHas K H a o kvs := by
  obtain ⟨a, o, xs, h1, h2, h3, h4, h5⟩ := pk_dictG h l e
  exact ⟨a, o, h1, h2, xs, h3, xk_le l h4, h5⟩
theorem pk_key {x : V} {ds : List PyData} {ks : List Int} (h : Pk K G H x (.data (.tuple ds))) (l : Le G H) (e : intsOf ds = some ks) : ∃ b, x = .ref b ∧ SqT K H b (ks.map V.int) := by
  obtain ⟨q, vs, ex, s, t⟩ := h.tup l (ds := ds) rfl
  rw [intsOf_ok e] at t
  have := dpa_ints t
  subst this
  exact ⟨q, ex, s⟩
theorem snd_din {neg : Bool} : SndR2 K (rDIn K neg) (fDIn neg) := fun G H x y dx dy Q Qv l px py h q => by
  unfold fDIn at h
  split at h
  case h_2 => exact h.elim
  rename_i ds kvs ey
  split at h
  case h_2 => exact h.elim
  rename_i ks ek
  obtain ⟨b, rfl, hb⟩ := pk_key px l ek
  obtain ⟨a, o, rfl, hd⟩ := pk_dict py l ey
  exact ⟨b, a, o, ks, kvs, rfl, rfl, hd, hb, q _ H G _ _ h (Alloc.refl l) (.data (.bl _))⟩
theorem cmp_din : CmpR P w K mg base k N sc .In (fDIn false) := ⟨rDIn K false, fun X hX => by rw [← hX.eK]; exact op_din (by have := hX.room.un; omega), snd_din⟩
theorem cmp_dni : CmpR P w K mg base k N sc .NotIn (fDIn true) := ⟨rDIn K true, fun X hX => by rw [← hX.eK]; exact op_dnotin (by have := hX.room.un; omega), snd_din⟩
def fDGet : F2 := fun x y Q => match dictOf x, y with
  | some kvs, .data (.tuple ds) => (match intsOf ds with
    | some ks => (match lookD kvs ks with
      | some d => Q (.data d)
      | none => False)
    | none => False)
  | _, _ => False
theorem snd_dget : SndR2 K (rDGet K) fDGet := fun G H x y dx dy Q Qv l px py h q => by
  unfold fDGet at h
  split at h
  case h_2 => exact h.elim
  rename_i kvs ds ex
  split at h
  case h_2 => exact h.elim
  rename_i ks ek
  split at h
  case h_2 => exact h.elim
  rename_i d ed
  obtain ⟨b, rfl, hb⟩ := pk_key py l ek
  obtain ⟨a, o, xs, rfl, hp, k, xk, n⟩ := pk_dictG px l ex
  rcases xk_at (k := ks) xk with ⟨_, e2⟩ | ⟨b', u', v', d', e1, e2, r, dp⟩
  · rw [ed] at e2; cases e2
  · rw [ed] at e2
    cases e2
    exact ⟨a, b, o, ks, xs, kvs, b', u', v', rfl, rfl, hp, k, xk_le l xk, n, hb, e1, r, q v' H G _ _ h (Alloc.refl l) (.data dp)⟩
theorem den_dget (ha : DenO P w K mg base k N sc a A) (hb : DenO P w K mg base k N sc b O) (hs : PlainIx b := by intros _ _; rfl) : DenE P w K mg base k N sc (.Subscript a b pos) (w2 fDGet A O) :=
  den_ix (r := rDGet K) (fun X hX => by rw [← hX.eK]; exact ix_dict (by have := hX.room.un; omega)) snd_dget ha hb hs
/-- {} -/
def wDNew : WE := fun env Q => Q (.odict []) env
theorem den_dnew : DenE P w K mg base k N sc (.Dict [] [] pos) wDNew := by
  refine ⟨tDNewO, fun X _ => pe_dnewO, fun σ H G B env Q Qv c hw q p o k hp => ?_⟩
  have al := Alloc.own (o := dO p o) c.le hp
  exact q (.ref p) _ G B _ env _ hw (al.res c) (.odict rfl upd_same k .nil ⟨List.nodup_nil, Nat.zero_le _⟩)
/-- a dict of the state gets another object -/
theorem Conc.mutD {i : Nat} {kvs : List (List Int × PyData)} (c : Conc K H G B σ env) (e : env[i]? = some (some (.odict kvs))) : ∃ (p : Addr) (o : Obj) (xs : List (List Int × Addr × Value)), σ[i]? = some (some (.ref p)) ∧ H p = some (dO p o) ∧ DOk p o (xs.map entD) ∧ XK K G xs kvs ∧ (kvs.map Prod.fst).Nodup ∧ kvs.length ≤ 16000000 ∧
    ∀ o' xs' kvs', DOk p o' (xs'.map entD) → XK K G xs' kvs' → (kvs'.map Prod.fst).Nodup → kvs'.length ≤ 16000000 → Conc K (upd H p (dO p o')) G B σ (env.set i (some (.odict kvs'))) ∧ Step H G B (upd H p (dO p o')) G B := by
  obtain ⟨v, C, B', a, h, q, c1, c2, c3⟩ := c.own.take e
  cases h with
  | @odict _ p o es _ pc hp k t n =>
    obtain ⟨xs, rfl, xk⟩ := xk_of t
    have pB := c1 p pc
    have gp := (c.fr p pB).1
    refine ⟨p, o, xs, a, hp, k, xk, n.1, n.2, fun o' xs' kvs' k' xk' n1 n2 => ⟨⟨fun a o z => ?_, fun a z => ⟨(c.fr a z).1, ?_⟩, ?_⟩, Le.rfl', fun a z => .inl z, fun a z n => ?_, fun a z => ?_⟩⟩
    · have : a ≠ p := fun y => by rw [y, gp] at z; cases z
      rw [upd_ne this]
      exact c.le a o z
    · by_cases y : a = p
      · rw [y, upd_same]; exact fun q => nomatch q
      · rw [upd_ne y]; exact (c.fr a z).2
    · have q2 : OwnE K G (upd H p (dO p o')) B' σ (env.set i none) := q.mono Le.rfl' (fun a o z y => by
        have : a ≠ p := fun y => c3 p pc (y ▸ z)
        rw [upd_ne this]; exact y) fun _ z => z
      have q3 := OwnE.put (C := C) i q2 (OwnV.odict pc upd_same k' (xk_dent xk') ⟨n1, n2⟩) c3
      rw [set_self a, List.set_set] at q3
      exact q3.mono Le.rfl' (fun _ _ _ y => y) fun a z => z.elim (c2 a) (c1 a)
    · have : a ≠ p := fun y => n (y ▸ pB)
      exact ⟨upd_ne this, rfl⟩
    · by_cases y : a = p
      · rw [y, upd_same]; exact fun q => nomatch q
      · rw [upd_ne y]; exact z
def sDSet (i : Nat) (W U : WE) : WS := fun D env => W env fun dv e => dv.nd = true ∧ match e[i]? with
  | some (some (.odict _)) => (U e fun x e2 => match x, e2[i]? with
    | .data (.tuple ds), some (some (.odict kvs)) => (match intsOf ds with
      | some ks => kvs.length < lim ∧ D.nx (e2.set i (some (.odict (putD kvs ks dv.dat))))
      | none => False)
    | _, _ => False)
  | _ => False
theorem dens_dset {i : Nat} {ie : Expr} {pt : Pos} (hN : N[i]? = some x) (hv : SeeB sc x = true) (h : DenE P w K mg base k N sc e W) (hi : DenE P w K mg base k N sc ie U)
    (hs : ∀ env, swapsWith e (some (.Subscript (.Name x p) ie pt)) pos.line env = pure false := by intros; rfl) (hd : (x == ("__debug__" : Str)) = false := by decide) (hcd : (x == ("__classdict__" : Str)) = false := by decide) :
    DenS P w K mg base k N sc pin (.Assign [.Subscript (.Name x p) ie pt] e pos) (sDSet i W U) := by
  obtain ⟨te, h1, h2⟩ := h
  obtain ⟨ti, i1, i2⟩ := hi
  refine ⟨sDPutO K (tVar i) ti te, fun X hX => by rw [← hX.eK]; exact ps_dputO (by have := hX.room.un; omega) (pe_nm hX hN hv hd hcd) (i1 X hX) (h1 X hX) (hs X.env), fun σ H G B env D DW c hw q => ?_⟩
  refine h2 σ H G B env _ _ c hw fun v H1 G1 B1 C1 e1 dv hq r o => ?_
  obtain ⟨hnd, hq⟩ := hq
  obtain ⟨r2, dp⟩ := r.freeze o hnd
  split at hq
  case h_2 => exact hq.elim
  rename_i kv0 e0
  obtain ⟨p0, o0, xs0, a0, _⟩ := r2.conc.mutD e0
  refine ⟨_, a0, ?_⟩
  refine i2 σ H1 _ B1 e1 _ _ r2.conc hq fun z H2 G2 B2 C2 e2 dz hq2 r3 o3 => ?_
  split at hq2
  case h_2 => exact hq2.elim
  rename_i ds kvs e3
  split at hq2
  case h_2 => exact hq2.elim
  rename_i ks ek
  obtain ⟨b, rfl, hb⟩ := pk_key (K := K) (G := G2) (H := H2) ⟨C2, o3⟩ r3.conc.le ek
  have hbG : SqT K G2 b (ks.map V.int) := by
    cases o3 with
    | data hh =>
      cases hh with
      | tup s t =>
        rw [intsOf_ok ek] at t
        have := dpa_ints t
        subst this
        exact s
  obtain ⟨p1, o1, xs, a1, hp, k1, xk, n1, n2, m⟩ := r3.conc.mutD e3
  rw [a0] at a1
  cases a1
  refine ⟨p0, b, o1, ks, xs, kvs, rfl, rfl, hp, k1, xk_le r3.conc.le xk, n1, hb, by rw [xk_len xk]; exact lim_le n2, fun o' u ru k2 => ?_⟩
  obtain ⟨c4, s4⟩ := m o' _ _ k2 (xk_stored hbG ru (dp_le r3.drop.g dp) xk n1) (putD_nodup n1) (by have := putD_len kvs ks dv.dat; have h3 : kvs.length < 16000000 := hq2.1; omega)
  exact q.nx σ _ G2 B2 _ hq2.2 c4 ((r2.drop.tr r3.drop).tr s4) pinned.refl
end
/-! #### for k in d -/
/-- the keys of a dict that stays -/
def Itdo (a : Addr) (o : Obj) (xs : List (List Int × Addr × Value)) : It :=
  ⟨fun i H => H a = some (dO a o) ∧ i < xs.length, fun i H x H' => H' = H ∧ ∃ e, xs[i]? = some e ∧ x = V.ref e.2.1, fun i H => H a = some (dO a o) ∧ xs.length ≤ i⟩
section
variable {P : Program} {w : World} {K : PySem.W.Frag} {tg : Expr} {a : Addr} {o : Obj} {xs : List (List Int × Addr × Value)}
theorem turn_do {es : Array DictEntry} {ep : Nat} (it : Addr) (hod : o.data = .dict es ep) (hes : es.toList = xs.map entD) : Turn P w K tg (Itdo a o xs) [it] it (fun i h => h.IsKeyIter it a i xs.length ep) where
  mem := List.mem_singleton.2 rfl
  obj := fun i h st b hb => by
    cases List.mem_singleton.1 hb
    obtain ⟨oi, e, c, dd⟩ := st
    exact ⟨oi, e, fun v z => by rw [dd] at z; cases z⟩
  keep := fun i h h' st k => st.at fun oi e => k it (List.mem_singleton.2 rfl) oi e
  item := by
    rintro X rfl rfl rfl hcm i pins s σ H E I hf st ⟨hd, hi⟩
    obtain ⟨f0, f1, f2, f3, f4, f5⟩ := hf it (List.mem_singleton.2 rfl)
    obtain ⟨hgd, _⟩ := (show _ ∧ _ from I.hok a _ hd)
    have hsz : es.size = xs.length := by rw [← Array.length_toList, hes, List.length_map]
    have hen : es[i]? = some (entD xs[i]) := by
      rw [← Array.getElem?_toList, hes, List.getElem?_map, List.getElem?_eq_getElem hi]; rfl
    refine next_key_item st hgd hod hsz hen fun h' st' sb => ?_
    have J1 : Inv X pins σ H { s with heap := h' } := I.turned (t' := s.toks) (fun b ob hb e => (sb.2 b hb).trans e) f0 f1 f3 f4 f5
    obtain ⟨oi, e, c, dd⟩ := id st'
    exact ⟨_, rfl, go_of (s := { s with heap := h' }) e c dd (by decide) ⟨.ref xs[i].2.1, H, J1, rfl, ⟨rfl, _, List.getElem?_eq_getElem hi, rfl⟩, st', fun b hb => (hf b hb).1⟩⟩
  done := by
    rintro X rfl rfl rfl hcm i pins s σ H E I hf st ⟨hd, hi⟩
    obtain ⟨f0, f1, f2, f3, f4, f5⟩ := hf it (List.mem_singleton.2 rfl)
    obtain ⟨hgd, _⟩ := (show _ ∧ _ from I.hok a _ hd)
    have hsz : es.size = xs.length := by rw [← Array.length_toList, hes, List.length_map]
    exact next_key_end (I.ok.hd hcm) st hgd hod hsz hi fun h' eb => ⟨rfl, I.turned (t' := s.toks) (fun b ob hb e => eb b ob hb e) f0 f1 f3 f4 f5⟩
  self := fun A i s Q E st h => by
    refine wpAny_pyIter_slot st.typeIs F.slot_dict_keyiterator_iter (wpAny_call_entry F.slot_dict_keyiterator_iter st.typeIs F.entry_dict_keyiterator_iter ?_ (F.args_dict_keyiterator_iter_1 _))
    exact wpAny_pure ⟨_, rfl, "dict_keyiterator", _, st.typeIs, F.slot_dict_keyiterator_next.lookup, h⟩
end
def iKeysO (td : TE) : TI := fun σ H R => td σ H fun x H1 => ∃ a o xs, x = .ref a ∧ H1 a = some (dO a o) ∧ DOk a o (xs.map entD) ∧ R (Itdo a o xs) H1
theorem pi_keysO {X : Cx} {tg e : Expr} {td : TE} (he : PE X e td) : PI X tg e (iKeysO td) := by
  refine ⟨fun pins s σ H R I h => thn (he.run pins s σ H _ I h) fun u s1 h1 => ?_⟩
  obtain ⟨x, H1, I1, rx, a, o, xs, rfl, hd, k, q⟩ := h1
  cases rx
  obtain ⟨hgd, _⟩ := (show _ ∧ _ from I1.hok a _ hd)
  obtain ⟨es, ep, hod, hes⟩ := k.da
  have hsz : es.size = xs.length := by rw [← Array.length_toList, hes, List.length_map]
  refine iter_keys k.ne hgd k.ex hod (pi_one (tk := s1.toks) I1 _ (turn_do _ hod hes) ⟨_, Heap.get?_push_size _ rfl, rfl, ?_⟩ q)
  rw [hsz] <;> rfl
section
variable {P : Program} {w : World} {K : PySem.W.Frag} {mg : Str → Option Value} {base : Heap} {k : Nat} {N : List Str} {sc : Scf} {pin : List Bool}
variable {G H : Hp} {B : Addr → Prop} {σ : L2.St} {env : Ev} {tg e : Expr} {W : WE}
def keysD (kvs : List (List Int × PyData)) : List PyData := kvs.map fun p => .tuple (p.1.map .int)
def iDk (W : WE) : WI := fun env Q => W env fun dv e => match dv with
  | .sdict kvs => Q (keysD kvs) e
  | _ => False
theorem xk_get {i : Nat} {x : List Int × Addr × Value} : ∀ {xs : List (List Int × Addr × Value)} {kvs : List (List Int × PyData)} {i : Nat}, XK K G xs kvs → xs[i]? = some x → ∃ p, kvs[i]? = some p ∧ p.1 = x.1 ∧ SqT K G x.2.1 (x.1.map V.int)
  | _, _, _, .nil, h => by simp at h
  | _, _, 0, .cons a b c t, h => by
    simp only [List.getElem?_cons_zero, Option.some.injEq] at h
    subst h
    exact ⟨_, rfl, rfl, a⟩
  | _, _, i + 1, .cons a b c t, h => by
    obtain ⟨p, h1, h2, h3⟩ := xk_get (i := i) t (by simpa using h)
    exact ⟨p, by simpa using h1, h2, h3⟩
theorem itdo_ok {a : Addr} {o : Obj} {xs : List (List Int × Addr × Value)} {kvs : List (List Int × PyData)} (h : G a = some (dO a o)) (xk : XK K G xs kvs) : ItOk K (Itdo a o xs) G (keysD kvs) where
  go := fun H i l hi => ⟨l _ _ h, by unfold keysD at hi; rw [List.length_map] at hi; rw [xk_len xk]; exact hi⟩
  stop := fun H l => ⟨l _ _ h, by unfold keysD; rw [List.length_map, xk_len xk]; exact Nat.le_refl _⟩
  yld := fun H G1 H' i x l l1 hi y => by
    obtain ⟨rfl, e, h1, rfl⟩ := y
    obtain ⟨p, h2, h3, h4⟩ := xk_get (i := i) xk h1
    refine ⟨.tuple (p.1.map .int), G1, by unfold keysD; rw [List.getElem?_map, h2]; rfl, Alloc.refl l1, .tup (sqt_le l h4) ?_⟩
    rw [h3]
    exact dpa_of_ints _
theorem deni_keys (h : DenE P w K mg base k N sc e W) : DenI P w K mg base k N sc tg e (iDk W) := by
  obtain ⟨te, h1, h2⟩ := h
  refine ⟨iKeysO te, fun X hX => pi_keysO (h1 X hX), fun σ H G B env Q R c hw q => ?_⟩
  refine h2 σ H G B env _ _ c hw fun v H1 G1 B1 C1 e1 dv hq r ow => ?_
  split at hq
  case h_2 => exact hq.elim
  rename_i kvs
  cases ow with
  | @sdict _ a o es _ hp kk t n =>
    obtain ⟨xs, rfl, xk⟩ := xk_of t
    exact ⟨a, o, xs, rfl, r.conc.le _ _ hp, kk, q _ _ H1 G1 B1 e1 hq r.bare.conc r.drop (itdo_ok hp xk)⟩
end
end Kb
namespace Kb
open PySem PySem.Spec PyProof.Rows L2
/-! ### a comprehension with two clauses -/
section
variable {P : Program} {w : World} {K : PySem.W.Frag} {mg : Str → Option Value} {base : Heap} {k : Nat} {N : List Str} {sc : Scf} {pin : List Bool}
variable {H G : Hp} {B : Addr → Prop} {σ : L2.St} {env : Ev} {a b e tg tg1 elt iter iter1 : Expr} {ifs ifs1 : List Expr} {scope : Scope} {own : List (Str × Nat)} {is1 : List Nat} {pos p : Pos} {W : WE} {T T1 : WT} {I I1 : WI} {g g1 : WG} {x : Str}
def compGo2 (g : WG) (T : WT) (I1 : WI) (g1 : WG) (T1 : WT) (W : WE) (is is1 : List Nat) (Q : List PyData → Ev → Prop) : List PyData → List PyData → Ev → Prop
  | [], acc, env => Q acc (kill env is)
  | d :: ds, acc, env => g (.data d) (kill env is) fun e1 => T e1 fun b e2 => if b = true then I1 e2 fun ds1 e3 => compGo g1 T1 W is1 (fun acc2 e4 => compGo2 g T I1 g1 T1 W is is1 Q ds acc2 e4) ds1 acc e3 else compGo2 g T I1 g1 T1 W is is1 Q ds acc e2
def wComp2 (I : WI) (g : WG) (T : WT) (I1 : WI) (g1 : WG) (T1 : WT) (W : WE) (is is1 : List Nat) : WE := fun env Q => I env fun ds e => compGo2 g T I1 g1 T1 W is is1 (fun acc e2 => Q (.olist acc) (bring e e2 is)) ds [] e
/-- what is unchanged since the comprehension began -/
def Kept2 (H1 G1 : Hp) (B1 : Addr → Prop) (H' G' : Hp) (B' : Addr → Prop) : Prop := Le G1 G' ∧ (∀ a, B' a → B1 a ∨ H1 a = none) ∧ (∀ a, H1 a ≠ none → ¬ B1 a → H' a = H1 a ∧ G' a = G1 a) ∧ ∀ a, H1 a ≠ none → H' a ≠ none
theorem Kept2.step {H1 G1 H' G' H3 G3 : Hp} {B1 B' B3 : Addr → Prop} (h : Kept2 H1 G1 B1 H' G' B') (s3 : Step H' G' B' H3 G3 B3) : Kept2 H1 G1 B1 H3 G3 B3 := by
  obtain ⟨l', ow, fr, th⟩ := h
  refine ⟨l'.tr s3.g, fun a z => (s3.own a z).elim (ow a) fun n => ?_, fun a z n => ?_, fun a z => s3.th a (th a z)⟩
  · by_cases h : H1 a = none
    · exact .inr h
    · exact absurd n (th a h)
  · obtain ⟨e1, e2⟩ := fr a z n
    have nb : ¬ B' a := fun y => (ow a y).elim n z
    obtain ⟨e3, e4⟩ := s3.fr a (th a z) nb
    exact ⟨e3.trans e1, e4.trans e2⟩
theorem Kept2.put {H1 G1 H' G' : Hp} {B1 B' : Addr → Prop} (h : Kept2 H1 G1 B1 H' G' B') {D : Addr} (hD : H1 D = none) (o) : Kept2 H1 G1 B1 (upd H' D o) G' B' := by
  obtain ⟨t1, t2, t3, t4⟩ := h
  refine ⟨t1, t2, fun a z n => ?_, fun a z => ?_⟩
  · rw [upd_ne fun y => by rw [y] at z; exact z hD]
    exact t3 a z n
  · rw [upd_ne fun y => by rw [y] at z; exact z hD]
    exact t4 a z
/-- the list that grows -/
def Grow (K : PySem.W.Frag) (D : Addr) (us : List V) (acc : List PyData) (H' G' : Hp) (B' : Addr → Prop) : Prop := H' D = some (.lst us) ∧ DpAll K G' us acc ∧ G' D = none ∧ ¬ B' D
theorem Grow.step {D : Addr} {us : List V} {acc : List PyData} {H' G' H3 G3 : Hp} {B' B3 : Addr → Prop} (h : Grow K D us acc H' G' B') (s3 : Step H' G' B' H3 G3 B3) : Grow K D us acc H3 G3 B3 := by
  obtain ⟨h1, h2, h3, h4⟩ := h
  have nn : H' D ≠ none := by rw [h1]; exact fun q => nomatch q
  obtain ⟨e1, e2⟩ := s3.fr D nn h4
  exact ⟨e1.trans h1, dpa_le s3.g h2, e2.trans h3, fun z => (s3.own D z).elim h4 nn⟩
theorem Grow.conc {D : Addr} {us us' : List V} {acc acc' : List PyData} {H' G' : Hp} {B' : Addr → Prop} (h : Grow K D us acc H' G' B') (c : Conc K H' G' B' σ env) (d : DpAll K G' us' acc') : Conc K (upd H' D (.lst us')) G' B' σ env ∧ Grow K D us' acc' (upd H' D (.lst us')) G' B' := by
  obtain ⟨k1, _, k2, k3⟩ := h
  refine ⟨⟨fun a o z => ?_, fun a z => ⟨(c.fr a z).1, ?_⟩, c.own.mono Le.rfl' (fun a o z w => ?_) fun _ z => z⟩, upd_same, d, k2, k3⟩
  · rw [upd_ne fun w => by rw [w, k2] at z; cases z]
    exact c.le a o z
  · by_cases w : a = D
    · rw [w, upd_same]; exact fun q => nomatch q
    · rw [upd_ne w]; exact (c.fr a z).2
  · rw [upd_ne fun y => k3 (by rw [← y]; exact z)]
    exact w
theorem drop_cons {α : Type} {ds : List α} {i : Nat} (h : i < ds.length) {d : α} (e : ds[i]? = some d) : ds.drop i = d :: ds.drop (i + 1) := by
  rw [List.drop_eq_getElem_cons h]
  have : ds[i] = d := by
    rw [List.getElem?_eq_getElem h] at e
    exact Option.some.inj e
  rw [this]
theorem snd_comp2 {ti ti1 : TI} {g' g1' : TG} {tt tt1 : TT} {te : TE} {is : List Nat} (hi : SndI K ti I) (hg : SndG K [] g' g) (ht : SndT K tt T) (hi1 : SndI K ti1 I1) (hg1 : SndG K [] g1' g1) (ht1 : SndT K tt1 T1) (he : SndE K te W) (hw : Wipes g' is) (hw1 : Wipes g1' is1) :
    SndE K (tLc2 ti g' tt ti1 g1' tt1 te is is1) (wComp2 I g T I1 g1 T1 W is is1) := by
  intro σ H G B env Q Qv c hw' q
  refine hi σ H G B env _ _ c hw' fun ds J H1 G1 B1 e1 hq c1 s1 it => ?_
  intro D hD
  have gD : G1 D = none := by
    cases e : G1 D with
    | none => rfl
    | some u => rw [c1.le D u e] at hD; cases hD
  have c0 : Conc K (upd H1 D (.lst [])) G1 B1 (wipe σ is) (kill e1 is) := conc_kill ((Alloc.own (o := .lst []) c1.le hD).res c1).conc
  let W0 : Nat → Hp → Prop := fun i H' => i ≤ ds.length ∧ ∃ G' B' env' acc us, compGo2 g T I1 g1 T1 W is is1 (fun acc e2 => Q (.olist acc) (bring e1 e2 is)) (ds.drop i) acc env' ∧ Conc K H' G' B' (wipe σ is) (kill env' is) ∧ Grow K D us acc H' G' B' ∧ Kept2 H1 G1 B1 H' G' B'
  refine ⟨fun i m H' => m = ds.length - i ∧ W0 i H', ⟨ds.length, by simp, Nat.zero_le _, G1, B1, e1, [], [], hq, c0, ⟨upd_same, .nil, gD, fun z => (c1.fr D z).2 hD⟩, Kept2.put (H' := H1) (G' := G1) (B' := B1) ⟨Le.rfl', fun _ z => .inl z, fun _ _ _ => ⟨rfl, rfl⟩, fun _ z => z⟩ hD _⟩, ?_⟩
  rintro i m H' ⟨rfl, hi', G', B', env', acc, us, hf, c', gr, kp⟩
  by_cases hlt : i < ds.length
  · refine .inr ⟨it.go H' i (kp.1.tr c'.le) hlt, W0 (i + 1), fun H2 h2 => ⟨ds.length - (i + 1), by omega, rfl, h2⟩, fun x H2 hy => ?_⟩
    obtain ⟨d, G2, ed, al, dp⟩ := it.yld H' G' H2 i x kp.1 c'.le hlt hy
    have r2 := al.res c'
    rw [drop_cons hlt ed] at hf
    have s2 : Step H' G' B' H2 G2 B' := r2.drop
    have own := hw.own x (wipe σ is) H2 (fun σ2 H3 => tt σ2 H3 fun b H4 => if b = true then ti1 σ2 H4 fun J1 H4 => ∃ W1 : Nat → Nat → Hp → Prop, (∃ m, W1 0 m H4) ∧ ∀ j k H, W1 j k H →
      (J1.stop j H ∧ W0 (i + 1) H) ∨ (J1.go j H ∧ ∃ Nx1 : Hp → Prop, (∀ H', Nx1 H' → ∃ k', k' < k ∧ W1 (j + 1) k' H') ∧ ∀ x H', J1.yld j H x H' → g1' x (wipe σ2 is1) H' fun σ3 H5 => wipe σ3 is1 = wipe σ2 is1 ∧ tt1 σ3 H5 fun b H6 =>
        if b = true then te σ3 H6 fun y H7 => ∃ acc, H7 D = some (.lst acc) ∧ acc.length < sizeLine ∧ Nx1 (upd H7 D (.lst (acc ++ [y]))) else Nx1 H6) else W0 (i + 1) H4) ?_
    · rw [wipe_wipe] at own
      exact own
    refine hg x (.data d) (wipe σ is) H2 G2 B' (fun _ => False) (kill env' is) _ _ r2.conc (fun _ z => z.elim) (fun _ z => z.elim) (.data dp) hf fun σ3 B3 env3 hb3 c3 w3 p3 ws => ?_
    rw [wipe_wipe] at ws
    have s3 : Step H' G' B' H2 G2 B3 := s2.less fun a z => (w3 a z).elim id False.elim
    refine ht σ3 H2 G2 B3 env3 _ _ c3 hb3 fun b H4 G4 B4 e4 hq4 c4 s4 => ?_
    have s34 := s3.tr s4
    cases b with
    | false =>
      have c5 : Conc K H4 G4 B4 (wipe σ is) (kill e4 is) := by
        have := conc_kill (is := is) c4
        rw [ws] at this
        exact this
      exact ⟨hlt, G4, B4, e4, acc, us, hq4, c5, gr.step s34, kp.step s34⟩
    | true =>
      refine hi1 σ3 H4 G4 B4 e4 _ _ c4 hq4 fun ds1 J1 H5 G5 B5 e5 hq5 c5 s5 it1 => ?_
      have s35 := s34.tr s5
      have g5 := gr.step s35
      have k5 := kp.step s35
      let W1 : Nat → Hp → Prop := fun j H' => j ≤ ds1.length ∧ ∃ G' B' env' acc us, compGo g1 T1 W is1 (fun acc2 e4 => compGo2 g T I1 g1 T1 W is is1 (fun acc e2 => Q (.olist acc) (bring e1 e2 is)) (ds.drop (i + 1)) acc2 e4) (ds1.drop j) acc env' ∧ Conc K H' G' B' (wipe σ3 is1) (kill env' is1) ∧ Grow K D us acc H' G' B' ∧ Kept2 H1 G1 B1 H' G' B' ∧ Le G5 G'
      refine ⟨fun j m H' => m = ds1.length - j ∧ W1 j H', ⟨ds1.length, by simp, Nat.zero_le _, G5, B5, e5, acc, us, hq5, conc_kill c5, g5, k5, Le.rfl'⟩, ?_⟩
      rintro j m1 H6 ⟨rfl, hj', G6, B6, env6, acc6, us6, hf6, c6, g6, k6, l6⟩
      by_cases hlj : j < ds1.length
      · refine .inr ⟨it1.go H6 j (l6.tr c6.le) hlj, W1 (j + 1), fun H2 h2 => ⟨ds1.length - (j + 1), by omega, rfl, h2⟩, fun x1 H7 hy1 => ?_⟩
        obtain ⟨d1, G7, ed1, al1, dp1⟩ := it1.yld H6 G6 H7 j x1 l6 c6.le hlj hy1
        have r7 := al1.res c6
        rw [drop_cons hlj ed1] at hf6
        have s7 : Step H6 G6 B6 H7 G7 B6 := r7.drop
        have own1 := hw1.own x1 (wipe σ3 is1) H7 (fun σ3 H5 => tt1 σ3 H5 fun b H6 => if b = true then te σ3 H6 fun y H7 => ∃ acc, H7 D = some (.lst acc) ∧ acc.length < sizeLine ∧ W1 (j + 1) (upd H7 D (.lst (acc ++ [y]))) else W1 (j + 1) H6) ?_
        · rw [wipe_wipe] at own1
          exact own1
        refine hg1 x1 (.data d1) (wipe σ3 is1) H7 G7 B6 (fun _ => False) (kill env6 is1) _ _ r7.conc (fun _ z => z.elim) (fun _ z => z.elim) (.data dp1) hf6 fun σ8 B8 env8 hb8 c8 w8 p8 ws8 => ?_
        rw [wipe_wipe] at ws8
        have s8 : Step H6 G6 B6 H7 G7 B8 := s7.less fun a z => (w8 a z).elim id False.elim
        refine ht1 σ8 H7 G7 B8 env8 _ _ c8 hb8 fun b1 H9 G9 B9 e9 hq9 c9 s9 => ?_
        have s89 := s8.tr s9
        cases b1 with
        | false =>
          have c10 : Conc K H9 G9 B9 (wipe σ3 is1) (kill e9 is1) := by
            have := conc_kill (is := is1) c9
            rw [ws8] at this
            exact this
          exact ⟨hlj, G9, B9, e9, acc6, us6, hq9, c10, g6.step s89, k6.step s89, l6.tr s89.g⟩
        | true =>
          refine he σ8 H9 G9 B9 e9 _ _ c9 hq9 fun y HA GA BA CA eA dv hqA rA oA => ?_
          obtain ⟨rB, dpB⟩ := rA.freeze oA hqA.2.1
          have sB := s89.tr rB.drop
          have gB := g6.step sB
          have kB := k6.step sB
          have cB : Conc K HA (ice HA GA CA) BA (wipe σ3 is1) (kill eA is1) := by
            have := conc_kill (is := is1) rB.conc
            rw [ws8] at this
            exact this
          obtain ⟨cC, gC⟩ := gB.conc cB (dpa_app gB.2.1 (.cons dpB .nil))
          exact ⟨us6, gB.1, by rw [dpa_len g6.2.1]; exact Nat.lt_of_lt_of_le hqA.1 (by decide), hlj, ice HA GA CA, BA, eA, acc6 ++ [dv.dat], us6 ++ [y], hqA.2.2, cC, gC, kB.put hD _, l6.tr sB.g⟩
      · have e : j = ds1.length := by omega
        subst e
        rw [List.drop_length] at hf6
        refine .inl ⟨it1.stop H6 (l6.tr c6.le), hlt, G6, B6, kill env6 is1, acc6, us6, hf6, ?_, g6, k6⟩
        have := conc_kill (is := is) (conc_back c6)
        rw [ws] at this
        exact this
  · have e : i = ds.length := by omega
    subst e
    rw [List.drop_length] at hf
    obtain ⟨l', ow, fr, th⟩ := kp
    obtain ⟨hDl, da, gD', nB⟩ := gr
    refine .inl ⟨it.stop H' (l'.tr c'.le), ?_⟩
    have cc : Conc K H' G' B' σ (bring e1 (kill env' is) is) := conc_bring (conc_back c') (fun i d e => by
      obtain ⟨v, e3, o⟩ := c1.own.look e
      cases o with
      | data h => exact ⟨v, e3, dp_le l' h⟩) is
    refine q (.ref D) H' G' B' (fun a => a = D) (bring e1 (kill env' is) is) (.olist acc) hf ⟨cc, fun a z => by subst z; exact ⟨gD', by rw [hDl]; exact fun q => nomatch q⟩, fun a z => by subst z; exact nB, ?_⟩ (.olist rfl hDl da)
    refine s1.tr ⟨l', fun a z => z.elim (ow a) fun y => by subst y; exact .inr hD, fr, th⟩
variable {own1 : List (Str × Nat)}
theorem den_comp2 (hk : scope.kind = .function) (ok : blkC N sc.sc scope own = true) (hv : ∀ i ∈ own1.map (·.2), i ∈ own.map (·.2)) (hi : DenI P w K mg base k N sc tg iter I) (hc : CompOk P w K mg base k N (scB scope sc) tg elt ifs own g T W)
    (hi1 : DenI P w K mg base k N (scB scope sc) tg1 iter1 I1) (hc1 : CompOk P w K mg base k N (scB scope sc) tg1 elt ifs1 own1 g1 T1 W) (hs : ∀ env x, foldedSetIterable iter env x = pure x := by intros; rfl) (hs1 : ∀ env x, foldedSetIterable iter1 env x = pure x := by intros; rfl) :
    DenE P w K mg base k N sc (.ListComp elt [⟨tg, iter, ifs, 0⟩, ⟨tg1, iter1, ifs1, 0⟩] scope pos) (wComp2 I g T I1 g1 T1 W (own.map (·.2)) (own1.map (·.2))) := by
  obtain ⟨ti, i1, i2⟩ := hi
  obtain ⟨ti1, j1, j2⟩ := hi1
  obtain ⟨g', tt, _, p1, t1, _, p2, t2, _, hw⟩ := hc.ex
  obtain ⟨g1', tt1, te, q1, u1, e1, q2, u2, e2, hw1⟩ := hc1.ex
  refine ⟨tLc2 ti g' tt ti1 g1' tt1 te (own.map (·.2)) (own1.map (·.2)), fun X hX => ?_, snd_comp2 i2 p2 t2 j2 q2 u2 e2 hw hw1⟩
  exact pe_lc2 hX.calm (by rw [hX.eN]; exact hX.nd) (i1 X hX) (blkOk_by (by rw [hX.eN, hX.es]; exact ok)) hv (fun s H Cc cl fp => p1 _ (blk_ok hX hk s H Cc cl fp)) (fun s H Cc cl fp => t1 _ (blk_ok hX hk s H Cc cl fp)) (fun s H Cc cl fp => j1 _ (blk_ok hX hk s H Cc cl fp)) (fun s H Cc cl fp => q1 _ (blk_ok hX hk s H Cc cl fp)) (fun s H Cc cl fp => u1 _ (blk_ok hX hk s H Cc cl fp)) (fun s H Cc cl fp => e1 _ (blk_ok hX hk s H Cc cl fp)) (hs X.env) hs1
theorem dens_setComp2 {i : Nat} {py spos : Pos} (hk : scope.kind = .function) (ok : blkC N sc.sc scope own = true) (hv : ∀ i ∈ own1.map (·.2), i ∈ own.map (·.2)) (hy : N[i]? = some x) (hyl : sc.sc.names.lookup x = some .local) (hp : free pin i = true) (hl : (py.line == pos.line) = true) (hsk : sc.sc.kind = .function)
    (hnot : (scope.names.any fun (n, k) => n == x && (k == .local || k == .cell)) = false) (hi : DenI P w K mg base k N sc tg iter I) (hc : CompOk P w K mg base k N (scB scope sc) tg elt ifs own g T W)
    (hi1 : DenI P w K mg base k N (scB scope sc) tg1 iter1 I1) (hc1 : CompOk P w K mg base k N (scB scope sc) tg1 elt ifs1 own1 g1 T1 W) (hs : ∀ env x, foldedSetIterable iter env x = pure x := by intros; rfl) (hs1 : ∀ env x, foldedSetIterable iter1 env x = pure x := by intros; rfl) :
    DenS P w K mg base k N sc pin (.Assign [.Name x py] (.ListComp elt [⟨tg, iter, ifs, 0⟩, ⟨tg1, iter1, ifs1, 0⟩] scope pos) spos) (sAsg (wComp2 I g T I1 g1 T1 W (own.map (·.2)) (own1.map (·.2))) (gNm i)) := by
  obtain ⟨ti, i1, i2⟩ := hi
  obtain ⟨ti1, j1, j2⟩ := hi1
  obtain ⟨g', tt, _, p1, t1, _, p2, t2, _, hw⟩ := hc.ex
  obtain ⟨g1', tt1, te, q1, u1, e1, q2, u2, e2, hw1⟩ := hc1.ex
  refine ⟨tAsg (tLc2 ti g' tt ti1 g1' tt1 te (own.map (·.2)) (own1.map (·.2))) (gName i), fun X hX => ?_, snd_asg (snd_comp2 i2 p2 t2 j2 q2 u2 e2 hw hw1) (sndG_nm hp)⟩
  refine ps_setLc2 hX.calm (by rw [hX.eN]; exact hX.nd) (by rw [hX.eN]; exact hy) (by rw [hX.es]; exact hyl) (sw_true (by rw [hX.es]; exact hsk) (by rw [hX.es]; exact hyl) hl hnot) (i1 X hX) (blkOk_by (by rw [hX.eN, hX.es]; exact ok)) hv (fun s H Cc cl fp => p1 _ (blk_ok hX hk s H Cc cl fp)) (fun s H Cc cl fp => t1 _ (blk_ok hX hk s H Cc cl fp)) (fun s H Cc cl fp => j1 _ (blk_ok hX hk s H Cc cl fp)) (fun s H Cc cl fp => q1 _ (blk_ok hX hk s H Cc cl fp)) (fun s H Cc cl fp => u1 _ (blk_ok hX hk s H Cc cl fp)) (fun s H Cc cl fp => e1 _ (blk_ok hX hk s H Cc cl fp)) (hs X.env) hs1
theorem compGo2_enc {α : Type} {g : WG} {I1 : WI} {g1 : WG} {T1 : WT} {W : WE} {is is1 : List Nat} {Q : List PyData → Ev → Prop} (E : Ev) (enc : α → PyData) (f : α → List PyData) : ∀ (xs : List α) (acc : List PyData) (env : Ev), kill env is = E → (acc ++ xs.flatMap f).length ≤ lim →
    (∀ d ∈ xs, ∀ (acc : List PyData) (Z : List PyData → Ev → Prop), (acc ++ f d).length ≤ lim → (∀ e, kill e is = E → Z (acc ++ f d) e) → g (.data (enc d)) E fun e1 => I1 e1 fun ds1 e3 => compGo g1 T1 W is1 Z ds1 acc e3) →
    Q (acc ++ xs.flatMap f) E → compGo2 g tYes' I1 g1 T1 W is is1 Q (xs.map enc) acc env
  | [], acc, env, hE, hl, h, hq => by
    show Q acc (kill env is)
    rw [hE]
    simpa using hq
  | d :: ds, acc, env, hE, hl, h, hq => by
    show g (.data (enc d)) (kill env is) _
    rw [hE]
    have e1 : acc ++ (d :: ds).flatMap f = (acc ++ f d) ++ ds.flatMap f := by rw [List.flatMap_cons, List.append_assoc]
    rw [e1] at hl hq
    exact h d List.mem_cons_self acc (fun acc2 e4 => compGo2 g tYes' I1 g1 T1 W is is1 Q (ds.map enc) acc2 e4) (by rw [List.length_append] at hl; omega) fun e he => compGo2_enc E enc f ds _ e he hl (fun d' hd' => h d' (List.mem_cons_of_mem _ hd')) hq
end
end Kb
namespace Kb
open PySem PySem.Spec PyProof.Rows L2
/-! ### defs whose last parameter is keyword-only, its default a number -/
structure FunK (K : PySem.W.Frag) (x qual : Str) (st : Stmt) (f : Addr) (fd : FuncData) (kn : Str) (i : Int) : Prop where
  ex : ∃ (oc : Value) (od : Option Addr) (D : Addr) (doc pm : Value) (an : Option Addr) (cdv ct : Value) (osl : Array (Option Value)) (t : Tok),
    fd = PySem.W.fnOf x qual (defArgs st) (defBody st) (defScope st) .none (.ref D) doc pm an cdv ct ∧ K.lookup f = some ⟨oc, od, .func fd, osl⟩ ∧ PySem.W.codeIn K cdv qual = true ∧ PySem.W.nsIn K D kn = some (some (.int i t))
  kp : PySem.W.keepIn K (.ref f) = true
section
variable {K : PySem.W.Frag} {x qual kn : Str} {st : Stmt} {f : Addr} {fd : FuncData} {i : Int}
theorem funk_mk {oc : Value} {od an : Option Addr} {osl : Array (Option Value)} {D : Addr} {doc pm cdv ct : Value} {t : Tok} (l : K.lookup f = some ⟨oc, od, .func (PySem.W.fnOf x qual (defArgs st) (defBody st) (defScope st) .none (.ref D) doc pm an cdv ct), osl⟩)
    (c : PySem.W.codeIn K cdv qual = true) (k : PySem.W.keepIn K (.ref f) = true) (m : PySem.W.nsIn K D kn = some (some (.int i t))) : FunK K x qual st f (PySem.W.fnOf x qual (defArgs st) (defBody st) (defScope st) .none (.ref D) doc pm an cdv ct) kn i := ⟨⟨oc, od, D, doc, pm, an, cdv, ct, osl, t, rfl, l, c, m⟩, k⟩
theorem FunK.fn (F : FunK K x qual st f fd kn i) : Fun K x qual st f fd := by
  obtain ⟨oc, od, D, doc, pm, an, cdv, ct, osl, t, e, l, c, _⟩ := F.ex
  exact ⟨⟨oc, od, .ref D, doc, pm, an, cdv, ct, osl, e, l, c⟩, F.kp⟩
theorem FunK.fD (F : FunK K x qual st f fd kn i) : FunD K x qual (defArgs st) (defBody st) (defScope st) [] [(kn, .int i)] f fd := by
  obtain ⟨oc, od, D, doc, pm, an, cdv, ct, osl, t, e, l, c, m⟩ := F.ex
  exact ⟨⟨oc, od, .none, .ref D, doc, pm, an, cdv, ct, osl, e, l, c, .inl ⟨rfl, rfl⟩, .inr ⟨D, rfl, fun q hq => by cases List.mem_singleton.1 hq; exact ⟨_, m, t, rfl⟩⟩⟩, F.kp⟩
end
/-- what is known of such a callee: n the places ahead -/
structure CalK (P : Program) (w : World) (K : PySem.W.Frag) (mg : Str → Option Value) (base : Heap) (k : Nat) (x : Str) (f : Addr) (fd : FuncData) (ps : List Str) (mask : List Bool) (fs : FS) (kn : Str) (n : Nat) (i : Int) : Prop where
  ok : FnG P w K mg base k f fd ps (spOf K mask fs)
  gl : mg x = some (.ref f)
  kp : PySem.W.keepIn K (.ref f) = true
  bd : ∃ t : Tok, Binds K fd ps [.int i t]
  kb : KBn K fd ps n [kn] (fun us ws => us ++ ws) (fun vs zs => vs ++ zs)
  ln : ps.length = n + 1
def aOne (AK : WA) : WA := fun env Q => AK env fun avs e => avs.length = 1 ∧ Q avs e
def tApp (ta tk : TA) : TA := fun σ H Q => ta σ H fun vs H1 => tk σ H1 fun zs H2 => Q (vs ++ zs) H2
def aApp (AA AK : WA) : WA := fun env Q => AA env fun avs e => AK e fun kvs e2 => Q (avs ++ kvs) e2
section
variable {P : Program} {w : World} {K : PySem.W.Frag} {mg : Str → Option Value} {base : Heap} {k : Nat} {N : List Str} {sc : Scf} {pin : List Bool}
variable {H G H1 G1 : Hp} {B B1 C C1 C2 : Addr → Prop} {σ : L2.St} {env : Ev} {e : Expr} {es : List Expr} {pos p : Pos} {AA AK : WA} {x : Str}
theorem ownAs_later (s : Step H G B H1 G1 B1) : ∀ {C : Addr → Prop} {vs : List V} {avs : List AV}, OwnAs K G H σ C vs avs → Fr0 C G H → (∀ a, C a → ¬ B a) → OwnAs K G1 H1 σ C vs avs
  | _, _, _, .nil, _, _ => .nil
  | _, _, _, .val s1 s2 d h t, f, n => .val s1 s2 d (h.later s (fun a z => f a (s1 a z)) fun a z => n a (s1 a z)) (ownAs_later s t (fun a z => f a (s2 a z)) fun a z => n a (s2 a z))
  | _, _, _, .bor e t, f, n => .bor e (ownAs_later s t f n)
theorem ownAs_app {C2 : Addr → Prop} {zs : List V} {kvs : List AV} (o2 : OwnAs K G H σ C2 zs kvs) : ∀ {C1 : Addr → Prop} {vs : List V} {avs : List AV}, OwnAs K G H σ C1 vs avs → (∀ a, C1 a → ¬ C2 a) → OwnAs K G H σ (fun a => C1 a ∨ C2 a) (vs ++ zs) (avs ++ kvs)
  | _, _, _, .nil, d => by
    have up : ∀ {C2 C : Addr → Prop} {zs : List V} {kvs : List AV}, OwnAs K G H σ C2 zs kvs → (∀ a, C2 a → C a) → OwnAs K G H σ C zs kvs := by
      intro C2 C zs kvs o
      induction o generalizing C with
      | nil => intro _; exact .nil
      | val s1 s2 d h t ih => intro u; exact .val (fun a z => u a (s1 a z)) (fun a z => u a (s2 a z)) d h t
      | bor e t ih => intro u; exact .bor e (ih u)
    exact up o2 fun _ z => .inr z
  | _, _, _, .val (C1 := Ca) (C2 := Cb) s1 s2 dd h t, d => .val (C1 := Ca) (C2 := fun a => Cb a ∨ C2 a) (fun a z => .inl (s1 a z)) (fun a z => z.imp (s2 a) id) (fun a z y => y.elim (dd a z) (d a (s1 a z))) h (ownAs_app o2 t fun a z => d a (s2 a z))
  | _, _, _, .bor e t, d => .bor e (ownAs_app o2 t d)
theorem snd_app {ta tk : TA} (h1 : SndA K ta AA) (h2 : SndA K tk AK) : SndA K (tApp ta tk) (aApp AA AK) := by
  intro σ H G B env Q Qv c hw q
  refine h1 σ H G B env _ _ c hw fun vs H1 G1 B1 C1 e1 avs hq r o => ?_
  refine h2 σ H1 G1 B1 e1 _ _ r.conc hq fun zs H2 G2 B2 C2 e2 kvs hq2 r2 o2 => ?_
  obtain ⟨r3, d3⟩ := r.seq r2
  exact q _ H2 G2 B2 _ e2 _ hq2 r3 (ownAs_app o2 (ownAs_later r2.step o r.frC r.dis) d3)
def aDef (i : Int) : WA := fun env Q => Q [.val (.data (.int i))] env
theorem snd_def {i : Int} : SndA K (fun _ H Q => Q [.int i] H) (aDef i) := fun σ H G B env Q Qv c hw q =>
  q [.int i] H G B (fun _ => False) env _ hw c.step0 (.val (C1 := fun _ => False) (C2 := fun _ => False) (fun _ z => z) (fun _ z => z) (fun _ z => z.elim) (.data (.int i)) .nil)
/-- the default stands -/
theorem den_callD {j n : Nat} {i : Int} {f : Addr} {fd : FuncData} {ps : List Str} {mask : List Bool} {fs : FS} {kn : Str} (F : CalK P w K mg base j x f fd ps mask fs kn n i) (hj : j ≤ k) (hg : GloB sc x = true) (ha : DenA P w K mg base k N sc (e :: es) AA) (hdb : (x == ("__debug__" : Str)) = false := by decide)
    (hs : ∀ env, starEach (e :: es) env = (false, eval e env) :: starEach es env := by intros; rfl) (hpl : ∀ env, (backTo pos (starEach es env)).any (·.1) = false := by intros; rfl) : DenE P w K mg base k N sc (.Call (.Name x p) (e :: es) [] pos) (wCall mask fs (aApp AA (aDef i))) := by
  obtain ⟨ta, h1, h2⟩ := ha
  refine ⟨tCall (spOf K mask fs) [] E0 (tApp ta fun _ H Q => Q [.int i] H), fun X hX => ?_, snd_call (snd_app h2 snd_def)⟩
  have F' : FnG X.prog X.w X.K X.mg X.base j f fd ps (spOf K mask fs) := by rw [hX.eP, hX.ew, hX.eK, hX.eg, hX.eb]; exact F.ok
  obtain ⟨t, bd⟩ := F.bd
  constructor
  intro pins s σ H Q I h
  apply wpAny_Call_Name_kw
  apply ld_glob I (gl_of hX hg) (show X.mg x = some (.ref f) by rw [hX.eg]; exact F.gl) _ hdb
  refine PySem.W.callWith_K (h₀ := X.base) I.ok.mod.kin (by rw [hX.eK]; exact F.kp) (thn ((h1 X hX).run pos pins s σ H _ I h) ?_) (hs X.env) (hpl X.env)
  rintro us s1 ⟨vs, H1, I1, r, q⟩
  have q : spOf K mask fs ((vs ++ [.int i]) ++ []) H1 Q E0 := q
  rw [List.append_nil] at q
  have r' : Vals (vs ++ [.int i]) (us ++ [.int i t]) := r.append (.cons ⟨t, rfl⟩ .nil)
  have hl : (us ++ [Value.int i t]).length = ps.length := by rw [← r'.length]; exact F'.len _ _ _ _ q
  exact ⟨I1.kIn, run_g F' (hX.room.mono hj) hX.gd ((by rw [hX.eK]; exact bd : Binds X.K fd ps [.int i t]) s1 us I1.kIn hl) I1 r' q⟩
/-- it is given -/
theorem den_callW {j n : Nat} {i : Int} {f : Addr} {fd : FuncData} {ps : List Str} {mask : List Bool} {fs : FS} {kn : Str} {kws : List Keyword} (F : CalK P w K mg base j x f fd ps mask fs kn n i) (hj : j ≤ k) (hg : GloB sc x = true) (ha : DenA P w K mg base k N sc (e :: es) AA)
    (hk : ∃ ta, (∀ X, CxOk P w K mg base k N sc X → PK X kws ta) ∧ SndA K ta AK) (hdb : (x == ("__debug__" : Str)) = false := by decide)
    (hall : ∀ env, (backToKw pos (keywordEach kws env)).all (·.1.isSome) = true := by intros; rfl) (hks : ∀ env, (backToKw pos (keywordEach kws env)).filterMap (·.1) = [kn] := by intros; rfl)
    (hs : ∀ env, starEach (e :: es) env = (false, eval e env) :: starEach es env := by intros; rfl)
    (hpl : ∀ env, ((backTo pos (starEach (e :: es) env)).any (·.1) || (backToKw pos (keywordEach kws env)).any (·.1.isNone)) = false := by intros; rfl) : DenE P w K mg base k N sc (.Call (.Name x p) (e :: es) kws pos) (wCall mask fs (aApp AA (aOne AK))) := by
  obtain ⟨ta, h1, h2⟩ := ha
  obtain ⟨tk, k1, k2⟩ := hk
  have k2' : SndA K (fun σ H Q => tk σ H fun zs H2 => zs.length = 1 ∧ Q zs H2) (aOne AK) := by
    intro σ H G B env Q Qv c hw q
    refine k2 σ H G B env _ _ c hw fun zs H2 G2 B2 C2 e2 kvs hq2 r2 o2 => ⟨(ownAs_len o2).trans hq2.1, q _ _ _ _ _ _ _ hq2.2 r2 o2⟩
  refine ⟨tCall (spOf K mask fs) [] E0 (tApp ta fun σ H Q => tk σ H fun zs H2 => zs.length = 1 ∧ Q zs H2), fun X hX => ?_, snd_call (snd_app h2 k2')⟩
  have F' : FnG X.prog X.w X.K X.mg X.base j f fd ps (spOf K mask fs) := by rw [hX.eP, hX.ew, hX.eK, hX.eg, hX.eb]; exact F.ok
  have kb : KBn X.K fd ps n [kn] (fun us ws => us ++ ws) (fun vs zs => vs ++ zs) := by rw [hX.eK]; exact F.kb
  constructor
  intro pins s σ H Q I h
  refine wpAny_Call_Name_kw (ld_glob I (gl_of hX hg) (show X.mg x = some (.ref f) by rw [hX.eg]; exact F.gl) ?_ hdb)
  refine PySem.W.callWith_KW (h₀ := X.base) I.ok.mod.kin (by rw [hX.eK]; exact F.kp) (hall X.env) (thn ((h1 X hX).run pos pins s σ H _ I h) fun us s1 ⟨vs, H1, I1, r, q⟩ => ?_) (hpl X.env) (hs X.env)
  refine thn ((k1 X hX).run pos pins s1 σ H1 _ I1 q) fun ws s2 ⟨zs, H2, I2, rz, l2, q2⟩ => ⟨I2.kIn, ?_⟩
  have q2 : spOf K mask fs ((vs ++ zs) ++ []) H2 Q E0 := q2
  rw [List.append_nil] at q2
  rw [hks X.env]
  have e1 : (vs ++ zs).length = ps.length := F'.len _ _ _ _ q2
  have e2 : vs.length = n := by
    rw [List.length_append, l2, F.ln] at e1
    omega
  have e3 : us.length = n := r.length.symm.trans e2
  have e4 : ws.length = 1 := rz.length.symm.trans l2
  exact run_g F' (hX.room.mono hj) hX.gd (kb.to s2 us ws I2.kIn e3 e4) I2 (kb.rel r rz) q2
/-- what binding asks of the def -/
theorem calk {f : Addr} {fd : FuncData} {ps : List Str} {mask : List Bool} {fs : FS} {kn qual : Str} {st : Stmt} {n : Nat} {i : Int} {j : Nat} (F : FunK K x qual st f fd kn i) (ok : FnG P w K mg base j f fd ps (spOf K mask fs)) (gl : mg x = some (.ref f)) (hn : ps.length = n + 1)
    (hd : ∀ (D : Addr) (doc pm : Value) (an : Option Addr) (cdv ct : Value) (us : List Value) (k : Value), us.length = n → KwChain D [(kn, k)] (bindArgs (PySem.W.fnOf x qual (defArgs st) (defBody st) (defScope st) .none (.ref D) doc pm an cdv ct) ⟨us, []⟩) (ps.zip (us ++ [k])))
    (hk : ∀ (D : Addr) (doc pm : Value) (an : Option Addr) (cdv ct : Value) (us : List Value) (k : Value), us.length = n → bindArgs (PySem.W.fnOf x qual (defArgs st) (defBody st) (defScope st) .none (.ref D) doc pm an cdv ct) ⟨us, [(kn, k)]⟩ = pure (ps.zip (us ++ [k]))) : CalK P w K mg base j x f fd ps mask fs kn n i := by
  refine ⟨ok, gl, F.kp, ?_, ?_, hn⟩
  · obtain ⟨ds, rd, hb⟩ := F.fD.binds0 (ps := ps) n (by simp) (by simpa using hn.symm) fun D doc pm an cdv ct us ks l1 l2 => by
      match ks, l2 with
      | [k], _ => exact hd D doc pm an cdv ct us k l1
    cases rd with
    | cons r t =>
      cases t with
      | nil =>
        obtain ⟨t, rfl⟩ := r
        exact ⟨t, hb⟩
  · obtain ⟨oc, od, D, doc, pm, an, cdv, ct, osl, t, rfl, _⟩ := F.ex
    refine ⟨fun s us ws X l1 l2 => ?_, fun r1 r2 => r1.append r2⟩
    match ws, l2 with
    | [k], _ => exact .of_eq (hk D doc pm an cdv ct us k l1)
end
theorem nd_data (d : PyData) : (DV.data d).nd = true := rfl
theorem nd_olist (ds : List PyData) : (DV.olist ds).nd = true := rfl
theorem nd_otup (vs : List DV) : (DV.otup vs).nd = true := rfl
theorem nds_nil : nds [] = true := rfl
theorem nds_data (d : PyData) (vs : List DV) : nds (.data d :: vs) = nds vs := rfl
theorem nds_olist (d : List PyData) (vs : List DV) : nds (.olist d :: vs) = nds vs := rfl
theorem nds_otup (d vs : List DV) : nds (.otup d :: vs) = nds vs := rfl
theorem dict_o (kvs : List (List Int × PyData)) : dictOf (.odict kvs) = some kvs := rfl
theorem dict_s (kvs : List (List Int × PyData)) : dictOf (.sdict kvs) = some kvs := rfl
end Kb
namespace Kb
open PySem PySem.Spec PyProof.Rows L2
/-! ### x in ys, by what they show -/
section
variable {P : Program} {w : World} {K : PySem.W.Frag} {mg : Str → Option Value} {base : Heap} {k : Nat} {N : List Str} {sc : Scf}
def fInD (neg : Bool) : F2 := fun x y Q => Small x.dat ∧ match y.dat with
  | .list ds => Small (.list ds) ∧ Q (.data (.bool (if neg then !(ds.any fun z => PyData.eqv z x.dat) else ds.any fun z => PyData.eqv z x.dat)))
  | _ => False
theorem cmp_inD : CmpR P w K mg base k N sc .In (fInD false) := ⟨rInD K, fun X hX => by rw [← hX.eK]; exact op_inD (by have := hX.room.un; omega), fun G H x y dx dy Q Qv l px py h q => by
  obtain ⟨h1, h2⟩ := h
  split at h2
  case h_2 => exact h2.elim
  rename_i ds e
  have hy := py.dp l (by rw [e]; exact h2.1)
  rw [e] at hy
  exact ⟨_, ds, px.dp l h1, hy, h1, h2.1, q _ H G _ _ h2.2 (Alloc.refl l) (.data (.bl _))⟩⟩
theorem cmp_niD : CmpR P w K mg base k N sc .NotIn (fInD true) := ⟨rNotInD K, fun X hX => by rw [← hX.eK]; exact op_notInD (by have := hX.room.un; omega), fun G H x y dx dy Q Qv l px py h q => by
  obtain ⟨h1, h2⟩ := h
  split at h2
  case h_2 => exact h2.elim
  rename_i ds e
  have hy := py.dp l (by rw [e]; exact h2.1)
  rw [e] at hy
  exact ⟨_, ds, px.dp l h1, hy, h1, h2.1, q _ H G _ _ h2.2 (Alloc.refl l) (.data (.bl _))⟩⟩
end
end Kb
namespace Kb
open PySem PySem.Spec PyProof.Rows L2
/-! ### a dict that a comprehension makes, its keys tuples of numbers -/
section
variable {X : Cx}
theorem dput_ok {pins : List (Addr × Obj)} {σ : L2.St} {H : Hp} {s : Shared} {E : Value → Shared → Prop} {D b : Addr} {o : Obj} {ks : List Int} {xs : List (List Int × Addr × Value)} {kvs : List (List Int × PyData)} {v : V} {r : Value} {Q : Unit → Shared → Prop} (hu : X.A.units + 1 < cLine) (J : Inv X pins σ H s)
    (hH : H D = some (dO D o)) (k : DOk D o (xs.map entD)) (xk : XK X.K H xs kvs) (n : (kvs.map Prod.fst).Nodup) (hks : SqT X.K H b (ks.map V.int)) (rv : RelV v r) (hz : xs.length ≤ sizeLine)
    (nxt : ∀ o' s', DOk D o' ((storedH xs ks b r).map entD) → Inv X pins σ (upd H D (dO D o')) s' → Q () s') : wpAny (model X.prog X.w) X.A (dictSet D (.ref b) r) Q E s := by
  refine wpAny_dictSet_heap (hsz := hz) (show X.A.units < cLine by omega) (key_ok J hks) (dictH J hH k xk n) fun h' dd hsb => ?_
  obtain ⟨o2, es, ep, g1, g2, g3, g4, _, _⟩ := dd
  have k2 : DOk D o2 ((storedH xs ks b r).map entD) := ⟨k.ne, g2, es, ep, g3, g4⟩
  exact nxt o2 _ k2 (J.write (x := D) (e := D) (by rw [hH]; trivial) (.inl rfl) (fun c q hb z => (hsb.2 c hb).trans z) ⟨o2, g1⟩ (dO_ok g1))
/-- {key: val for target in iter if ..} -/
def tDt (K : PySem.W.Frag) (wi : TI) (g : TG) (tt : TT) (tk tv : TE) (vs : List Nat) : TE := fun σ H QD => wi σ H fun J H1 => ∀ D o0, H1 D = none → DOk D o0 [] → ∃ M : Nat → Nat → Hp → Prop, (∃ m, M 0 m (upd H1 D (dO D o0))) ∧ ∀ i m H, M i m H →
  (J.stop i H ∧ QD (.ref D) H) ∨ (J.go i H ∧ ∃ Nx : Hp → Prop, (∀ H', Nx H' → ∃ m', m' < m ∧ M (i + 1) m' H') ∧ ∀ x H', J.yld i H x H' → g x (wipe σ vs) H' fun σ2 H2 => wipe σ2 vs = wipe σ vs ∧ tt σ2 H2 fun b H3 =>
    if b = true then tk σ2 H3 fun y H4 => tv σ2 H4 fun z H5 => ∃ bk ks o xs kvs, y = .ref bk ∧ SqT K H5 bk (ks.map V.int) ∧ H5 D = some (dO D o) ∧ DOk D o (xs.map entD) ∧ XK K H5 xs kvs ∧ (kvs.map Prod.fst).Nodup ∧ xs.length ≤ sizeLine ∧
      ∀ o' u, RelV z u → DOk D o' ((storedH xs ks bk u).map entD) → Nx (upd H5 D (dO D o')) else Nx H3)
theorem dt_core {pins : List (Addr × Obj)} {s : Shared} {σ : L2.St} {H : Hp} {key elt tg iter : Expr} {ifs : List Expr} {scope : Scope} {own : List (PySem.Str × Nat)} {pos pos' : Pos} {wi : TI} {g : TG} {tt : TT} {tk te : TE} {QD : VK} {use : Option (Value → Sem Unit)} {Qf : Value → Shared → Prop}
    (hu : X.A.units + 1 < cLine) (hcalm : X.calm = true) (hnd : X.N.Nodup) (J0 : Inv X pins σ H s) (hiter : PI X tg iter wi) (okB : BlkOk X.N X.env.scope scope own)
    (htg : ∀ (s : Shared) (H : Hp) (C : Addr) (cl : List (PySem.Str × Addr)) (fp : List Addr), PG (X.blk s H scope (compEnvC scope cl C X.env) fp) tg g)
    (hif : ∀ (s : Shared) (H : Hp) (C : Addr) (cl : List (PySem.Str × Addr)) (fp : List Addr), PTs (X.blk s H scope (compEnvC scope cl C X.env) fp) ifs tt)
    (hkey : ∀ (s : Shared) (H : Hp) (C : Addr) (cl : List (PySem.Str × Addr)) (fp : List Addr), PE (X.blk s H scope (compEnvC scope cl C X.env) fp) key tk)
    (helt : ∀ (s : Shared) (H : Hp) (C : Addr) (cl : List (PySem.Str × Addr)) (fp : List Addr), PE (X.blk s H scope (compEnvC scope cl C X.env) fp) elt te)
    (hfold : ∀ x, foldedSetIterable iter X.env x = pure x)
    (hask : tDt X.K wi g tt tk te (own.map (·.2)) σ H QD)
    (hend : ∀ D C s' m H', Inv X pins σ H' s' → QD (.ref D) H' → s'.heap.Ns C m → FpOk X pins H' C → compPost (model X.prog X.w) X.A X.xe use Qf (.ref D) C (.ok .next) s') :
    wpAny (model X.prog X.w) X.A (comprehension (.DictComp key elt [⟨tg, iter, ifs, 0⟩] scope pos) scope X.env pos' newDict false (eval iter X.env) use) Qf X.xe s := by
  have frees : ∀ y ∈ scope.names, y.2 = .free → ∃ c, X.env.cells.lookup y.1 = some c := by
    intro y hy e
    cases okB.free y hy e with
    | inl k => exact J0.ok.has _ (.inl k)
    | inr k => exact J0.ok.has _ (.inr k)
  refine wpAny_comprehension_free (use := use) rfl hfold (closure_ok frees) okB.kind (fun y hy e => by rw [okB.uniq y hy, e]) ?_
  refine thn (hiter.run pins s σ H _ J0 hask) fun xv s1 hx => thn hx fun itv s2 h2 => ?_
  obtain ⟨it, fp, tn, J, H2, rfl, I2, T, stt, ff, asks⟩ := h2
  refine wpAny_newObj_type ?_
  refine newEnv_comp ?_
  generalize eA : s2.heap.objs.size = A0
  have free0 : H2 A0 = none := I2.hok.fresh (Nat.le_of_eq eA)
  have ok0 : DOk A0 { cls := .type "dict", data := .dict #[] } [] := ⟨by rw [← eA]; exact beq_eq_false_iff_ne.mpr (Ne.symm (Nat.ne_of_lt I2.big)), ⟨rfl, rfl, rfl⟩, #[], 0, rfl, rfl⟩
  obtain ⟨M, ⟨m0, M0⟩, turns⟩ := asks A0 _ free0 ok0
  generalize es3 : ({ s2 with heap := s2.heap.push { cls := .type "dict", data := .dict #[] } } : Shared) = s3
  have hp3 : s3.heap = s2.heap.push { cls := .type "dict", data := .dict #[] } := by rw [← es3]
  have I3 : Inv X pins σ (upd H2 A0 (dO A0 { cls := .type "dict", data := .dict #[] })) s3 := by
    subst es3
    refine I2.laid (t' := s2.toks) (fun b o q => Heap.get?_push_of_some _ q) (Nat.le_of_eq eA) ?_
    subst eA
    exact dO_ok (Heap.get?_push_size _ rfl)
  have small : ∀ b ∈ fp, b < s2.heap.objs.size := by
    intro b hb
    obtain ⟨o, e, _⟩ := T.obj _ _ stt b hb
    exact Heap.lt_size e
  generalize eH3 : upd H2 A0 (dO A0 { cls := .type "dict", data := .dict #[] }) = H3 at I3 M0
  have ff3 : ∀ b ∈ fp, FpOk X pins H3 b ∧ b < s3.heap.objs.size := by
    intro b hb
    have lt := small b hb
    have ne : b ≠ A0 := by rw [← eA]; exact Nat.ne_of_lt lt
    exact ⟨⟨by rw [← eH3, upd_ne ne]; exact (ff b hb).1, (ff b hb).2⟩, by rw [hp3, Heap.size_push]; exact Nat.lt_succ_of_lt lt⟩
  have stt3 : tn 0 s3.heap := T.keep _ _ _ stt fun b _ o e => by rw [hp3]; exact Heap.get?_push_of_some _ e
  have I4 := block_start I3 okB hnd ff3
  generalize ecl : cellsFrom (s3.heap.objs.size + 1) scope.names (cloFrom X.env.cells scope.names []) = cl at I4
  have pg := htg s3 H3 s3.heap.objs.size cl fp
  have pt := hif s3 H3 s3.heap.objs.size cl fp
  have pk := hkey s3 H3 s3.heap.objs.size cl fp
  have pe := helt s3 H3 s3.heap.objs.size cl fp
  show codeAny _ _ (.compStart (.DictComp key elt [⟨tg, iter, ifs, 0⟩] scope pos) 0 (.ref it) (.ref A0) (compEnvC scope cl s3.heap.objs.size X.env)) (compPost (model X.prog X.w) X.A X.xe use Qf (.ref A0) s3.heap.objs.size) { s3 with heap := pushCells (s3.heap.push { cls := .type "dict", data := .dict #[] }) scope.names }
  have none3 : ∀ b ∈ fp, H3 b = none := fun b hb => (ff3 b hb).1.1
  generalize ece : compEnvC scope cl s3.heap.objs.size X.env = ce at I4 pg pt pk pe ⊢
  have locs : ce.locals = s3.heap.objs.size := by rw [← ece]; rfl
  generalize es4 : ({ s3 with heap := pushCells (s3.heap.push { cls := .type "dict", data := .dict #[] }) scope.names } : Shared) = s4 at I4 ⊢
  have stt4 : tn 0 s4.heap := T.keep _ _ _ stt3 fun b _ o e => by rw [← es4]; exact pushCells_keeps _ _ _ _ (Heap.get?_push_of_some _ e)
  have still : ∀ {σ' : L2.St} {H' : Hp} {s' : Shared}, Inv (X.blk s3 H3 scope ce fp) [] σ' H' s' → (∀ b ∈ fp, H' b = none) → ∀ b ∈ fp, FpOk (X.blk s3 H3 scope ce fp) [] H' b := by
    intro σ' H' s' I' hn b hb
    exact ⟨hn b hb, (I'.ok.exf b hb).1, I'.ok.exfs b hb, .inl hb, fun x c e => (I'.ok.exf b hb).2 x c e, fun p hp => absurd (show p ∈ ([] : List (Addr × Obj)) ++ [] from hp) (by simp)⟩
  have whole : codeAny (model X.prog X.w) X.A (.compLoop (.DictComp key elt [⟨tg, iter, ifs, 0⟩] scope pos) 0 (.ref it) (.ref A0) ce) (compPost (model X.prog X.w) X.A X.xe use Qf (.ref A0) s3.heap.objs.size) s4 := by
    refine compLoop_anyD (fun n s' => ∃ i H', Inv (X.blk s3 H3 scope ce fp) [] (wipe σ (own.map (·.2))) H' s' ∧ tn i s'.heap ∧ (∀ b ∈ fp, H' b = none) ∧ M i n H') ?_ m0 ⟨0, H3, I4, stt4, none3, M0⟩
    rintro n s5 ⟨i, H5, I5, st5, none5, M5⟩
    cases turns i n H5 M5 with
    | inl h =>
      obtain ⟨stop, qq⟩ := h
      refine thnF (T.done (X.blk s3 H3 scope ce fp) rfl rfl rfl hcalm i [] s5 _ H5 (fun _ _ => False) I5 (still I5 none5) st5 stop) fun r s6 hr => ?_
      obtain ⟨rfl, I6⟩ := hr
      have I7 : Inv X pins σ H5 s6 := I3.call' (ch := fp) I6.os I6.base I6.hok I6.bare fun b hb => ⟨(ff3 b hb).1.2.2.2.1, (ff3 b hb).1.2.1, (ff3 b hb).1.2.2.2.2.1, (ff3 b hb).1.2.2.2.2.2⟩
      have noneC : H5 s3.heap.objs.size = none := by
        have z : H5 ce.locals = none := I6.free
        rwa [locs] at z
      obtain ⟨m, hm, _⟩ := I6.loc
      have hm : s6.heap.Ns ce.locals m := hm
      rw [locs] at hm
      exact hend A0 s3.heap.objs.size s6 m H5 I7 qq hm (I3.fpOk (Nat.le_refl _) noneC)
    | inr h =>
      obtain ⟨go, Nx, hNx, step⟩ := h
      refine thnF (T.item (X.blk s3 H3 scope ce fp) rfl rfl rfl hcalm i [] s5 _ H5 (fun _ _ => False) I5 (still I5 none5) st5 go) fun r s6 hr => ?_
      obtain ⟨u, rfl, h6⟩ := hr
      refine thnF h6 fun _ s7 h7 => ?_
      obtain ⟨x, H7, I7, r7, y7, st7, none7⟩ := h7
      have I7' := I7.pinned (still I7 none7) (T.obj _ _ st7)
      refine thnF (pg.run _ s7 _ H7 x u _ I7' r7 (step x H7 y7)) fun _ s8 h8 => ?_
      obtain ⟨σ8, H8, I8, hw8, q8⟩ := h8
      refine thnF (pt.run _ s8 σ8 H8 _ I8 q8) fun b s9 h9 => ?_
      obtain ⟨H9, I9, q9⟩ := h9
      have fin : ∀ {s' : Shared} {H' : Hp}, Inv (X.blk s3 H3 scope ce fp) ([] ++ pinsAt fp s7.heap) σ8 H' s' → Nx H' → ∃ m, m < n ∧ ∃ i H', Inv (X.blk s3 H3 scope ce fp) [] (wipe σ (own.map (·.2))) H' s' ∧ tn i s'.heap ∧ (∀ b ∈ fp, H' b = none) ∧ M i m H' := by
        intro s' H' I' nx
        obtain ⟨m', hm, M'⟩ := hNx H' nx
        have held : ∀ b ∈ fp, ∀ o, s7.heap.get? b = some o → s'.heap.get? b = some o ∧ H' b = none := by
          intro b hb o e
          have z := I'.pin (b, o) (List.mem_append_right _ (List.mem_append_right _ (mem_pinsAt hb e)))
          exact ⟨z.1, z.2.1⟩
        have ll : (wipe σ (own.map (·.2))).length = σ8.length := by rw [← hw8, wipe_length]
        refine ⟨m', hm, i + 1, H', (I'.unpinned (pins := [])).weak ll ?_, T.keep _ _ _ st7 fun b hb o e => (held b hb o e).1, fun b hb => ?_, M'⟩
        · intro j v e
          rw [← hw8] at e
          exact (wipe_some e).1
        · obtain ⟨o, e, _⟩ := T.obj _ _ st7 b hb
          exact (held b hb o e).2
      cases b with
      | false =>
        simp only [Bool.false_eq_true, if_false] at q9 ⊢
        exact fin I9 q9
      | true =>
        simp only [if_true] at q9 ⊢
        refine thnF (pk.run _ s9 σ8 H9 _ I9 q9) fun z s10 h10 => ?_
        obtain ⟨yk, H10, I10, r10, q10⟩ := h10
        refine thnF (pe.run _ s10 σ8 H10 _ I10 q10) fun z2 s11 h11 => ?_
        obtain ⟨yv, H11, I11, r11, bk, ks, o, xs, kvs, rfl, hks, hD, dk, xk, nd, hz, nx⟩ := h11
        cases r10
        exact dput_ok (X := X.blk s3 H3 scope ce fp) hu I11 hD dk xk nd hks r11 hz fun o' s12 dk2 I12 => fin I12 (nx o' _ r11 dk2)
  exact codeAny_compStart_dict whole (T.self X.A 0 _ _ _ stt4 whole)
theorem pe_dt {key elt tg iter : Expr} {ifs : List Expr} {scope : Scope} {own : List (PySem.Str × Nat)} {pos : Pos} {wi : TI} {g : TG} {tt : TT} {tk te : TE} (hu : X.A.units + 1 < cLine) (hcalm : X.calm = true) (hnd : X.N.Nodup) (hiter : PI X tg iter wi) (okB : BlkOk X.N X.env.scope scope own)
    (htg : ∀ (s : Shared) (H : Hp) (C : Addr) (cl : List (PySem.Str × Addr)) (fp : List Addr), PG (X.blk s H scope (compEnvC scope cl C X.env) fp) tg g)
    (hif : ∀ (s : Shared) (H : Hp) (C : Addr) (cl : List (PySem.Str × Addr)) (fp : List Addr), PTs (X.blk s H scope (compEnvC scope cl C X.env) fp) ifs tt)
    (hkey : ∀ (s : Shared) (H : Hp) (C : Addr) (cl : List (PySem.Str × Addr)) (fp : List Addr), PE (X.blk s H scope (compEnvC scope cl C X.env) fp) key tk)
    (helt : ∀ (s : Shared) (H : Hp) (C : Addr) (cl : List (PySem.Str × Addr)) (fp : List Addr), PE (X.blk s H scope (compEnvC scope cl C X.env) fp) elt te)
    (hfold : ∀ x, foldedSetIterable iter X.env x = pure x) : PE X (.DictComp key elt [⟨tg, iter, ifs, 0⟩] scope pos) (tDt X.K wi g tt tk te (own.map (·.2))) := by
  constructor
  intro pins s σ H Q I h
  rw [arm_eval_DictComp]
  refine dt_core hu hcalm hnd I hiter okB htg hif hkey helt hfold h fun D C s' m H' I' q hn f => ⟨m, hn, fun h'' sb => ?_⟩
  obtain ⟨u0, u1, u2, u3, u4, u5⟩ := f
  exact ⟨.ref D, H', I'.turned (t' := s'.toks) (fun a ob ne z => (sb.2 a ne).trans z) u0 u1 u3 u4 u5, rfl, q⟩
end
end Kb
namespace Kb
open PySem PySem.Spec PyProof.Rows L2
section
variable {P : Program} {w : World} {K : PySem.W.Frag} {mg : Str → Option Value} {base : Heap} {k : Nat} {N : List Str} {sc : Scf} {pin : List Bool}
variable {σ : L2.St} {env : Ev} {tg key elt iter : Expr} {ifs : List Expr} {scope : Scope} {own : List (Str × Nat)} {pos p : Pos} {Wk W : WE} {T : WT} {I : WI} {g : WG} {x : Str}
def dtGo (g : WG) (T : WT) (Wk W : WE) (is : List Nat) (Q : List (List Int × PyData) → Ev → Prop) : List PyData → List (List Int × PyData) → Ev → Prop
  | [], acc, env => Q acc (kill env is)
  | d :: ds, acc, env => g (.data d) (kill env is) fun e1 => T e1 fun b e2 => if b = true then Wk e2 fun dk e3 => W e3 fun dv e4 => dv.nd = true ∧ (match dk with
      | .data (.tuple ts) => (match intsOf ts with
        | some ks => acc.length < lim ∧ dtGo g T Wk W is Q ds (putD acc ks dv.dat) e4
        | none => False)
      | _ => False) else dtGo g T Wk W is Q ds acc e2
def wDt (I : WI) (g : WG) (T : WT) (Wk W : WE) (is : List Nat) : WE := fun env Q => I env fun ds e => dtGo g T Wk W is (fun acc e2 => Q (.odict acc) (bring e e2 is)) ds [] e
/-- the dict that grows -/
def GrowD (K : PySem.W.Frag) (D : Addr) (kvs : List (List Int × PyData)) (H' G' : Hp) (B' : Addr → Prop) : Prop := ∃ o xs, H' D = some (dO D o) ∧ DOk D o (xs.map entD) ∧ XK K G' xs kvs ∧ (kvs.map Prod.fst).Nodup ∧ kvs.length ≤ 16000000 ∧ G' D = none ∧ ¬ B' D
theorem GrowD.step {D : Addr} {kvs : List (List Int × PyData)} {H' G' H3 G3 : Hp} {B' B3 : Addr → Prop} (h : GrowD K D kvs H' G' B') (s3 : Step H' G' B' H3 G3 B3) : GrowD K D kvs H3 G3 B3 := by
  obtain ⟨o, xs, h1, h2, h3, h4, h5, h6, h7⟩ := h
  have nn : H' D ≠ none := by rw [h1]; exact fun q => nomatch q
  obtain ⟨e1, e2⟩ := s3.fr D nn h7
  exact ⟨o, xs, e1.trans h1, h2, xk_le s3.g h3, h4, h5, e2.trans h6, fun z => (s3.own D z).elim h7 nn⟩
theorem grow_conc {D : Addr} {H' G' : Hp} {B' : Addr → Prop} (k2 : G' D = none) (k3 : ¬ B' D) (c : Conc K H' G' B' σ env) (o) : Conc K (upd H' D o) G' B' σ env := by
  refine ⟨fun a ob z => ?_, fun a z => ⟨(c.fr a z).1, ?_⟩, c.own.mono Le.rfl' (fun a ob z w => ?_) fun _ z => z⟩
  · rw [upd_ne fun w => by rw [w, k2] at z; cases z]
    exact c.le a ob z
  · by_cases w : a = D
    · rw [w, upd_same]; exact fun q => nomatch q
    · rw [upd_ne w]; exact (c.fr a z).2
  · rw [upd_ne fun y => k3 (by rw [← y]; exact z)]
    exact w
theorem snd_dt {ti : TI} {g' : TG} {tt : TT} {tk te : TE} {is : List Nat} (hi : SndI K ti I) (hg : SndG K [] g' g) (ht : SndT K tt T) (hk : SndE K tk Wk) (he : SndE K te W) (hw : Wipes g' is) : SndE K (tDt K ti g' tt tk te is) (wDt I g T Wk W is) := by
  intro σ H G B env Q Qv c hw' q
  refine hi σ H G B env _ _ c hw' fun ds J H1 G1 B1 e1 hq c1 s1 it => ?_
  intro D o0 hD ok0
  have gD : G1 D = none := by
    cases e : G1 D with
    | none => rfl
    | some u => rw [c1.le D u e] at hD; cases hD
  have c0 : Conc K (upd H1 D (dO D o0)) G1 B1 (wipe σ is) (kill e1 is) := conc_kill ((Alloc.own (o := dO D o0) c1.le hD).res c1).conc
  let W0 : Nat → Hp → Prop := fun i H' => i ≤ ds.length ∧ ∃ G' B' env' kvs, dtGo g T Wk W is (fun acc e2 => Q (.odict acc) (bring e1 e2 is)) (ds.drop i) kvs env' ∧ Conc K H' G' B' (wipe σ is) (kill env' is) ∧ GrowD K D kvs H' G' B' ∧ Kept2 H1 G1 B1 H' G' B'
  refine ⟨fun i m H' => m = ds.length - i ∧ W0 i H', ⟨ds.length, by simp, Nat.zero_le _, G1, B1, e1, [], hq, c0, ⟨o0, [], upd_same, ok0, .nil, List.nodup_nil, Nat.zero_le _, gD, fun z => (c1.fr D z).2 hD⟩, Kept2.put (H' := H1) (G' := G1) (B' := B1) ⟨Le.rfl', fun _ z => .inl z, fun _ _ _ => ⟨rfl, rfl⟩, fun _ z => z⟩ hD _⟩, ?_⟩
  rintro i m H' ⟨rfl, hi', G', B', env', kvs, hf, c', gr, kp⟩
  by_cases hlt : i < ds.length
  · refine .inr ⟨it.go H' i (kp.1.tr c'.le) hlt, W0 (i + 1), fun H2 h2 => ⟨ds.length - (i + 1), by omega, rfl, h2⟩, fun x H2 hy => ?_⟩
    obtain ⟨d, G2, ed, al, dp⟩ := it.yld H' G' H2 i x kp.1 c'.le hlt hy
    have r2 := al.res c'
    rw [drop_cons hlt ed] at hf
    have s2 : Step H' G' B' H2 G2 B' := r2.drop
    have own := hw.own x (wipe σ is) H2 (fun σ2 H3 => tt σ2 H3 fun b H4 => if b = true then tk σ2 H4 fun y H4 => te σ2 H4 fun z H5 => ∃ bk ks o xs kvs, y = .ref bk ∧ SqT K H5 bk (ks.map V.int) ∧ H5 D = some (dO D o) ∧ DOk D o (xs.map entD) ∧ XK K H5 xs kvs ∧ (kvs.map Prod.fst).Nodup ∧ xs.length ≤ sizeLine ∧
      ∀ o' u, RelV z u → DOk D o' ((storedH xs ks bk u).map entD) → W0 (i + 1) (upd H5 D (dO D o')) else W0 (i + 1) H4) ?_
    · rw [wipe_wipe] at own
      exact own
    refine hg x (.data d) (wipe σ is) H2 G2 B' (fun _ => False) (kill env' is) _ _ r2.conc (fun _ z => z.elim) (fun _ z => z.elim) (.data dp) hf fun σ3 B3 env3 hb3 c3 w3 p3 ws => ?_
    rw [wipe_wipe] at ws
    have s3 : Step H' G' B' H2 G2 B3 := s2.less fun a z => (w3 a z).elim id False.elim
    refine ht σ3 H2 G2 B3 env3 _ _ c3 hb3 fun b H4 G4 B4 e4 hq4 c4 s4 => ?_
    have s34 := s3.tr s4
    cases b with
    | false =>
      have c5 : Conc K H4 G4 B4 (wipe σ is) (kill e4 is) := by
        have := conc_kill (is := is) c4
        rw [ws] at this
        exact this
      exact ⟨hlt, G4, B4, e4, kvs, hq4, c5, gr.step s34, kp.step s34⟩
    | true =>
      refine hk σ3 H4 G4 B4 e4 _ _ c4 hq4 fun y H5 G5 B5 C5 e5 dk hq5 r5 o5 => ?_
      refine he σ3 H5 G5 B5 e5 _ _ r5.conc hq5 fun z H6 G6 B6 C6 e6 dv hq6 r6 o6 => ?_
      obtain ⟨hnd, hq6⟩ := hq6
      split at hq6
      case h_2 => exact hq6.elim
      rename_i ts
      split at hq6
      case h_2 => exact hq6.elim
      rename_i ks ek
      obtain ⟨rB, dpB⟩ := r6.freeze o6 hnd
      have s5 : Step H' G' B' H5 G5 B5 := s34.tr r5.drop
      have sB := s5.tr rB.drop
      obtain ⟨bk, rfl, hbk⟩ : ∃ b, y = .ref b ∧ SqT K G5 b (ks.map V.int) := by
        cases o5 with
        | data hh =>
          cases hh with
          | tup s t =>
            rw [intsOf_ok ek] at t
            have := dpa_ints t
            subst this
            exact ⟨_, rfl, s⟩
      have hbG : SqT K (ice H6 G6 C6) bk (ks.map V.int) := sqt_le rB.drop.g hbk
      obtain ⟨o, xs, q1, q2, q3, q4, q5, q6, q7⟩ := gr.step sB
      have kB := kp.step sB
      have cB : Conc K H6 (ice H6 G6 C6) B6 (wipe σ is) (kill e6 is) := by
        have := conc_kill (is := is) rB.conc
        rw [ws] at this
        exact this
      refine ⟨bk, ks, o, xs, kvs, rfl, sqt_le rB.conc.le hbG, q1, q2, xk_le rB.conc.le q3, q4, by rw [xk_len q3]; exact lim_le q5, fun o' u ru k2 => ?_⟩
      refine ⟨hlt, ice H6 G6 C6, B6, e6, putD kvs ks dv.dat, hq6.2, grow_conc q6 q7 cB _, ⟨o', storedH xs ks bk u, upd_same, k2, xk_stored hbG ru dpB q3 q4, putD_nodup q4, ?_, q6, q7⟩, kB.put hD _⟩
      have h1 := putD_len kvs ks dv.dat
      have h2 : kvs.length < 16000000 := hq6.1
      omega
  · have e : i = ds.length := by omega
    subst e
    rw [List.drop_length] at hf
    obtain ⟨l', ow, fr, th⟩ := kp
    obtain ⟨o, xs, q1, q2, q3, q4, q5, q6, q7⟩ := gr
    refine .inl ⟨it.stop H' (l'.tr c'.le), ?_⟩
    have cc : Conc K H' G' B' σ (bring e1 (kill env' is) is) := conc_bring (conc_back c') (fun i d e => by
      obtain ⟨v, e3, o⟩ := c1.own.look e
      cases o with
      | data h => exact ⟨v, e3, dp_le l' h⟩) is
    refine q (.ref D) H' G' B' (fun a => a = D) (bring e1 (kill env' is) is) (.odict kvs) hf ⟨cc, fun a z => by subst z; exact ⟨q6, by rw [q1]; exact fun q => nomatch q⟩, fun a z => by subst z; exact q7, ?_⟩ (.odict rfl q1 q2 (xk_dent q3) ⟨q4, q5⟩)
    refine s1.tr ⟨l', fun a z => z.elim (ow a) fun y => by subst y; exact .inr hD, fr, th⟩
/-- the parts of it -/
theorem den_dt (hkd : scope.kind = .function) (ok : blkC N sc.sc scope own = true) (hi : DenI P w K mg base k N sc tg iter I) (hc : CompOk P w K mg base k N (scB scope sc) tg elt ifs own g T W) (hkey : DenE P w K mg base k N (scB scope sc) key Wk) (hs : ∀ env x, foldedSetIterable iter env x = pure x := by intros; rfl) :
    DenE P w K mg base k N sc (.DictComp key elt [⟨tg, iter, ifs, 0⟩] scope pos) (wDt I g T Wk W (own.map (·.2))) := by
  obtain ⟨ti, i1, i2⟩ := hi
  obtain ⟨g', tt, te, g1, t1, e1, g2, t2, e2, hw⟩ := hc.ex
  obtain ⟨tk, k1, k2⟩ := hkey
  refine ⟨tDt K ti g' tt tk te (own.map (·.2)), fun X hX => ?_, snd_dt i2 g2 t2 k2 e2 hw⟩
  have := pe_dt (pos := pos) (by have := hX.room.un; omega) hX.calm (by rw [hX.eN]; exact hX.nd) (i1 X hX) (blkOk_by (by rw [hX.eN, hX.es]; exact ok)) (fun s H Cc cl fp => g1 _ (blk_ok hX hkd s H Cc cl fp)) (fun s H Cc cl fp => t1 _ (blk_ok hX hkd s H Cc cl fp)) (fun s H Cc cl fp => k1 _ (blk_ok hX hkd s H Cc cl fp)) (fun s H Cc cl fp => e1 _ (blk_ok hX hkd s H Cc cl fp)) (hs X.env)
  rw [hX.eK] at this
  exact this
theorem dens_setDtC {i : Nat} {py spos : Pos} (hkd : scope.kind = .function) (ok : blkC N sc.sc scope own = true) (hy : N[i]? = some x) (hl : LocB sc x = true) (hyc : sc.sc.names.lookup x = some .cell) (hp : free pin i = true)
    (hi : DenI P w K mg base k N sc tg iter I) (hc : CompOk P w K mg base k N (scB scope sc) tg elt ifs own g T W) (hkey : DenE P w K mg base k N (scB scope sc) key Wk) (hs : ∀ env x, foldedSetIterable iter env x = pure x := by intros; rfl) :
    DenS P w K mg base k N sc pin (.Assign [.Name x py] (.DictComp key elt [⟨tg, iter, ifs, 0⟩] scope pos) spos) (sAsg (wDt I g T Wk W (own.map (·.2))) (gNm i)) := by
  obtain ⟨te, h1, h2⟩ := den_dt (pos := pos) hkd ok hi hc hkey hs
  refine ⟨_, fun X hX => ps_set (by rw [hX.eN]; exact hX.nd) (by rw [hX.eN]; exact hy) (by rw [hX.es]; exact loc_of hl) (h1 X hX) ?_ (by rw [hX.es, hX.fn]; exact fn_of_loc hl), snd_asg h2 (sndG_nm hp)⟩
  have ky : X.env.kindOf x = some .cell := by unfold Env.kindOf; rw [hX.es]; exact hyc
  unfold swapsWith
  simp only [ky, show ((some NameKind.cell : Option NameKind) == some NameKind.local) = false from rfl, show (NameKind.cell == NameKind.local) = false from rfl, Bool.and_false, Bool.false_and]
  try rfl
/-- over things of a kind, their keys unlike -/
theorem dtGo_enc {α : Type} {g : WG} {T : WT} {Wk W : WE} {is : List Nat} {Q : List (List Int × PyData) → Ev → Prop} (E : Ev) (enc : α → PyData) (p : α → Bool) (key : α → List Int) (f : α → PyData) : ∀ (xs : List α) (acc : List (List Int × PyData)) (env : Ev), kill env is = E → acc.length + xs.length ≤ lim →
    (∀ d ∈ xs, ∀ (Z : DV → DV → Ev → Prop) (U : Ev → Prop), (p d = true → ∀ e, kill e is = E → Z (.data (.tuple ((key d).map .int))) (.data (f d)) e) → (p d = false → ∀ e, kill e is = E → U e) → g (.data (enc d)) E fun e1 => T e1 fun b e2 => if b = true then Wk e2 fun dk e3 => W e3 fun dv e4 => Z dk dv e4 else U e2) →
    Q ((xs.filter p).foldl (fun a d => putD a (key d) (f d)) acc) E → dtGo g T Wk W is Q (xs.map enc) acc env
  | [], acc, env, hE, hl, h, hq => by
    show Q acc (kill env is)
    rw [hE]
    exact hq
  | d :: ds, acc, env, hE, hl, h, hq => by
    show g (.data (enc d)) (kill env is) _
    rw [hE]
    rw [List.length_cons] at hl
    refine h d List.mem_cons_self (fun dk dv e4 => dv.nd = true ∧ (match dk with
      | .data (.tuple ts) => (match intsOf ts with
        | some ks => acc.length < lim ∧ dtGo g T Wk W is Q (ds.map enc) (putD acc ks dv.dat) e4
        | none => False)
      | _ => False)) (fun e2 => dtGo g T Wk W is Q (ds.map enc) acc e2) (fun hp e he => ⟨rfl, ?_⟩) (fun hp e he => ?_)
    · have ei : intsOf ((key d).map PyData.int) = some (key d) := by
        have := intsOf_mapf (fun x : Int => x) (key d)
        rw [List.map_id'] at this
        exact this
      simp only [ei]
      refine ⟨by omega, ?_⟩
      refine dtGo_enc E enc p key f ds _ e he (by have := putD_len acc (key d) (f d); show _ ≤ _; simp only [DV.dat]; omega) (fun d' hd' => h d' (List.mem_cons_of_mem _ hd')) ?_
      rw [List.filter_cons, if_pos hp, List.foldl_cons] at hq
      exact hq
    · refine dtGo_enc E enc p key f ds _ e he (by omega) (fun d' hd' => h d' (List.mem_cons_of_mem _ hd')) ?_
      rw [List.filter_cons, if_neg (by rw [hp]; exact Bool.false_ne_true)] at hq
      exact hq
theorem foldl_new {α : Type} (key : α → List Int) (f : α → PyData) : ∀ (xs : List α) (acc : List (List Int × PyData)), (∀ x ∈ xs, key x ∉ acc.map Prod.fst) → (xs.map key).Nodup → xs.foldl (fun a d => putD a (key d) (f d)) acc = acc ++ xs.map fun x => (key x, f x)
  | [], acc, _, _ => by simp
  | x :: xs, acc, h, n => by
    rw [List.map_cons, List.nodup_cons] at n
    have e : putD acc (key x) (f x) = acc ++ [(key x, f x)] := by
      have hx := h x List.mem_cons_self
      clear h n
      induction acc with
      | nil => rfl
      | cons a acc ih =>
        obtain ⟨a1, a2⟩ := a
        rw [List.map_cons, List.mem_cons, not_or] at hx
        unfold putD
        rw [if_neg fun z => hx.1 z.symm, ih hx.2]
        rfl
    rw [List.foldl_cons, e, foldl_new key f xs _ (fun y hy => ?_) n.2, List.append_assoc]
    · rfl
    · rw [List.map_append, List.mem_append, not_or]
      refine ⟨h y (List.mem_cons_of_mem _ hy), ?_⟩
      rw [List.map_cons, List.map_nil, List.mem_singleton]
      exact fun z => n.1 (List.mem_map.2 ⟨y, hy, z⟩)
end
end Kb
namespace Kb
open PySem PySem.Spec PyProof.Rows L2
/-! ### comb, taken from math -/
def rComb : List V → Hp → VK → Prop := fun vs H Q => ∃ a b : Int, vs = [.int a, .int b] ∧ 0 ≤ a ∧ 0 ≤ b ∧ a < 2 ^ 64 ∧ b ≤ 9000 ∧ Q (.int (PySem.W.mcComb a b)) H
theorem cr_comb {X : Cx} : CallR X (.builtin "math.comb") rComb := by
  intro pins s σ H vs us Q I r h
  obtain ⟨a, b, rfl, h1, h2, h3, h4, q⟩ := h
  cases r with
  | cons r1 r2 =>
    cases r2 with
    | cons r2 r3 =>
      cases r3
      obtain ⟨t1, rfl⟩ := r1
      obtain ⟨t2, rfl⟩ := r2
      exact PySem.W.mc_comb_v h1 h2 h3 (.inl h4) rfl ⟨.int (PySem.W.mcComb a b), H, I.tok _, ⟨_, rfl⟩, q⟩
section
variable {P : Program} {w : World} {K : PySem.W.Frag} {mg : Str → Option Value} {base : Heap} {k : Nat} {N : List Str} {sc : Scf}
variable {a b : Expr} {pos p : Pos} {A O : WO} {x : Str}
def fComb : F2 := fun x y Q => match x, y with
  | .data (.int a), .data (.int b) => 0 ≤ a ∧ 0 ≤ b ∧ a < 2 ^ 64 ∧ b ≤ 9000 ∧ Q (.data (.int (PySem.W.mcComb a b)))
  | _, _ => False
theorem den_comb (hm : mg x = some (.builtin "math.comb")) (hg : GloB sc x = true) (ha : DenO P w K mg base k N sc a A) (hb : DenO P w K mg base k N sc b O)
    (hs : ∀ env, starEach [a, b] env = (false, eval a env) :: starEach [b] env := by intros; rfl) (hs' : ∀ env, starEach [b] env = (false, eval b env) :: starEach [] env := by intros; rfl) (hdb : (x == ("__debug__" : Str)) = false := by decide)
    (hpl : ∀ env, (backTo pos (starEach [b] env)).any (·.1) = false := by intros; rfl) : DenE P w K mg base k N sc (.Call (.Name x p) [a, b] [] pos) (w2 fComb A O) := by
  obtain ⟨ta, a1, a2⟩ := ha
  obtain ⟨tb, b1, b2⟩ := hb
  refine ⟨tCB rComb (tCons ta (tCons tb tNil)), fun X hX => ?_, snd_w2 (r := fun v u H Q => rComb [v, u] H Q) (fun G H x y dx dy Q Qv l px py h q => ?_) a2 b2⟩
  · constructor
    intro pins s σ H Q I h
    refine wpAny_Call_Name_kw (ld_glob I (gl_of hX hg) (show X.mg x = some (.builtin "math.comb") by rw [hX.eg]; exact hm) ?_ hdb)
    exact PyProof.Rows.callWith_builtin1 (thn ((pa_cons (a1 X hX) (pa_cons (b1 X hX) pa_nil (hs' X.env)) (hs X.env)).run pos pins s σ H _ I h) fun us s1 ⟨vs, H1, I1, r1, q1⟩ => cr_comb pins s1 σ H1 vs us Q I1 r1 q1) (hs X.env) (hpl X.env)
  · unfold fComb at h
    split at h
    case h_2 => exact h.elim
    rename_i i j
    obtain ⟨h1, h2, h3, h4, h⟩ := h
    have e1 := px.int
    have e2 := py.int
    subst e1
    subst e2
    exact ⟨i, j, rfl, h1, h2, h3, h4, q _ H G _ _ h (Alloc.refl l) (.data (.int _))⟩
end
end Kb
namespace Kb
open PySem PySem.Spec PyProof.Rows L2
/-! ### all standings within tops, in their order -/
def ltx : List Int → List Int → Prop
  | a :: as, b :: bs => a < b ∨ (a = b ∧ ltx as bs)
  | _, _ => False
theorem ltx_irrefl : ∀ a : List Int, ¬ ltx a a
  | [], h => h
  | a :: l, h => h.elim (fun z => Int.lt_irrefl _ z) fun z => ltx_irrefl l z.2
theorem ltx_trans : ∀ {a b c : List Int}, ltx a b → ltx b c → ltx a c
  | [], _, _, h, _ => h.elim
  | _ :: _, [], _, h, _ => h.elim
  | _ :: _, _ :: _, [], _, h => h.elim
  | a :: as, b :: bs, c :: cs, h, g => by
    unfold ltx at h g ⊢
    rcases h with h | ⟨rfl, h⟩
    · rcases g with g | ⟨rfl, g⟩
      · exact .inl (Int.lt_trans h g)
      · exact .inl h
    · rcases g with g | ⟨rfl, g⟩
      · exact .inl g
      · exact .inr ⟨rfl, ltx_trans h g⟩
theorem ltx_app : ∀ {a b : List Int} (c d : List Int), ltx a b → ltx (a ++ c) (b ++ d)
  | [], _, _, _, h => h.elim
  | _ :: _, [], _, _, h => h.elim
  | a :: as, b :: bs, c, d, h => by
    unfold ltx at h
    show ltx (a :: (as ++ c)) (b :: (bs ++ d))
    unfold ltx
    exact h.imp id fun z => ⟨z.1, ltx_app c d z.2⟩
theorem ltx_snoc (x y : Int) (h : x < y) : ∀ a : List Int, ltx (a ++ [x]) (a ++ [y])
  | [] => .inl h
  | a :: l => .inr ⟨rfl, ltx_snoc x y h l⟩
theorem ltx_less : ∀ {s : List Int} {p : Nat}, p < s.length → ltx (add s p (-1)) s
  | [], _, h => by simp at h
  | a :: l, 0, _ => by
    unfold add
    exact .inl (by simp; omega)
  | a :: l, p + 1, h => by
    have := ltx_less (s := l) (p := p) (by simpa using h)
    unfold add at this ⊢
    refine .inr ⟨rfl, ?_⟩
    simpa using this
def boxStep (n : Int) (B : List (List Int)) (t : Int) : List (List Int) := B.flatMap fun b => (List.range (min t (n - b.sum) + 1).toNat).map fun (m : Nat) => b ++ [(m : Int)]
def boxL (n : Int) (tops : List Int) : List (List Int) := tops.foldl (boxStep n) [[]]
theorem boxL_snoc (n : Int) (tops : List Int) (t : Int) : boxL n (tops ++ [t]) = boxStep n (boxL n tops) t := by
  unfold boxL
  rw [List.foldl_append]
  rfl
theorem snoc_ind {α : Type} {P : List α → Prop} (h0 : P []) (h1 : ∀ l x, P l → P (l ++ [x])) (l : List α) : P l := by
  have : ∀ r : List α, P r.reverse := by
    intro r
    induction r with
    | nil => exact h0
    | cons a r ih => rw [List.reverse_cons]; exact h1 _ _ ih
  simpa using this l.reverse
theorem box_sorted (n : Int) (tops : List Int) : (boxL n tops).Pairwise ltx ∧ ∀ b ∈ boxL n tops, b.length = tops.length := by
  refine snoc_ind (P := fun tops => (boxL n tops).Pairwise ltx ∧ ∀ b ∈ boxL n tops, b.length = tops.length) ?_ (fun l t ih => ?_) tops
  · exact ⟨List.pairwise_singleton _ _, fun b hb => by rw [List.mem_singleton.1 hb]⟩
  · rw [boxL_snoc]
    unfold boxStep
    refine ⟨List.pairwise_flatMap.2 ⟨fun b hb => ?_, ih.1.imp fun {a b} h x hx z hz => ?_⟩, fun b hb => ?_⟩
    · rw [List.pairwise_map]
      exact List.pairwise_lt_range.imp fun {i j} h => ltx_snoc _ _ (by omega) b
    · obtain ⟨i, _, rfl⟩ := List.mem_map.1 hx
      obtain ⟨j, _, rfl⟩ := List.mem_map.1 hz
      exact ltx_app _ _ h
    · obtain ⟨c, hc, hb⟩ := List.mem_flatMap.1 hb
      obtain ⟨j, _, rfl⟩ := List.mem_map.1 hb
      rw [List.length_append, ih.2 c hc, List.length_append, List.length_singleton, List.length_singleton]
theorem sum_snoc (a : List Int) (x : Int) : (a ++ [x]).sum = a.sum + x := by
  induction a with
  | nil => simp
  | cons y l ih => simp only [List.cons_append, List.sum_cons, ih]; omega
/-- who is in the box -/
def InBox (n : Int) (tops s : List Int) : Prop := s.length = tops.length ∧ (∀ p, p < tops.length → 0 ≤ s.getD p 0 ∧ s.getD p 0 ≤ tops.getD p 0) ∧ s.sum ≤ n
theorem sum_nonneg : ∀ {a : List Int}, (∀ p, p < a.length → 0 ≤ a.getD p 0) → 0 ≤ a.sum
  | [], _ => Int.le_refl _
  | x :: l, h => by
    have h0 := h 0 (by simp)
    have := sum_nonneg (a := l) fun p hp => by simpa using h (p + 1) (by simpa using hp)
    simp only [List.sum_cons]
    simp at h0
    omega
theorem getD_app_l {a : List Int} {x : Int} {p : Nat} (h : p < a.length) : (a ++ [x]).getD p 0 = a.getD p 0 := by rw [getD_snoc, if_pos h]
theorem getD_app_r {a : List Int} {x : Int} : (a ++ [x]).getD a.length 0 = x := by rw [getD_snoc, if_neg (Nat.lt_irrefl _), if_pos rfl]
theorem box_mem {n : Int} (h0 : 0 ≤ n) (tops : List Int) : ∀ s, s ∈ boxL n tops ↔ InBox n tops s := by
  refine snoc_ind (P := fun tops => ∀ s, s ∈ boxL n tops ↔ InBox n tops s) (fun s => ?_) (fun l t ih s => ?_) tops
  · refine ⟨fun h => ?_, fun h => ?_⟩
    · rw [List.mem_singleton.1 h]
      exact ⟨rfl, fun p hp => by simp at hp, h0⟩
    · have : s = [] := List.eq_nil_of_length_eq_zero h.1
      rw [this]
      exact List.mem_singleton.2 rfl
  · rw [boxL_snoc]
    unfold boxStep
    rw [List.mem_flatMap]
    refine ⟨?_, fun h => ?_⟩
    · rintro ⟨b, hb, hs⟩
      obtain ⟨m, hm, rfl⟩ := List.mem_map.1 hs
      rw [List.mem_range] at hm
      have ib := (ih b).1 hb
      refine ⟨by rw [List.length_append, List.length_append, ib.1]; rfl, fun p hp => ?_, ?_⟩
      · rw [List.length_append, List.length_singleton] at hp
        by_cases hq : p < l.length
        · rw [getD_app_l hq, getD_app_l (by rw [ib.1]; exact hq)]
          exact ib.2.1 p hq
        · have e : p = l.length := by omega
          subst e
          rw [getD_app_r]
          have e2 : (b ++ [(m : Int)]).getD l.length 0 = m := by rw [← ib.1]; exact getD_app_r
          rw [e2]
          omega
      · rw [sum_snoc]
        omega
    · obtain ⟨h1, h2, h3⟩ := h
      rw [List.length_append, List.length_singleton] at h1
      have hne : s ≠ [] := fun e => by rw [e] at h1; cases h1
      obtain ⟨b, x, rfl⟩ : ∃ b x, s = b ++ [x] := ⟨s.dropLast, s.getLast hne, (List.dropLast_concat_getLast hne).symm⟩
      rw [List.length_append, List.length_singleton] at h1
      have hbl : b.length = l.length := by omega
      have hx := h2 l.length (by rw [List.length_append, List.length_singleton]; omega)
      rw [getD_app_r] at hx
      have e2 : (b ++ [x]).getD l.length 0 = x := by rw [← hbl]; exact getD_app_r
      rw [e2] at hx
      rw [sum_snoc] at h3
      have hb : ∀ p, p < l.length → 0 ≤ b.getD p 0 ∧ b.getD p 0 ≤ l.getD p 0 := fun p hp => by
        have := h2 p (by rw [List.length_append, List.length_singleton]; omega)
        rw [getD_app_l (by omega), getD_app_l hp] at this
        exact this
      refine ⟨b, (ih b).2 ⟨hbl, hb, by omega⟩, List.mem_map.2 ⟨x.toNat, List.mem_range.2 (by omega), ?_⟩⟩
      rw [show ((x.toNat : Nat) : Int) = x by omega]
/-! ### the product of the tops -/
def prodT : List Int → Int
  | [] => 1
  | t :: l => (t + 1) * prodT l
theorem prodT_snoc (l : List Int) (t : Int) : prodT (l ++ [t]) = prodT l * (t + 1) := by
  induction l with
  | nil => simp [prodT]
  | cons a l ih =>
    show (a + 1) * prodT (l ++ [t]) = (a + 1) * prodT l * (t + 1)
    rw [ih, Int.mul_assoc]
theorem prodT_pos : ∀ {l : List Int}, (∀ t ∈ l, 0 ≤ t) → 1 ≤ prodT l
  | [], _ => Int.le_refl _
  | t :: l, h => by
    have h1 := prodT_pos (l := l) fun t ht => h t (List.mem_cons_of_mem _ ht)
    have h2 := h t List.mem_cons_self
    have := Int.mul_le_mul (show (1 : Int) ≤ t + 1 by omega) h1 (by omega) (by omega)
    unfold prodT
    omega
theorem len_flat {α β : Type} (f : α → List β) (c : Nat) : ∀ l : List α, (∀ a ∈ l, (f a).length ≤ c) → (l.flatMap f).length ≤ l.length * c
  | [], _ => by simp
  | a :: l, h => by
    have h1 := h a List.mem_cons_self
    have h2 := len_flat f c l fun b hb => h b (List.mem_cons_of_mem _ hb)
    rw [List.flatMap_cons, List.length_append, List.length_cons, Nat.succ_mul]
    omega
theorem box_len (n : Int) (tops : List Int) : (∀ t ∈ tops, 0 ≤ t) → ((boxL n tops).length : Int) ≤ prodT tops := by
  refine snoc_ind (P := fun tops => (∀ t ∈ tops, 0 ≤ t) → ((boxL n tops).length : Int) ≤ prodT tops) (fun _ => Int.le_refl _) (fun l t ih h => ?_) tops
  have ht := h t (by simp)
  have hl := ih fun x hx => h x (by simp [hx])
  rw [boxL_snoc, prodT_snoc]
  have := len_flat (fun b => (List.range (min t (n - b.sum) + 1).toNat).map fun (m : Nat) => b ++ [(m : Int)]) (t + 1).toNat (boxL n l) fun b _ => by
    rw [List.length_map, List.length_range]
    omega
  have e : ((boxL n l).length * (t + 1).toNat : Nat) = ((boxL n l).length : Int) * (t + 1) := by
    rw [Int.natCast_mul]
    congr 1
    omega
  have h2 : ((boxL n l).length : Int) * (t + 1) ≤ prodT l * (t + 1) := Int.mul_le_mul_of_nonneg_right hl (by omega)
  unfold boxStep
  omega
theorem prodT_app_le {l : List Int} (h : ∀ t ∈ l, 0 ≤ t) (k : Nat) : prodT (l.take k) ≤ prodT l := by
  have e : ∀ a b : List Int, prodT (a ++ b) = prodT a * prodT b := by
    intro a b
    induction a with
    | nil => simp [prodT]
    | cons x a ih =>
      show (x + 1) * prodT (a ++ b) = (x + 1) * prodT a * prodT b
      rw [ih, Int.mul_assoc]
  have h1 := e (l.take k) (l.drop k)
  rw [List.take_append_drop] at h1
  have h2 := prodT_pos (l := l.take k) fun t ht => h t (List.mem_of_mem_take ht)
  have h3 := prodT_pos (l := l.drop k) fun t ht => h t (List.mem_of_mem_drop ht)
  have := Int.mul_le_mul_of_nonneg_left h3 (show (0 : Int) ≤ prodT (l.take k) by omega)
  omega
/-! ### the least standings -/
theorem serve_isSome (y : List Rm) (now : List Int) (a : Ask) : (serveM y now a).1.isSome = (firstT now a.1).isSome := by
  exact (serveM_eq y now a).2
theorem gets_mono {y : List Rm} {d : List Ask} {a b : List Int} {k : Nat} (hd : ∀ k ∈ d, AskOk y.length k) (h : Below a b) (fa : Fine y a) (fb : Fine y b) (g : getsB y a d k = true) : getsB y b d k = true := by
  by_cases hk : k < d.length
  · rw [gets_at hk, serve_isSome] at g ⊢
    have bl := below_day (d := d.take k) (fun x hx => hd x (List.mem_of_mem_take hx)) h fa fb
    unfold firstT at g ⊢
    rw [List.find?_isSome] at g ⊢
    obtain ⟨p, hp, hg⟩ := g
    have hpn : p < (goM y a (d.take k)).2.length := by
      have := (hd d[k] (List.getElem_mem _)).1.2 p hp
      by_cases z : p < (goM y a (d.take k)).2.length
      · exact z
      · rw [List.getD_eq_getElem?_getD, List.getElem?_eq_none (by omega)] at hg
        simp at hg
    refine ⟨p, hp, ?_⟩
    have := bl.2 p hpn
    simp only [decide_eq_true_eq] at hg ⊢
    omega
  · unfold getsB at g
    rw [List.getD_eq_getElem?_getD, List.getElem?_eq_none (by rw [goM_len]; omega)] at g
    cases g
def svB (y : List Rm) (d : List Ask) (few : List Nat) (s : List Int) : Bool := (firstW y s d few).isNone
theorem sv_iff {y : List Rm} {d : List Ask} {few : List Nat} {s : List Int} : svB y d few s = true ↔ ∀ k ∈ few, getsB y s d k = true := by
  unfold svB firstW
  rw [Option.isNone_iff_eq_none, List.find?_eq_none]
  simp
theorem sv_mono {y : List Rm} {d : List Ask} {few : List Nat} {a b : List Int} (hd : ∀ k ∈ d, AskOk y.length k) (h : Below a b) (fa : Fine y a) (fb : Fine y b) (g : svB y d few a = true) : svB y d few b = true :=
  sv_iff.2 fun k hk => gets_mono hd h fa fb (sv_iff.1 g k hk)
def fewerL (s : List Int) : List (List Int) := (placesT s).map fun p => add s p (-1)
def leastB (y : List Rm) (d : List Ask) (few : List Nat) (s : List Int) : Bool := svB y d few s && !((fewerL s).any (svB y d few))
def wantM (n : Nat) (d : List Ask) : List Int := (List.range n).map fun p => ((wishM d p : Nat) : Int)
def leastM (y : List Rm) (d : List Ask) (few : List Nat) : List (List Int) := (boxL (wantM y.length d).sum (wantM y.length d)).filter (leastB y d few)
theorem lookD_map {v : PyData} (k : List Int) : ∀ L : List (List Int), (lookD (L.map fun s => (s, v)) k).isSome = decide (k ∈ L)
  | [] => by simp [lookD]
  | a :: L => by
    rw [List.map_cons]
    unfold lookD
    by_cases h : a = k
    · rw [if_pos h]; simp [h]
    · rw [if_neg h, lookD_map k L]
      have : k ≠ a := fun e => h e.symm
      simp [this]
theorem putD_new {v : PyData} {k : List Int} : ∀ L : List (List Int), k ∉ L → putD (L.map fun s => (s, v)) k v = (L ++ [k]).map fun s => (s, v)
  | [], _ => rfl
  | a :: L, h => by
    rw [List.map_cons]
    unfold putD
    rw [if_neg fun e => h (by rw [e]; exact List.mem_cons_self), putD_new L fun z => h (List.mem_cons_of_mem _ z)]
    rfl
def OpenY (y : List Rm) : Prop := ∀ p, p < y.length → y.getD p none = none
theorem fine_open {y : List Rm} {s : List Int} (ho : OpenY y) (hl : s.length = y.length) (h : ∀ p, p < s.length → 0 ≤ s.getD p 0) : Fine y s :=
  ⟨hl, fun p hp => ⟨h p (by omega), fun i hi => by rw [ho p hp] at hi; cases hi⟩⟩
theorem box_split {n : Int} {tops s : List Int} {pre post : List (List Int)} (e : pre ++ s :: post = boxL n tops) : s ∉ pre ∧ ∀ t ∈ s :: post, ltx t s → False := by
  have hp := (box_sorted n tops).1
  rw [← e, List.pairwise_append] at hp
  refine ⟨fun h => ltx_irrefl s (hp.2.2 s h s List.mem_cons_self), fun t ht h => ?_⟩
  rcases List.mem_cons.1 ht with rfl | ht
  · exact ltx_irrefl _ h
  · exact ltx_irrefl _ (ltx_trans h ((List.pairwise_cons.1 hp.2.1).1 t ht))
theorem in_less {n : Int} {tops s : List Int} {p : Nat} (h : InBox n tops s) (hp : p ∈ placesT s) : InBox n tops (add s p (-1)) := by
  obtain ⟨hps, h0⟩ := places_mem hp
  refine ⟨by rw [add_len]; exact h.1, fun q hq => ?_, ?_⟩
  · rw [getD_add hps]
    have h1 := h.2.1 q hq
    by_cases e : p = q
    · subst e; rw [if_pos rfl]; omega
    · rw [if_neg e]; exact h1
  · have := sum_add (k := -1) hps
    have := h.2.2
    omega
theorem fewer_pre {n : Int} {tops s : List Int} {pre post : List (List Int)} (h0 : 0 ≤ n) (e : pre ++ s :: post = boxL n tops) : ∀ t ∈ fewerL s, t ∈ pre := by
  intro t ht
  obtain ⟨p, hp, rfl⟩ := List.mem_map.1 ht
  have hs : s ∈ boxL n tops := by rw [← e]; simp
  have hb := (box_mem h0 tops _).2 (in_less ((box_mem h0 tops s).1 hs) hp)
  rw [← e, List.mem_append] at hb
  rcases hb with hb | hb
  · exact hb
  · exact ((box_split e).2 _ hb (ltx_less (places_mem hp).1)).elim
theorem less_below {s : List Int} {p : Nat} (hp : p ∈ placesT s) : Below (add s p (-1)) s := by
  obtain ⟨hps, _⟩ := places_mem hp
  refine ⟨add_len s p (-1), fun q hq => ?_⟩
  rw [getD_add hps]
  by_cases e : p = q
  · subst e; rw [if_pos rfl]; omega
  · rw [if_neg e]; omega
/-- what the search has found ahead of a standing tells whether one thing fewer serves -/
theorem any_pre {y : List Rm} {d : List Ask} {few : List Nat} {n : Int} {tops s : List Int} {pre post : List (List Int)} (h0 : 0 ≤ n) (e : pre ++ s :: post = boxL n tops) :
    (fewerL s).any (fun t => decide (t ∈ pre.filter (svB y d few))) = (fewerL s).any (svB y d few) := by
  rw [Bool.eq_iff_iff, List.any_eq_true, List.any_eq_true]
  refine ⟨fun ⟨t, ht, h⟩ => ⟨t, ht, (List.mem_filter.1 (of_decide_eq_true h)).2⟩, fun ⟨t, ht, h⟩ => ⟨t, ht, decide_eq_true (List.mem_filter.2 ⟨fewer_pre h0 e t ht, h⟩)⟩⟩
end Kb
namespace Kb
open PySem PySem.Spec PyProof.Rows L2
/-! ### asks of one want -/
def Plain (a : Ask) : Prop := (∃ w, a.1 = [w]) ∧ (a.2 = [] ∨ ∃ l, a.2 = [l])
def stepP (p : Nat) (a : Ask) : Int := (if a.2 = [p] then 1 else 0) - (if a.1 = [p] then 1 else 0)
def oneP (p : Nat) (a : Ask) : Int := if a.1 = [p] then 1 else 0
/-- how many things a place needs -/
def needP (p : Nat) : List Ask → Int
  | [] => 0
  | a :: d => max (oneP p a) (needP p d - stepP p a)
theorem oneP_01 (p : Nat) (a : Ask) : oneP p a = 0 ∨ oneP p a = 1 := by unfold oneP; split <;> simp
theorem needP_nonneg (p : Nat) : ∀ d : List Ask, 0 ≤ needP p d
  | [] => Int.le_refl _
  | a :: d => by
    unfold needP
    have := oneP_01 p a
    omega
theorem needP_wish (p : Nat) : ∀ d : List Ask, (∀ a ∈ d, Plain a) → needP p d ≤ (wishM d p : Nat)
  | [], _ => by simp [needP, wishM]
  | a :: d, h => by
    have ih := needP_wish p d fun b hb => h b (List.mem_cons_of_mem _ hb)
    have e : wishM (a :: d) p = (if p ∈ a.1 then 1 else 0) + wishM d p := by
      unfold wishM
      rw [List.filter_cons]
      by_cases g : p ∈ a.1
      · rw [if_pos g, if_pos (by simpa using g), List.length_cons]; omega
      · rw [if_neg g, if_neg (by simpa using g)]; omega
    have e1 : oneP p a = if p ∈ a.1 then 1 else 0 := by
      obtain ⟨⟨w, hw⟩, _⟩ := h a List.mem_cons_self
      unfold oneP
      rw [hw]
      by_cases g : w = p
      · subst g; simp
      · have : p ≠ w := fun z => g z.symm
        simp [g, this]
    have e2 : - oneP p a ≤ stepP p a := by
      unfold stepP oneP
      split <;> split <;> omega
    unfold needP
    rw [e]
    have := oneP_01 p a
    split at e1
    · rename_i g
      rw [if_pos g]
      omega
    · rename_i g
      rw [if_neg g]
      omega
/-- an ask of one want, served -/
theorem plain_serve {y : List Rm} {s : List Int} {a : Ask} (ho : OpenY y) (hf : Fine y s) (hp : Plain a) (ha : AskOk y.length a) :
    ((serveM y s a).1.isSome = true ↔ ∀ p, p < y.length → oneP p a ≤ s.getD p 0) ∧ ((serveM y s a).1.isSome = true → ∀ p, p < y.length → (serveM y s a).2.getD p 0 = s.getD p 0 + stepP p a) := by
  obtain ⟨⟨w, hw⟩, hl⟩ := hp
  have hwy : w < y.length := ha.1.2 w (by rw [hw]; exact List.mem_cons_self)
  have hws : w < s.length := by rw [hf.1]; exact hwy
  have e1 : firstT s a.1 = if 0 < s.getD w 0 then some w else none := by
    rw [hw]
    unfold firstT
    rw [List.find?_cons]
    by_cases g : 0 < s.getD w 0
    · rw [if_pos g]; simp only [g, decide_true]
    · rw [if_neg g]; simp only [g, decide_false]; rfl
  have one : ∀ p, oneP p a = if w = p then 1 else 0 := fun p => by
    unfold oneP
    rw [hw]
    by_cases g : w = p
    · subst g; simp
    · simp [g]
  refine ⟨?_, fun hs p hpy => ?_⟩
  · rw [(serveM_eq y s a).2, e1]
    refine ⟨fun h p hpy => ?_, fun h => ?_⟩
    · have hs0 := (hf.2 p hpy).1
      rw [one]
      by_cases g : w = p
      · subst g
        rw [if_pos rfl]
        by_cases z : 0 < s.getD w 0
        · omega
        · rw [if_neg z] at h; cases h
      · rw [if_neg g]; exact hs0
    · have := h w hwy
      rw [one, if_pos rfl] at this
      rw [if_pos (by omega)]
      rfl
  · rw [(serveM_eq y s a).2, e1] at hs
    have g : 0 < s.getD w 0 := by
      by_cases z : 0 < s.getD w 0
      · exact z
      · rw [if_neg z] at hs; cases hs
    rw [(serveM_eq y s a).1, e1, if_pos g]
    show (leaveM y (add s w (-1)) a.2).getD p 0 = _
    rw [leaveM_plus, endless_leave (fun q hq => ho q hq) _ fun q hq => ha.2.2 q hq]
    have hsl : (add s w (-1)).length = s.length := add_len _ _ _
    have st : stepP p a = (if a.2 = [p] then 1 else 0) - (if w = p then 1 else 0) := by
      unfold stepP
      have := one p
      unfold oneP at this
      rw [this]
    rw [st]
    rcases hl with hl | ⟨l, hl⟩
    · rw [hl]
      show (add s w (-1)).getD p 0 = _
      rw [getD_add hws]
      by_cases z : w = p
      · subst z; rw [if_pos rfl, if_pos rfl]; simp; try omega
      · rw [if_neg z, if_neg z]; simp
    · have hly : l < y.length := ha.2.2 l (by rw [hl]; exact List.mem_cons_self)
      rw [hl]
      show (add (add s w (-1)) l 1).getD p 0 = _
      rw [getD_add (by rw [hsl, hf.1]; exact hly), getD_add hws, getD_add hws]
      have e3 : ([l] = [p]) ↔ l = p := by simp
      by_cases z : w = p
      · subst z
        by_cases zz : l = w
        · subst zz; simp; try omega
        · simp [zz]; try omega
      · by_cases zz : l = p
        · subst zz; simp [z]
        · simp [zz, z]
theorem gets_cons0 (y : List Rm) (s : List Int) (a : Ask) (d : List Ask) : getsB y s (a :: d) 0 = (serveM y s a).1.isSome := rfl
theorem gets_cons (y : List Rm) (s : List Int) (a : Ask) (d : List Ask) (k : Nat) : getsB y s (a :: d) (k + 1) = getsB y (serveM y s a).2 d k := rfl
theorem plain_all {y : List Rm} (ho : OpenY y) : ∀ {d : List Ask} {s : List Int}, Fine y s → (∀ a ∈ d, Plain a ∧ AskOk y.length a) → ((∀ k, k < d.length → getsB y s d k = true) ↔ ∀ p, p < y.length → needP p d ≤ s.getD p 0)
  | [], s, hf, _ => ⟨fun _ p hp => (hf.2 p hp).1, fun _ k hk => by simp at hk⟩
  | a :: d, s, hf, h => by
    obtain ⟨hp, ha⟩ := h a List.mem_cons_self
    obtain ⟨h1, h2⟩ := plain_serve ho hf hp ha
    have ih := plain_all ho (d := d) (fine_serve hf ha) fun b hb => h b (List.mem_cons_of_mem _ hb)
    refine ⟨fun g p hpy => ?_, fun g => ?_⟩
    · have g0 : (serveM y s a).1.isSome = true := by rw [← gets_cons0 y s a d]; exact g 0 (by simp)
      have g1 := ih.1 (fun k hk => by rw [← gets_cons]; exact g (k + 1) (by simpa using hk)) p hpy
      rw [h2 g0 p hpy] at g1
      have := h1.1 g0 p hpy
      unfold needP
      omega
    · have g0 : (serveM y s a).1.isSome = true := h1.2 fun p hpy => by
        have := g p hpy
        unfold needP at this
        omega
      have g1 := ih.2 fun p hpy => by
        rw [h2 g0 p hpy]
        have := g p hpy
        unfold needP at this
        omega
      intro k hk
      cases k with
      | zero => exact g0
      | succ k => rw [gets_cons]; exact g1 k (by simpa using hk)
/-- which ask lacks first where one thing fewer lies than needed -/
def firstN (p : Nat) : List Ask → Nat
  | [] => 0
  | a :: d => if oneP p a = 1 ∧ needP p d - stepP p a ≤ 1 then 0 else firstN p d + 1
theorem first_less {y : List Rm} (ho : OpenY y) {p : Nat} (hpy : p < y.length) : ∀ {d : List Ask} {s : List Int}, Fine y s → (∀ a ∈ d, Plain a ∧ AskOk y.length a) → 0 < needP p d → s.getD p 0 = needP p d - 1 → (∀ q, q < y.length → q ≠ p → needP q d ≤ s.getD q 0) →
    firstN p d < d.length ∧ (∀ k, k < firstN p d → getsB y s d k = true) ∧ getsB y s d (firstN p d) = false
  | [], s, _, _, h, _, _ => by simp [needP] at h
  | a :: d, s, hf, h, h0, hs, hq => by
    obtain ⟨hp, ha⟩ := h a List.mem_cons_self
    obtain ⟨h1, h2⟩ := plain_serve ho hf hp ha
    have h01 := oneP_01 p a
    unfold firstN
    by_cases g : oneP p a = 1 ∧ needP p d - stepP p a ≤ 1
    · rw [if_pos g]
      have e1 : needP p (a :: d) = 1 := by unfold needP; omega
      refine ⟨by simp, fun k hk => by omega, ?_⟩
      rw [gets_cons0]
      cases e : (serveM y s a).1.isSome with
      | false => rfl
      | true =>
        have := h1.1 e p hpy
        omega
    · rw [if_neg g]
      have e1 : needP p (a :: d) = needP p d - stepP p a ∧ oneP p a ≤ needP p (a :: d) - 1 := by
        have : needP p (a :: d) = max (oneP p a) (needP p d - stepP p a) := rfl
        omega
      have g0 : (serveM y s a).1.isSome = true := h1.2 fun q hqy => by
        by_cases z : q = p
        · subst z; omega
        · have := hq q hqy z
          have e : needP q (a :: d) = max (oneP q a) (needP q d - stepP q a) := rfl
          omega
      have ih := first_less ho hpy (d := d) (s := (serveM y s a).2) (fine_serve hf ha) (fun b hb => h b (List.mem_cons_of_mem _ hb)) (by
          have e2 : - oneP p a ≤ stepP p a := by unfold stepP oneP; split <;> split <;> omega
          rw [e1.1] at h0 hs
          have := needP_nonneg p d
          have hsn := (hf.2 p hpy).1
          have e3 : stepP p a ≤ 1 - oneP p a := by unfold stepP oneP; split <;> split <;> omega
          by_cases z : needP p d = 0
          · rw [z] at h0 hs g e1
            omega
          · omega) (by rw [h2 g0 p hpy, hs, e1.1]; omega) (fun q hqy z => by
          rw [h2 g0 q hqy]
          have := hq q hqy z
          have e : needP q (a :: d) = max (oneP q a) (needP q d - stepP q a) := rfl
          omega)
      refine ⟨by rw [List.length_cons]; omega, fun k hk => ?_, ?_⟩
      · cases k with
        | zero => exact g0
        | succ k => rw [gets_cons]; exact ih.2.1 k (by omega)
      · rw [gets_cons]; exact ih.2.2
/-- as the law goes through the asks -/
def mostGo (p : Nat) : List Ask → Nat → Int → Int → Option Nat → Int × Option Nat
  | [], _, _, high, first => (high, first)
  | a :: d, k, lie, high, first =>
    mostGo p d (k + 1) (lie + stepP p a) (if a.1 = [p] ∧ high < 1 - lie then 1 - lie else high) (if a.1 = [p] ∧ high < 1 - lie then some k else first)
theorem most_eq (p : Nat) : ∀ (d : List Ask) (k : Nat) (lie high : Int) (first : Option Nat), - lie ≤ high → mostGo p d k lie high first = (max high (needP p d - lie), if high < needP p d - lie then some (k + firstN p d) else first)
  | [], k, lie, high, first, h => by
    unfold mostGo needP
    rw [if_neg (by omega), show max high (0 - lie) = high by omega]
  | a :: d, k, lie, high, first, h => by
    have eF : firstN p (a :: d) = if oneP p a = 1 ∧ needP p d - stepP p a ≤ 1 then 0 else firstN p d + 1 := rfl
    have e0 : needP p (a :: d) = max (oneP p a) (needP p d - stepP p a) := rfl
    have e2 : stepP p a ≤ 1 := by unfold stepP; split <;> split <;> omega
    have e3 : oneP p a = if a.1 = [p] then 1 else 0 := rfl
    have e4 : 0 ≤ stepP p a + oneP p a := by unfold stepP oneP; split <;> split <;> omega
    unfold mostGo
    by_cases g : a.1 = [p] ∧ high < 1 - lie
    · rw [if_pos g, if_pos g, most_eq p d _ _ _ _ (by rw [if_pos g.1] at e3; omega)]
      rw [if_pos g.1] at e3
      rw [show max (1 - lie) (needP p d - (lie + stepP p a)) = max high (needP p (a :: d) - lie) by omega, if_pos (show high < needP p (a :: d) - lie by omega)]
      congr 1
      rw [eF]
      by_cases z : needP p d - stepP p a ≤ 1
      · rw [if_neg (by omega), if_pos ⟨e3, z⟩]; rfl
      · rw [if_pos (by omega), if_neg (fun w => z w.2)]
        congr 1
        omega
    · rw [if_neg g, if_neg g]
      have hh : oneP p a - lie ≤ high := by
        by_cases z : a.1 = [p]
        · rw [if_pos z] at e3
          have : ¬ high < 1 - lie := fun w => g ⟨z, w⟩
          omega
        · rw [if_neg z] at e3; omega
      rw [most_eq p d _ _ _ _ (by omega)]
      rw [show max high (needP p d - (lie + stepP p a)) = max high (needP p (a :: d) - lie) by omega]
      congr 1
      by_cases z : high < needP p d - (lie + stepP p a)
      · rw [if_pos z, if_pos (by omega)]
        rw [eF]
        rw [if_neg (fun w => by omega)]
        congr 1
        omega
      · rw [if_neg z, if_neg (by omega)]
theorem most_top (p : Nat) (d : List Ask) : mostGo p d 0 0 0 none = (needP p d, if 0 < needP p d then some (firstN p d) else none) := by
  rw [most_eq p d 0 0 0 none (by omega)]
  have := needP_nonneg p d
  rw [Int.sub_zero, show max 0 (needP p d) = needP p d by omega, Nat.zero_add]
def dueL (n : Nat) (d : List Ask) : List Int := (List.range n).map fun p => needP p d
theorem due_len (n : Nat) (d : List Ask) : (dueL n d).length = n := by unfold dueL; rw [List.length_map, List.length_range]
theorem due_get {n p : Nat} {d : List Ask} (h : p < n) : (dueL n d).getD p 0 = needP p d := by
  unfold dueL
  rw [List.getD_eq_getElem?_getD, List.getElem?_map, List.getElem?_range h]
  rfl
theorem due_fine {y : List Rm} {d : List Ask} (ho : OpenY y) : Fine y (dueL y.length d) := fine_open ho (due_len _ _) fun p hp => by
  rw [due_len] at hp
  rw [due_get hp]
  exact needP_nonneg p d
def allAsks (d : List Ask) : List Nat := List.range d.length
theorem all_sv {y : List Rm} {d : List Ask} {s : List Int} (ho : OpenY y) (hf : Fine y s) (h : ∀ a ∈ d, Plain a ∧ AskOk y.length a) : svB y d (allAsks d) s = true ↔ ∀ p, p < y.length → needP p d ≤ s.getD p 0 := by
  rw [sv_iff, ← plain_all ho hf h]
  unfold allAsks
  exact ⟨fun g k hk => g k (List.mem_range.2 hk), fun g k hk => g k (List.mem_range.1 hk)⟩
theorem due_sv {y : List Rm} {d : List Ask} (ho : OpenY y) (h : ∀ a ∈ d, Plain a ∧ AskOk y.length a) : svB y d (allAsks d) (dueL y.length d) = true :=
  (all_sv ho (due_fine ho) h).2 fun p hp => by rw [due_get hp]; exact Int.le_refl _
theorem due_first {y : List Rm} {d : List Ask} {p : Nat} (ho : OpenY y) (h : ∀ a ∈ d, Plain a ∧ AskOk y.length a) (hp : p < y.length) (h0 : 0 < needP p d) : firstW y (add (dueL y.length d) p (-1)) d (allAsks d) = some (firstN p d) := by
  have hpl : p < (dueL y.length d).length := by rw [due_len]; exact hp
  have ff := (fewer_fine (due_fine (d := d) ho) hp (by rw [due_get hp]; exact h0)).1
  obtain ⟨h1, h2, h3⟩ := first_less ho hp ff h h0 (by rw [getD_add hpl, if_pos rfl, due_get hp]; omega) (fun q hq z => by rw [getD_add hpl, if_neg fun e => z e.symm, due_get hq]; exact Int.le_refl _)
  unfold firstW allAsks
  rw [List.find?_range_eq_some]
  exact ⟨by rw [h3]; rfl, List.mem_range.2 h1, fun j hj => by rw [h2 j hj]; rfl⟩
theorem one_only {l : List (List Int)} {a : List Int} (hs : l.Pairwise ltx) (hm : a ∈ l) (h : ∀ x ∈ l, x = a) : l = [a] := by
  cases l with
  | nil => cases hm
  | cons x r =>
    have := h x List.mem_cons_self
    subst this
    cases r with
    | nil => rfl
    | cons z r =>
      have hz := h z (by simp)
      subst hz
      exact (ltx_irrefl _ ((List.pairwise_cons.1 hs).1 z List.mem_cons_self)).elim
theorem sum_le : ∀ {a b : List Int}, a.length = b.length → (∀ p, p < a.length → a.getD p 0 ≤ b.getD p 0) → a.sum ≤ b.sum
  | [], [], _, _ => Int.le_refl _
  | [], _ :: _, h, _ => by simp at h
  | _ :: _, [], h, _ => by simp at h
  | x :: a, z :: b, h, g => by
    have g0 := g 0 (by simp)
    have := sum_le (a := a) (b := b) (by simpa using h) fun p hp => by simpa using g (p + 1) (by simpa using hp)
    simp only [List.sum_cons]
    simp at g0
    omega
theorem least_due {y : List Rm} {d : List Ask} (ho : OpenY y) (h : ∀ a ∈ d, Plain a ∧ AskOk y.length a) (h200 : d.length ≤ 200) : leastM y d (allAsks d) = [dueL y.length d] := by
  have hbox : (boxL (wantM y.length d).sum (wantM y.length d)).Pairwise ltx := (box_sorted _ _).1
  have wg : ∀ p, p < y.length → (wantM y.length d).getD p 0 = (wishM d p : Nat) := fun p hp => by
    unfold wantM
    rw [List.getD_eq_getElem?_getD, List.getElem?_map, List.getElem?_range hp]
    rfl
  have wl : (wantM y.length d).length = y.length := by unfold wantM; rw [List.length_map, List.length_range]
  have w0 : 0 ≤ (wantM y.length d).sum := by
    have := sum_nonneg (a := wantM y.length d) fun p hp => by rw [wl] at hp; rw [wg p hp]; omega
    exact this
  have hdue := due_fine (d := d) ho
  have below : ∀ p, p < y.length → needP p d ≤ (wishM d p : Nat) := fun p _ => needP_wish p d fun a ha => (h a ha).1
  refine one_only (hbox.filter _) (List.mem_filter.2 ⟨(box_mem w0 _ _).2 ⟨by rw [due_len, wl], fun p hp => ?_, ?_⟩, ?_⟩) fun s hs => ?_
  · rw [wl] at hp
    rw [due_get hp, wg p hp]
    exact ⟨needP_nonneg p d, below p hp⟩
  · refine sum_le (by rw [due_len, wl]) fun p hp => ?_
    rw [due_len] at hp
    rw [due_get hp, wg p hp]
    exact below p hp
  · unfold leastB
    rw [due_sv ho h, Bool.true_and, Bool.not_eq_true', List.any_eq_false]
    intro t ht
    obtain ⟨p, hp, rfl⟩ := List.mem_map.1 ht
    obtain ⟨hpl, h0⟩ := places_mem hp
    rw [due_len] at hpl
    rw [due_get hpl] at h0
    unfold svB
    rw [due_first ho h hpl h0]
    simp
  · obtain ⟨hb, hl⟩ := List.mem_filter.1 hs
    have ib := (box_mem w0 _ s).1 hb
    have hsl : s.length = y.length := by rw [ib.1, wl]
    have hf : Fine y s := fine_open ho hsl fun p hp => (ib.2.1 p (by rw [wl, ← hsl]; exact hp)).1
    unfold leastB at hl
    rw [Bool.and_eq_true, Bool.not_eq_true', List.any_eq_false] at hl
    have hsv := (all_sv ho hf h).1 hl.1
    apply List.ext_getElem?
    intro p
    by_cases hp : p < y.length
    · have e : s.getD p 0 = needP p d := by
        have h1 := hsv p hp
        by_cases z : s.getD p 0 = needP p d
        · exact z
        · exfalso
          have hn := needP_nonneg p d
          have hps : p < s.length := by omega
          have hpp : p ∈ placesT s := by
            unfold placesT
            rw [List.mem_filter, List.mem_range]
            exact ⟨hps, decide_eq_true (by omega)⟩
          have ff := (fewer_fine hf hp (by omega)).1
          refine hl.2 _ (List.mem_map.2 ⟨p, hpp, rfl⟩) ((all_sv ho ff h).2 fun q hq => ?_)
          rw [getD_add hps]
          by_cases e : p = q
          · subst e; rw [if_pos rfl]; omega
          · rw [if_neg e]; exact hsv q hq
      have e2 := due_get (d := d) hp
      rw [List.getD_eq_getElem?_getD] at e e2
      rw [List.getElem?_eq_getElem (by omega)] at e ⊢
      rw [List.getElem?_eq_getElem (by rw [due_len]; exact hp)] at e2 ⊢
      rw [Option.getD_some] at e e2
      rw [e, e2]
    · rw [List.getElem?_eq_none (by omega), List.getElem?_eq_none (by rw [due_len]; omega)]
/-- how many things the day carries off -/
theorem go_off (y : List Rm) : ∀ {d : List Ask} {s : List Int}, Fine y s → (∀ a ∈ d, AskOk y.length a) → (goM y s d).2.sum = s.sum - ((goM y s d).1.map offR).sum
  | [], s, _, _ => by simp [goM]
  | a :: d, s, hf, h => by
    have ha := h a List.mem_cons_self
    have ih := go_off y (d := d) (fine_serve hf ha) fun b hb => h b (List.mem_cons_of_mem _ hb)
    have h1 := (serve_moves hf ha).2
    show (goM y (serveM y s a).2 d).2.sum = s.sum - (((serveM y s a).1 :: (goM y (serveM y s a).2 d).1).map offR).sum
    rw [ih, h1, List.map_cons, List.sum_cons]
    omega
end Kb
namespace Kb
open PySem PySem.Spec PyProof.Rows L2
/-! ### sights -/
def encMk : Option Bool → PyData
  | none => .none
  | some b => .bool b
def markB : Option Bool → Kb.Row → Bool
  | none, _ => true
  | some b, r => b == r.isSome
def soB (y : List Rm) : List Int → List Ask → List (Option Bool) → Bool
  | s, a :: d, m :: v => markB m (serveM y s a).1 && soB y (serveM y s a).2 d v
  | _, _, _ => true
def topsM (y : List Rm) (n : Int) : List Int := y.map fun r => match r with
  | none => n
  | some i => min i n
def foundM (y : List Rm) (d : List Ask) (v : List (Option Bool)) (n : Int) : List (List Int) := (boxL n (topsM y n)).filter fun s => soB y s d v
def moreL (s : List Int) : List (List Int) := (List.range s.length).map fun p => add s p 1
def leastS (y : List Rm) (d : List Ask) (v : List (Option Bool)) (n : Int) : List (List Int) := (foundM y d v n).filter fun s => !(fewerL s).any fun t => decide (t ∈ foundM y d v n)
def greatS (y : List Rm) (d : List Ask) (v : List (Option Bool)) (n : Int) : List (List Int) := (foundM y d v n).filter fun s => !(moreL s).any fun t => decide (t ∈ foundM y d v n)
theorem tops_len (y : List Rm) (n : Int) : (topsM y n).length = y.length := List.length_map _
theorem box_nodup (n : Int) (tops : List Int) : (boxL n tops).Nodup := by
  refine List.Pairwise.imp ?_ (box_sorted n tops).1
  intro a b h e
  rw [← e] at h
  exact ltx_irrefl a h
end Kb
namespace Kb
open PySem PySem.Spec PyProof.Rows L2
/-! ### the least ones, once more -/
theorem ltx_asym {a b : List Int} (h : ltx a b) (g : ltx b a) : False := ltx_irrefl a (ltx_trans h g)
/-- two lists in the order with the same members are one -/
theorem ltx_eq : ∀ {a b : List (List Int)}, a.Pairwise ltx → b.Pairwise ltx → (∀ x, x ∈ a ↔ x ∈ b) → a = b
  | [], [], _, _, _ => rfl
  | [], x :: b, _, _, h => by have := (h x).2 List.mem_cons_self; cases this
  | x :: a, [], _, _, h => by have := (h x).1 List.mem_cons_self; cases this
  | x :: a, z :: b, ha, hb, h => by
    rw [List.pairwise_cons] at ha hb
    have e : x = z := by
      have h1 := (h x).1 List.mem_cons_self
      have h2 := (h z).2 List.mem_cons_self
      rcases List.mem_cons.1 h1 with h1 | h1
      · exact h1
      · rcases List.mem_cons.1 h2 with h2 | h2
        · exact h2.symm
        · exact (ltx_asym (hb.1 x h1) (ha.1 z h2)).elim
    subst e
    congr 1
    refine ltx_eq ha.2 hb.2 fun u => ⟨fun hu => ?_, fun hu => ?_⟩
    · rcases List.mem_cons.1 ((h u).1 (List.mem_cons_of_mem _ hu)) with e | e
      · subst e; exact (ltx_irrefl _ (ha.1 _ hu)).elim
      · exact e
    · rcases List.mem_cons.1 ((h u).2 (List.mem_cons_of_mem _ hu)) with e | e
      · subst e; exact (ltx_irrefl _ (hb.1 _ hu)).elim
      · exact e
/-- below every standing that serves lies a least one -/
theorem least_below {y : List Rm} {d : List Ask} {few : List Nat} (hd : ∀ k ∈ d, AskOk y.length k) : ∀ (n : Nat) {s : List Int}, Fine y s → s.sum.toNat ≤ n → svB y d few s = true → ∃ t, Below t s ∧ Fine y t ∧ leastB y d few t = true
  | n, s, hf, hn, hs => by
    cases hl : leastB y d few s with
    | true => exact ⟨s, Below.refl s, hf, hl⟩
    | false =>
      unfold leastB at hl
      rw [hs, Bool.true_and, Bool.not_eq_false'] at hl
      obtain ⟨t, ht, hts⟩ := List.any_eq_true.1 hl
      obtain ⟨p, hp, rfl⟩ := List.mem_map.1 ht
      obtain ⟨hps, h0⟩ := places_mem hp
      have ff := (fewer_fine hf (by rw [← hf.1]; exact hps) h0).1
      have hsum := sum_add (k := -1) hps
      have hpos : 0 ≤ (add s p (-1)).sum := sum_nonneg fun q hq => (ff.2 q (by rw [← ff.1]; exact hq)).1
      cases n with
      | zero => omega
      | succ n =>
        obtain ⟨t, h1, h2, h3⟩ := least_below hd n ff (by omega) hts
        exact ⟨t, h1.trans (less_below hp), h2, h3⟩
/-- a least standing has nowhere more than is wished -/
theorem least_cap {y : List Rm} {d : List Ask} {few : List Nat} {s : List Int} (ho : OpenY y) (hf : Fine y s) (hd : ∀ k ∈ d, AskOk y.length k) (hl : leastB y d few s = true) {p : Nat} (hp : p < y.length) : s.getD p 0 ≤ (wishM d p : Nat) := by
  by_cases h : s.getD p 0 ≤ (wishM d p : Nat)
  · exact h
  · exfalso
    have h0 : 0 < s.getD p 0 := by omega
    have hps : p < s.length := by rw [hf.1]; exact hp
    have hpp : p ∈ placesT s := by
      unfold placesT
      rw [List.mem_filter, List.mem_range]
      exact ⟨hps, decide_eq_true h0⟩
    obtain ⟨f1, f2, f3⟩ := fewer_fine hf hp h0
    unfold leastB at hl
    rw [Bool.and_eq_true, Bool.not_eq_true', List.any_eq_false] at hl
    refine hl.2 _ (List.mem_map.2 ⟨p, hpp, rfl⟩) (sv_iff.2 fun k hk => ?_)
    have hg := sv_iff.1 hl.1 k hk
    have e := spare_many ho hp f1 hd (by rw [getD_add hps, if_pos rfl]; omega)
    rw [show add (add s p (-1)) p 1 = s from f3] at e
    unfold getsB at hg ⊢
    rw [← e]
    exact hg
/-- who is among the least ones -/
theorem least_mem {y : List Rm} {d : List Ask} {few : List Nat} (ho : OpenY y) (hd : ∀ k ∈ d, AskOk y.length k) (h200 : d.length ≤ 200) {s : List Int} : s ∈ leastM y d few ↔ Fine y s ∧ leastB y d few s = true := by
  have wl : (wantM y.length d).length = y.length := by unfold wantM; rw [List.length_map, List.length_range]
  have wg : ∀ p, p < y.length → (wantM y.length d).getD p 0 = (wishM d p : Nat) := fun p hp => by
    unfold wantM
    rw [List.getD_eq_getElem?_getD, List.getElem?_map, List.getElem?_range hp]
    rfl
  have w0 : 0 ≤ (wantM y.length d).sum := sum_nonneg (a := wantM y.length d) fun p hp => by rw [wl] at hp; rw [wg p hp]; omega
  unfold leastM
  rw [List.mem_filter, box_mem w0]
  refine ⟨fun ⟨h1, h2⟩ => ⟨fine_open ho (by rw [h1.1, wl]) fun p hp => (h1.2.1 p (by rw [← h1.1]; exact hp)).1, h2⟩, fun ⟨hf, h2⟩ => ⟨⟨by rw [hf.1, wl], fun p hp => ?_, ?_⟩, h2⟩⟩
  · rw [wl] at hp
    rw [wg p hp]
    exact ⟨(hf.2 p hp).1, least_cap ho hf hd h2 hp⟩
  · refine sum_le (by rw [hf.1, wl]) fun p hp => ?_
    rw [hf.1] at hp
    rw [wg p hp]
    exact least_cap ho hf hd h2 hp
/-! ### what is seen where some asks are served for sure -/
def sureM (d : List Ask) (few : List Nat) (b : Bool) : List (Option Bool) := (List.range d.length).map fun k => if k ∈ few then some b else none
theorem so_at {y : List Rm} : ∀ {d : List Ask} {v : List (Option Bool)} {s : List Int}, v.length = d.length → (soB y s d v = true ↔ ∀ k, k < d.length → ∀ b, v.getD k none = some b → getsB y s d k = b)
  | [], [], s, _ => ⟨fun _ k hk => by simp at hk, fun _ => rfl⟩
  | [], _ :: _, _, h => by simp at h
  | _ :: _, [], _, h => by simp at h
  | a :: d, m :: v, s, h => by
    have ih := so_at (y := y) (d := d) (v := v) (s := (serveM y s a).2) (by simpa using h)
    show (markB m (serveM y s a).1 && soB y (serveM y s a).2 d v) = true ↔ _
    rw [Bool.and_eq_true, ih]
    refine ⟨fun ⟨h1, h2⟩ k hk b hb => ?_, fun g => ⟨?_, fun k hk b hb => ?_⟩⟩
    · cases k with
      | zero =>
        have hm : m = some b := hb
        subst hm
        rw [gets_cons0]
        exact (beq_iff_eq.1 h1).symm
      | succ k => rw [gets_cons]; exact h2 k (by simpa using hk) b hb
    · cases m with
      | none => rfl
      | some b =>
        have := g 0 (by simp) b rfl
        rw [gets_cons0] at this
        exact beq_iff_eq.2 this.symm
    · have := g (k + 1) (by simpa using hk) b hb
      rw [gets_cons] at this
      exact this
theorem sure_get {d : List Ask} {few : List Nat} {b : Bool} {k : Nat} (hk : k < d.length) : (sureM d few b).getD k none = if k ∈ few then some b else none := by
  unfold sureM
  rw [List.getD_eq_getElem?_getD, List.getElem?_map, List.getElem?_range hk]
  rfl
theorem sure_len (d : List Ask) (few : List Nat) (b : Bool) : (sureM d few b).length = d.length := by unfold sureM; rw [List.length_map, List.length_range]
theorem so_served {y : List Rm} {d : List Ask} {few : List Nat} {s : List Int} (hr : RiseOk d.length few) : soB y s d (sureM d few true) = svB y d few s := by
  rw [Bool.eq_iff_iff, so_at (sure_len d few true), sv_iff]
  refine ⟨fun h k hk => h k (hr.2 k hk) true (by rw [sure_get (hr.2 k hk), if_pos hk]), fun h k hk b hb => ?_⟩
  rw [sure_get hk] at hb
  split at hb
  · cases hb
    exact h k ‹_›
  · cases hb
theorem so_without {y : List Rm} {d : List Ask} {few : List Nat} {s : List Int} (hr : RiseOk d.length few) : soB y s d (sureM d few false) = true ↔ ∀ k ∈ few, getsB y s d k = false := by
  rw [so_at (sure_len d few false)]
  refine ⟨fun h k hk => h k (hr.2 k hk) false (by rw [sure_get (hr.2 k hk), if_pos hk]), fun h k hk b hb => ?_⟩
  rw [sure_get hk] at hb
  split at hb
  · cases hb
    exact h k ‹_›
  · cases hb
end Kb
namespace Kb
open PySem PySem.Spec PyProof.Rows L2
theorem getD_le_sum : ∀ {a : List Int} {p : Nat}, (∀ q, q < a.length → 0 ≤ a.getD q 0) → a.getD p 0 ≤ a.sum
  | [], p, _ => by simp
  | x :: l, p, h => by
    have h0 := h 0 (by simp)
    have hl : ∀ q, q < l.length → 0 ≤ l.getD q 0 := fun q hq => by simpa using h (q + 1) (by simpa using hq)
    have hs := sum_nonneg hl
    simp only [List.sum_cons]
    cases p with
    | zero => simp at h0 ⊢; omega
    | succ p =>
      have := getD_le_sum (p := p) hl
      simp at h0 this ⊢
      omega
theorem fine_sum {y : List Rm} {s : List Int} (hf : Fine y s) : 0 ≤ s.sum := sum_nonneg fun q hq => (hf.2 q (by rw [← hf.1]; exact hq)).1
theorem found_mem {y : List Rm} {d : List Ask} {v : List (Option Bool)} {n : Int} (ho : OpenY y) (h0 : 0 ≤ n) {s : List Int} : s ∈ foundM y d v n ↔ Fine y s ∧ s.sum ≤ n ∧ soB y s d v = true := by
  have tl : (topsM y n).length = y.length := tops_len y n
  have tg : ∀ p, p < y.length → (topsM y n).getD p 0 = n := fun p hp => by
    have := ho p hp
    rw [List.getD_eq_getElem?_getD, List.getElem?_eq_getElem hp] at this
    unfold topsM
    rw [List.getD_eq_getElem?_getD, List.getElem?_map, List.getElem?_eq_getElem hp]
    have e : y[p] = none := this
    rw [e]
    rfl
  unfold foundM
  rw [List.mem_filter, box_mem h0]
  refine ⟨fun ⟨h1, h2⟩ => ⟨fine_open ho (by rw [h1.1, tl]) fun p hp => (h1.2.1 p (by rw [← h1.1]; exact hp)).1, h1.2.2, h2⟩, fun ⟨hf, h1, h2⟩ => ⟨⟨by rw [hf.1, tl], fun p hp => ?_, h1⟩, h2⟩⟩
  rw [tl] at hp
  rw [tg p hp]
  have := getD_le_sum (p := p) fun q hq => (hf.2 q (by rw [← hf.1]; exact hq)).1
  exact ⟨(hf.2 p hp).1, by omega⟩
theorem found_sorted (y : List Rm) (d : List Ask) (v : List (Option Bool)) (n : Int) : (foundM y d v n).Pairwise ltx := (box_sorted _ _).1.filter _
/-- the least seen where some are served for sure -/
theorem least_sure {y : List Rm} {d : List Ask} {few : List Nat} {n : Int} (ho : OpenY y) (h0 : 0 ≤ n) (hd : ∀ k ∈ d, AskOk y.length k) (h200 : d.length ≤ 200) (hr : RiseOk d.length few) :
    leastS y d (sureM d few true) n = (leastM y d few).filter fun s => decide (s.sum ≤ n) := by
  have fewer : ∀ s, Fine y s → s.sum ≤ n → ((fewerL s).any (fun t => decide (t ∈ foundM y d (sureM d few true) n)) = (fewerL s).any (svB y d few)) := fun s hf hs => by
    rw [Bool.eq_iff_iff, List.any_eq_true, List.any_eq_true]
    refine ⟨fun ⟨t, ht, h⟩ => ⟨t, ht, ?_⟩, fun ⟨t, ht, h⟩ => ⟨t, ht, decide_eq_true ?_⟩⟩
    · have := ((found_mem ho h0).1 (of_decide_eq_true h)).2.2
      rw [so_served hr] at this
      exact this
    · obtain ⟨p, hp, rfl⟩ := List.mem_map.1 ht
      obtain ⟨hps, hp0⟩ := places_mem hp
      refine (found_mem ho h0).2 ⟨(fewer_fine hf (by rw [← hf.1]; exact hps) hp0).1, ?_, by rw [so_served hr]; exact h⟩
      rw [sum_add hps]; omega
  refine ltx_eq ((found_sorted _ _ _ _).filter _) (((box_sorted _ _).1.filter _).filter _) fun s => ?_
  unfold leastS
  rw [List.mem_filter, found_mem ho h0, List.mem_filter, least_mem ho hd h200, so_served hr]
  refine ⟨fun ⟨⟨h1, h2, h3⟩, h4⟩ => ⟨⟨h1, ?_⟩, decide_eq_true h2⟩, fun ⟨⟨h1, h2⟩, h3⟩ => ?_⟩
  · rw [fewer s h1 h2] at h4
    unfold leastB
    rw [h3, h4]; rfl
  · have h3 := of_decide_eq_true h3
    unfold leastB at h2
    rw [Bool.and_eq_true] at h2
    refine ⟨⟨h1, h3, h2.1⟩, ?_⟩
    rw [fewer s h1 h3]
    exact h2.2
theorem great_in {y : List Rm} {d : List Ask} {v : List (Option Bool)} {n : Int} {s : List Int} (h : s ∈ greatS y d v n) : s ∈ foundM y d v n ∧ ∀ p, p < s.length → add s p 1 ∉ foundM y d v n := by
  unfold greatS at h
  obtain ⟨h1, h2⟩ := List.mem_filter.1 h
  rw [Bool.not_eq_true', List.any_eq_false] at h2
  exact ⟨h1, fun p hp z => h2 _ (List.mem_map.2 ⟨p, List.mem_range.2 hp, rfl⟩) (decide_eq_true z)⟩
theorem more_below' {s : List Int} {p : Nat} {k : Int} (hp : p < s.length) (hk : 0 ≤ k) : Below s (add s p k) := by
  refine ⟨(add_len s p k).symm, fun q hq => ?_⟩
  rw [getD_add hp]
  by_cases e : p = q
  · subst e; rw [if_pos rfl]; omega
  · rw [if_neg e]; exact Int.le_refl _
theorem more_fine' {y : List Rm} {s : List Int} {p : Nat} {k : Int} (ho : OpenY y) (hf : Fine y s) (hp : p < s.length) (hk : 0 ≤ k) : Fine y (add s p k) := by
  refine fine_open ho (by rw [add_len]; exact hf.1) fun q hq => ?_
  rw [add_len] at hq
  have h1 := (hf.2 q (by rw [← hf.1]; exact hq)).1
  have := (more_below' hp hk).2 q hq
  omega
/-- the greatest ones have all things -/
theorem great_sum {y : List Rm} {d : List Ask} {few : List Nat} {n : Int} (hy : 1 ≤ y.length) (ho : OpenY y) (h0 : 0 ≤ n) (hd : ∀ k ∈ d, AskOk y.length k) (hr : RiseOk d.length few) {s : List Int} (h : s ∈ greatS y d (sureM d few true) n) : s.sum = n := by
  obtain ⟨h1, h2⟩ := great_in h
  obtain ⟨hf, hs, hv⟩ := (found_mem ho h0).1 h1
  have hps : 0 < s.length := by rw [hf.1]; exact hy
  by_cases e : s.sum = n
  · exact e
  · refine (h2 0 hps ((found_mem ho h0).2 ⟨more_fine' ho hf hps (by decide), by rw [sum_add hps]; omega, ?_⟩)).elim
    rw [so_served hr] at hv ⊢
    exact sv_mono hd (more_below' hps (by decide)) hf (more_fine' ho hf hps (by decide)) hv
theorem great_nil {y : List Rm} {d : List Ask} {few : List Nat} {n : Int} (hy : 1 ≤ y.length) (ho : OpenY y) (h0 : 0 ≤ n) (hd : ∀ k ∈ d, AskOk y.length k) (hr : RiseOk d.length few) : greatS y d (sureM d few true) n = [] ↔ foundM y d (sureM d few true) n = [] := by
  refine ⟨fun h => ?_, fun h => by unfold greatS; rw [h]; rfl⟩
  cases e : foundM y d (sureM d few true) n with
  | nil => rfl
  | cons s l =>
    exfalso
    obtain ⟨hf, hs, hv⟩ := (found_mem ho h0 (s := s)).1 (by rw [e]; exact List.mem_cons_self)
    have hps : 0 < s.length := by rw [hf.1]; exact hy
    have fm := more_fine' (k := n - s.sum) ho hf hps (by omega)
    have hm : add s 0 (n - s.sum) ∈ greatS y d (sureM d few true) n := by
      unfold greatS
      refine List.mem_filter.2 ⟨(found_mem ho h0).2 ⟨fm, by rw [sum_add hps]; omega, ?_⟩, ?_⟩
      · rw [so_served hr] at hv ⊢
        exact sv_mono hd (more_below' hps (by omega)) hf fm hv
      · rw [Bool.not_eq_true', List.any_eq_false]
        intro t ht z
        obtain ⟨p, hp, rfl⟩ := List.mem_map.1 ht
        have hpl := List.mem_range.1 hp
        have := ((found_mem ho h0).1 (of_decide_eq_true z)).2.1
        rw [sum_add hpl, sum_add hps] at this
        omega
    rw [h] at hm
    cases hm
theorem due_nil {y : List Rm} {d : List Ask} {few : List Nat} {n : Int} (ho : OpenY y) (h0 : 0 ≤ n) (hd : ∀ k ∈ d, AskOk y.length k) (h200 : d.length ≤ 200) (hr : RiseOk d.length few) : ((leastM y d few).filter fun s => decide (s.sum ≤ n)) = [] ↔ foundM y d (sureM d few true) n = [] := by
  rw [← least_sure ho h0 hd h200 hr]
  refine ⟨fun h => ?_, fun h => by unfold leastS; rw [h]; rfl⟩
  cases e : foundM y d (sureM d few true) n with
  | nil => rfl
  | cons s l =>
    exfalso
    obtain ⟨hf, hs, hv⟩ := (found_mem ho h0 (s := s)).1 (by rw [e]; exact List.mem_cons_self)
    rw [so_served hr] at hv
    obtain ⟨t, h1, h2, h3⟩ := least_below hd s.sum.toNat hf (Nat.le_refl _) hv
    have hm : t ∈ leastS y d (sureM d few true) n := by
      rw [least_sure ho h0 hd h200 hr]
      exact List.mem_filter.2 ⟨(least_mem ho hd h200).2 ⟨h2, h3⟩, decide_eq_true (by have := sum_le h1.1 h1.2; omega)⟩
    rw [h] at hm
    cases hm
/-! where nobody is served -/
def zeroL (n : Nat) : List Int := List.replicate n 0
theorem zero_serve (y : List Rm) (n : Nat) (a : Ask) : serveM y (zeroL n) a = (none, zeroL n) := by
  have e : firstT (zeroL n) a.1 = none := by
    unfold firstT
    rw [List.find?_eq_none]
    intro p _
    unfold zeroL
    rw [List.getD_eq_getElem?_getD, List.getElem?_replicate]
    split <;> simp
  unfold serveM
  rw [e]
theorem zero_gets (y : List Rm) (n : Nat) : ∀ (d : List Ask) (k : Nat), getsB y (zeroL n) d k = false
  | [], k => rfl
  | a :: d, 0 => by rw [gets_cons0, zero_serve]; rfl
  | a :: d, k + 1 => by rw [gets_cons, zero_serve]; exact zero_gets y n d k
theorem zero_get (n p : Nat) : (zeroL n).getD p 0 = 0 := by
  unfold zeroL
  rw [List.getD_eq_getElem?_getD, List.getElem?_replicate]
  split <;> rfl
theorem zero_sum (n : Nat) : (zeroL n).sum = 0 := by
  unfold zeroL
  induction n with
  | zero => rfl
  | succ n ih => rw [List.replicate_succ, List.sum_cons, ih]; rfl
theorem least_zero {y : List Rm} {d : List Ask} {few : List Nat} {n : Int} (ho : OpenY y) (h0 : 0 ≤ n) (hd : ∀ k ∈ d, AskOk y.length k) (hr : RiseOk d.length few) : leastS y d (sureM d few false) n = [zeroL y.length] := by
  have zl : (zeroL y.length).length = y.length := List.length_replicate
  have fz : Fine y (zeroL y.length) := fine_open ho zl fun p _ => by rw [zero_get]; exact Int.le_refl 0
  refine one_only ((found_sorted _ _ _ _).filter _) ?_ fun s hs => ?_
  · unfold leastS
    refine List.mem_filter.2 ⟨(found_mem ho h0).2 ⟨fz, by rw [zero_sum]; exact h0, (so_without hr).2 fun k _ => zero_gets _ _ _ _⟩, ?_⟩
    rw [Bool.not_eq_true', List.any_eq_false]
    intro t ht
    obtain ⟨p, hp, rfl⟩ := List.mem_map.1 ht
    have := (places_mem hp).2
    rw [zero_get] at this
    omega
  · unfold leastS at hs
    obtain ⟨h1, h2⟩ := List.mem_filter.1 hs
    obtain ⟨hf, hsum, hv⟩ := (found_mem ho h0).1 h1
    rw [Bool.not_eq_true', List.any_eq_false] at h2
    apply List.ext_getElem?
    intro p
    by_cases hp : p < s.length
    · have hp0 := (hf.2 p (by rw [← hf.1]; exact hp)).1
      have e : s.getD p 0 = 0 := by
        by_cases z : s.getD p 0 = 0
        · exact z
        · exfalso
          have hpp : p ∈ placesT s := by
            unfold placesT
            rw [List.mem_filter, List.mem_range]
            exact ⟨hp, decide_eq_true (by omega)⟩
          have ff := (fewer_fine hf (by rw [← hf.1]; exact hp) (by omega)).1
          refine h2 _ (List.mem_map.2 ⟨p, hpp, rfl⟩) (decide_eq_true ((found_mem ho h0).2 ⟨ff, by rw [sum_add hp]; omega, (so_without hr).2 fun k hk => ?_⟩))
          have hg := (so_without hr).1 hv k hk
          cases g : getsB y (add s p (-1)) d k with
          | false => rfl
          | true =>
            have := gets_mono hd (less_below hpp) ff hf g
            rw [hg] at this; cases this
      rw [List.getD_eq_getElem?_getD, List.getElem?_eq_getElem hp] at e
      have e : s[p] = 0 := e
      unfold zeroL
      rw [List.getElem?_eq_getElem hp, List.getElem?_replicate, if_pos (by rw [← hf.1]; exact hp), e]
    · rw [List.getElem?_eq_none (by omega), List.getElem?_eq_none (by rw [zl, ← hf.1]; omega)]
/-- nowhere fewer -/
def aboveB (a b : List Int) : Bool := ((a.zip b).filter fun p => decide (p.1 < p.2)).isEmpty
theorem above_iff : ∀ {a b : List Int}, a.length = b.length → (aboveB a b = true ↔ Below b a)
  | [], [], _ => ⟨fun _ => Below.refl _, fun _ => rfl⟩
  | [], _ :: _, h => by simp at h
  | _ :: _, [], h => by simp at h
  | x :: a, z :: b, h => by
    have ih := above_iff (a := a) (b := b) (by simpa using h)
    have e : aboveB (x :: a) (z :: b) = true ↔ ¬ x < z ∧ aboveB a b = true := by
      unfold aboveB
      rw [List.zip_cons_cons, List.filter_cons]
      by_cases g : x < z
      · simp [g]
      · simp [g]
    rw [e, ih]
    refine ⟨fun ⟨h1, h2⟩ => ⟨h.symm, fun p hp => ?_⟩, fun h2 => ⟨?_, ⟨by simpa using h.symm, fun p hp => ?_⟩⟩⟩
    · cases p with
      | zero => simp; omega
      | succ p => simpa using h2.2 p (by simpa using hp)
    · have := h2.2 0 (by simp)
      simp at this
      omega
    · have := h2.2 (p + 1) (by simpa using hp)
      simpa using this
end Kb
namespace Kb
open PySem PySem.Spec PyProof.Rows L2
theorem intsOf_int (t : List Int) : intsOf (t.map PyData.int) = some t := intsOf_map t
theorem pow_one : ∀ a : Nat, 1 ≤ (100001 : Int) ^ a
  | 0 => Int.le_refl 1
  | a + 1 => by
    rw [Int.pow_succ]
    have := pow_one a
    omega
theorem pow_up (a : Nat) : ∀ k : Nat, (100001 : Int) ^ a ≤ 100001 ^ (a + k)
  | 0 => Int.le_refl _
  | k + 1 => by
    rw [show a + (k + 1) = (a + k) + 1 by omega, Int.pow_succ]
    have := pow_up a k
    have := pow_one (a + k)
    omega
theorem prodT_up : ∀ {l : List Int}, (∀ t ∈ l, 0 ≤ t ∧ t ≤ 100000) → 0 ≤ prodT l ∧ prodT l ≤ 100001 ^ l.length
  | [], _ => ⟨by decide, Int.le_refl _⟩
  | t :: l, h => by
    obtain ⟨h1, h2⟩ := prodT_up (l := l) fun t ht => h t (List.mem_cons_of_mem _ ht)
    obtain ⟨h3, h4⟩ := h t List.mem_cons_self
    refine ⟨Int.mul_nonneg (by omega) h1, ?_⟩
    have := Int.mul_le_mul (show t + 1 ≤ 100001 by omega) h2 h1 (by omega)
    rw [List.length_cons, Int.pow_succ, Int.mul_comm (100001 ^ l.length)]
    exact this
theorem want_len (n : Nat) (d : List Ask) : (wantM n d).length = n := by unfold wantM; rw [List.length_map, List.length_range]
theorem want_ok {n : Nat} {d : List Ask} (hd : d.length ≤ 200) : ∀ t ∈ wantM n d, 0 ≤ t ∧ t ≤ 100000 := fun t ht => by
  obtain ⟨p, _, rfl⟩ := List.mem_map.1 ht
  have : wishM d p ≤ d.length := List.length_filter_le _ _
  omega
/-! ### sights of any yard: all standings, the least and the greatest of those found -/
theorem topsG {y : List Rm} {n : Int} {p : Nat} (hp : p < y.length) : (topsM y n).getD p 0 = match y.getD p none with
    | none => n
    | some i => min i n := by
  unfold topsM
  rw [List.getD_eq_getElem?_getD, List.getElem?_map, List.getElem?_eq_getElem hp, List.getD_eq_getElem?_getD, List.getElem?_eq_getElem hp]
  rfl
theorem in_fine {y : List Rm} {n : Int} {s : List Int} : InBox n (topsM y n) s ↔ Fine y s ∧ s.sum ≤ n := by
  have tl : (topsM y n).length = y.length := tops_len y n
  constructor
  · rintro ⟨h1, h2, h3⟩
    refine ⟨⟨by rw [h1, tl], fun p hp => ?_⟩, h3⟩
    have := h2 p (by rw [tl]; exact hp)
    rw [topsG hp] at this
    refine ⟨this.1, fun i hi => ?_⟩
    rw [hi] at this
    have := this.2
    simp only at this
    omega
  · rintro ⟨hf, h3⟩
    refine ⟨by rw [hf.1, tl], fun p hp => ?_, h3⟩
    rw [tl] at hp
    have hs := getD_le_sum (p := p) fun q hq => (hf.2 q (by rw [← hf.1]; exact hq)).1
    obtain ⟨f1, f2⟩ := hf.2 p hp
    refine ⟨f1, ?_⟩
    rw [topsG hp]
    cases e : y.getD p none with
    | none => show _ ≤ n; omega
    | some i =>
      have := f2 i e
      show _ ≤ min i n
      omega
theorem found_memG {y : List Rm} {d : List Ask} {v : List (Option Bool)} {n : Int} (h0 : 0 ≤ n) {s : List Int} : s ∈ foundM y d v n ↔ Fine y s ∧ s.sum ≤ n ∧ soB y s d v = true := by
  unfold foundM
  rw [List.mem_filter, box_mem h0, in_fine, and_assoc]
theorem so_between {y : List Rm} {d : List Ask} {v : List (Option Bool)} {a b c : List Int} (hv : v.length = d.length) (hd : ∀ k ∈ d, AskOk y.length k) (h1 : Below a b) (h2 : Below b c) (fa : Fine y a) (fb : Fine y b) (fc : Fine y c)
    (sa : soB y a d v = true) (sc : soB y c d v = true) : soB y b d v = true := by
  refine (so_at hv).2 fun k hk w hw => ?_
  cases w with
  | true => exact gets_mono hd h1 fa fb ((so_at hv).1 sa k hk _ hw)
  | false =>
    have := (so_at hv).1 sc k hk _ hw
    cases e : getsB y b d k with
    | false => rfl
    | true =>
      rw [gets_mono hd h2 fb fc e] at this
      exact this
theorem fine_under {y : List Rm} {b c : List Int} (h : Below b c) (fc : Fine y c) (h0 : ∀ p, p < b.length → 0 ≤ b.getD p 0) : Fine y b := by
  refine ⟨h.1.trans fc.1, fun p hp => ?_⟩
  have hpb : p < b.length := by rw [h.1, fc.1]; exact hp
  refine ⟨h0 p hpb, fun i hi => ?_⟩
  have := (fc.2 p hp).2 i hi
  have := h.2 p hpb
  omega
theorem below_anti {a b : List Int} (h : Below a b) (g : Below b a) : a = b := by
  refine List.ext_getElem h.1 fun i h1 h2 => ?_
  have e1 := h.2 i h1
  have e2 := g.2 i h2
  rw [List.getD_eq_getElem?_getD, List.getD_eq_getElem?_getD, List.getElem?_eq_getElem h1, List.getElem?_eq_getElem h2] at e1 e2
  simp only [Option.getD_some] at e1 e2
  omega
theorem below_lt {a b : List Int} (h : Below a b) (n : a ≠ b) : ∃ p, p < a.length ∧ a.getD p 0 < b.getD p 0 := by
  apply Classical.byContradiction
  intro z
  refine n (below_anti h ⟨h.1.symm, fun p hp => ?_⟩)
  apply Classical.byContradiction
  intro q
  exact z ⟨p, by rw [h.1]; exact hp, by omega⟩
theorem less_above {a b : List Int} {p : Nat} (h : Below a b) (hp : p < a.length) (l : a.getD p 0 < b.getD p 0) : Below a (add b p (-1)) := by
  have hpb : p < b.length := by rw [← h.1]; exact hp
  refine ⟨by rw [add_len]; exact h.1, fun q hq => ?_⟩
  rw [getD_add hpb]
  by_cases e : p = q
  · subst e; rw [if_pos rfl]; omega
  · rw [if_neg e]; exact h.2 q hq
theorem more_under {a b : List Int} {p : Nat} (h : Below a b) (hp : p < a.length) (l : a.getD p 0 < b.getD p 0) : Below (add a p 1) b := by
  refine ⟨by rw [add_len]; exact h.1, fun q hq => ?_⟩
  rw [add_len] at hq
  rw [getD_add hp]
  by_cases e : p = q
  · subst e; rw [if_pos rfl]; omega
  · rw [if_neg e]; exact h.2 q hq
theorem fewer_mem {s t : List Int} : t ∈ fewerL s ↔ ∃ p, p < s.length ∧ 0 < s.getD p 0 ∧ t = add s p (-1) := by
  unfold fewerL placesT
  rw [List.mem_map]
  constructor
  · rintro ⟨p, hp, rfl⟩
    obtain ⟨h1, h2⟩ := List.mem_filter.1 hp
    exact ⟨p, List.mem_range.1 h1, of_decide_eq_true h2, rfl⟩
  · rintro ⟨p, h1, h2, rfl⟩
    exact ⟨p, List.mem_filter.2 ⟨List.mem_range.2 h1, decide_eq_true h2⟩, rfl⟩
theorem more_mem {s t : List Int} : t ∈ moreL s ↔ ∃ p, p < s.length ∧ t = add s p 1 := by
  unfold moreL
  rw [List.mem_map]
  exact ⟨fun ⟨p, hp, e⟩ => ⟨p, List.mem_range.1 hp, e.symm⟩, fun ⟨p, hp, e⟩ => ⟨p, List.mem_range.2 hp, e.symm⟩⟩
/-- of those found, none is below s but s -/
def lowB (F : List (List Int)) (s : List Int) : Bool := (F.filter fun t => decide (t ≠ s) && aboveB s t).isEmpty
def highB (F : List (List Int)) (s : List Int) : Bool := (F.filter fun t => decide (t ≠ s) && aboveB t s).isEmpty
section
variable {y : List Rm} {d : List Ask} {v : List (Option Bool)} {n : Int}
theorem fine_nn {y : List Rm} {s : List Int} (f : Fine y s) : ∀ p, p < s.length → 0 ≤ s.getD p 0 := fun p hp => (f.2 p (by rw [← f.1]; exact hp)).1
theorem leastS_low (h0 : 0 ≤ n) (hv : v.length = d.length) (hd : ∀ k ∈ d, AskOk y.length k) : leastS y d v n = (foundM y d v n).filter (lowB (foundM y d v n)) := by
  unfold leastS
  refine List.filter_congr fun s hs => ?_
  obtain ⟨fs, ss, vs⟩ := (found_memG h0).1 hs
  unfold lowB
  rw [Bool.eq_iff_iff, Bool.not_eq_true', List.any_eq_false, List.isEmpty_iff, List.filter_eq_nil_iff]
  constructor
  · intro h t ht z
    rw [Bool.and_eq_true, decide_eq_true_eq] at z
    obtain ⟨ft, st, vt⟩ := (found_memG h0).1 ht
    have bl := (above_iff (fs.1.trans ft.1.symm)).1 z.2
    obtain ⟨p, hp, l⟩ := below_lt bl z.1
    have hps : p < s.length := by rw [← bl.1]; exact hp
    have h0p := fine_nn ft p hp
    have b1 := less_above bl hp l
    have b2 : Below (add s p (-1)) s := less_below (List.mem_filter.2 ⟨List.mem_range.2 hps, decide_eq_true (by omega)⟩)
    have f1 := fine_take fs (by rw [← fs.1]; exact hps) (show 0 < s.getD p 0 by omega)
    refine h _ (fewer_mem.2 ⟨p, hps, by omega, rfl⟩) (decide_eq_true ((found_memG h0).2 ⟨f1, by rw [sum_add hps]; omega, so_between hv hd b1 b2 ft f1 fs vt vs⟩))
  · intro h t ht z
    obtain ⟨p, hp, h1, rfl⟩ := fewer_mem.1 ht
    have zf := of_decide_eq_true z
    refine h _ zf ?_
    rw [Bool.and_eq_true, decide_eq_true_eq]
    refine ⟨fun e => ?_, (above_iff (by rw [add_len])).2 (less_below (List.mem_filter.2 ⟨List.mem_range.2 hp, decide_eq_true h1⟩))⟩
    have := congrArg List.sum e
    rw [sum_add hp] at this
    omega
theorem greatS_high (h0 : 0 ≤ n) (hv : v.length = d.length) (hd : ∀ k ∈ d, AskOk y.length k) : greatS y d v n = (foundM y d v n).filter (highB (foundM y d v n)) := by
  unfold greatS
  refine List.filter_congr fun s hs => ?_
  obtain ⟨fs, ss, vs⟩ := (found_memG h0).1 hs
  unfold highB
  rw [Bool.eq_iff_iff, Bool.not_eq_true', List.any_eq_false, List.isEmpty_iff, List.filter_eq_nil_iff]
  constructor
  · intro h t ht z
    rw [Bool.and_eq_true, decide_eq_true_eq] at z
    obtain ⟨ft, st, vt⟩ := (found_memG h0).1 ht
    have bl := (above_iff (ft.1.trans fs.1.symm)).1 z.2
    obtain ⟨p, hp, l⟩ := below_lt bl (fun e => z.1 e.symm)
    have b1 := more_under bl hp l
    have b2 := more_below' (k := 1) hp (by decide)
    have f1 : Fine y (add s p 1) := fine_under b1 ft fun q hq => by
      rw [add_len] at hq
      have := fine_nn fs q hq
      have := b2.2 q hq
      omega
    refine h _ (more_mem.2 ⟨p, hp, rfl⟩) (decide_eq_true ((found_memG h0).2 ⟨f1, ?_, so_between hv hd b2 b1 fs f1 ft vs vt⟩))
    have := sum_le b1.1 b1.2
    omega
  · intro h t ht z
    obtain ⟨p, hp, rfl⟩ := more_mem.1 ht
    have zf := of_decide_eq_true z
    refine h _ zf ?_
    rw [Bool.and_eq_true, decide_eq_true_eq]
    refine ⟨fun e => ?_, (above_iff (by rw [add_len])).2 (more_below' hp (by decide))⟩
    have := congrArg List.sum e
    rw [sum_add hp] at this
    omega
theorem some_least (h0 : 0 ≤ n) : ∀ (m : Nat) {s : List Int}, s ∈ foundM y d v n → s.sum.toNat ≤ m → ∃ t ∈ leastS y d v n, Below t s
  | m, s, hs, hm => by
    obtain ⟨fs, ss, vs⟩ := (found_memG h0).1 hs
    have hsum := fine_sum fs
    by_cases h : (fewerL s).any (fun t => decide (t ∈ foundM y d v n)) = true
    · obtain ⟨t, ht, z⟩ := List.any_eq_true.1 h
      have zf := of_decide_eq_true z
      obtain ⟨p, hp, h1, rfl⟩ := fewer_mem.1 ht
      have h2 := sum_add (k := -1) hp
      have h3 := fine_sum ((found_memG h0).1 zf).1
      cases m with
      | zero => omega
      | succ m =>
        obtain ⟨u, u1, u2⟩ := some_least h0 m zf (by omega)
        exact ⟨u, u1, u2.trans (less_below (List.mem_filter.2 ⟨List.mem_range.2 hp, decide_eq_true h1⟩))⟩
    · refine ⟨s, List.mem_filter.2 ⟨hs, ?_⟩, Below.refl s⟩
      rw [Bool.not_eq_true']
      exact Bool.eq_false_iff.2 h
theorem some_great (h0 : 0 ≤ n) : ∀ (m : Nat) {s : List Int}, s ∈ foundM y d v n → (n - s.sum).toNat ≤ m → ∃ t ∈ greatS y d v n, Below s t
  | m, s, hs, hm => by
    obtain ⟨fs, ss, vs⟩ := (found_memG h0).1 hs
    by_cases h : (moreL s).any (fun t => decide (t ∈ foundM y d v n)) = true
    · obtain ⟨t, ht, z⟩ := List.any_eq_true.1 h
      have zf := of_decide_eq_true z
      obtain ⟨p, hp, rfl⟩ := more_mem.1 ht
      have h2 := sum_add (k := 1) hp
      have h3 := ((found_memG h0).1 zf).2.1
      cases m with
      | zero => omega
      | succ m =>
        obtain ⟨u, u1, u2⟩ := some_great h0 m zf (by omega)
        exact ⟨u, u1, (more_below' hp (by decide)).trans u2⟩
    · refine ⟨s, List.mem_filter.2 ⟨hs, ?_⟩, Below.refl s⟩
      rw [Bool.not_eq_true']
      exact Bool.eq_false_iff.2 h
/-- found just where it lies between a least one and a greatest one -/
theorem found_iff (h0 : 0 ≤ n) (hv : v.length = d.length) (hd : ∀ k ∈ d, AskOk y.length k) {s : List Int} (fs : Fine y s) (hs : s.sum ≤ n) :
    decide (s ∈ foundM y d v n) = (!((leastS y d v n).filter fun t => aboveB s t).isEmpty && !((greatS y d v n).filter fun t => aboveB t s).isEmpty) := by
  rw [Bool.eq_iff_iff, decide_eq_true_eq, Bool.and_eq_true, Bool.not_eq_true', Bool.not_eq_true', Bool.eq_false_iff, Bool.eq_false_iff, Ne, Ne, List.isEmpty_iff, List.isEmpty_iff, List.filter_eq_nil_iff, List.filter_eq_nil_iff]
  constructor
  · intro h
    obtain ⟨a, a1, a2⟩ := some_least h0 _ h (Nat.le_refl _)
    obtain ⟨b, b1, b2⟩ := some_great h0 _ h (Nat.le_refl _)
    exact ⟨fun z => z a a1 ((above_iff a2.1.symm).2 a2), fun z => z b b1 ((above_iff b2.1.symm).2 b2)⟩
  · rintro ⟨h1, h2⟩
    have g1 : ∃ a ∈ leastS y d v n, aboveB s a = true := by
      apply Classical.byContradiction
      intro z
      exact h1 fun a ha q => z ⟨a, ha, q⟩
    have g2 : ∃ a ∈ greatS y d v n, aboveB a s = true := by
      apply Classical.byContradiction
      intro z
      exact h2 fun a ha q => z ⟨a, ha, q⟩
    obtain ⟨a, a1, a2⟩ := g1
    obtain ⟨b, b1, b2⟩ := g2
    obtain ⟨fa, sa, va⟩ := (found_memG h0).1 (List.mem_filter.1 a1).1
    obtain ⟨fb, sb, vb⟩ := (found_memG h0).1 (List.mem_filter.1 b1).1
    exact (found_memG h0).2 ⟨fs, hs, so_between hv hd ((above_iff (fs.1.trans fa.1.symm)).1 a2) ((above_iff (fb.1.trans fs.1.symm)).1 b2) fa fs fb va vb⟩
end
theorem box_full {y : List Rm} {n : Int} (h0 : 0 ≤ n) : (boxL n (topsM y n)).length ≤ (boxL n (List.replicate y.length n)).length := by
  have e : boxL n (topsM y n) = (boxL n (List.replicate y.length n)).filter fun s => decide (s ∈ boxL n (topsM y n)) := by
    refine ltx_eq (box_sorted _ _).1 ((box_sorted _ _).1.filter _) fun s => ?_
    rw [List.mem_filter, decide_eq_true_eq]
    refine ⟨fun h => ⟨?_, h⟩, fun h => h.2⟩
    rw [box_mem h0] at h ⊢
    obtain ⟨hf, hs⟩ := in_fine.1 h
    refine ⟨by rw [hf.1, List.length_replicate], fun p hp => ?_, hs⟩
    rw [List.length_replicate] at hp
    have h1 := getD_le_sum (p := p) fun q hq => (hf.2 q (by rw [← hf.1]; exact hq)).1
    rw [List.getD_eq_getElem?_getD, List.getD_eq_getElem?_getD, List.getElem?_replicate, if_pos hp] at *
    have h2 := (hf.2 p hp).1
    rw [List.getD_eq_getElem?_getD] at h2
    simp only [Option.getD_some]
    exact ⟨h2, by omega⟩
  rw [e]
  exact List.length_filter_le _ _
theorem box_zero {y : List Rm} {n : Int} (hy : YardOk y) (h0 : 0 ≤ n) : zeroL y.length ∈ boxL n (topsM y n) := by
  refine (box_mem h0 _ _).2 (in_fine.2 ⟨⟨by unfold zeroL; rw [List.length_replicate], fun p hp => ?_⟩, by rw [zero_sum]; exact h0⟩)
  rw [zero_get]
  refine ⟨Int.le_refl _, fun i hi => ?_⟩
  have hm : y.getD p none ∈ y := by
    rw [List.getD_eq_getElem?_getD, List.getElem?_eq_getElem hp]
    exact List.getElem_mem hp
  exact hy.2.2 _ hm i hi
theorem flat_congr {α β : Type} {f g : α → List β} : ∀ {l : List α}, (∀ a ∈ l, f a = g a) → l.flatMap f = l.flatMap g
  | [], _ => rfl
  | a :: l, h => by rw [List.flatMap_cons, List.flatMap_cons, h a List.mem_cons_self, flat_congr fun b hb => h b (List.mem_cons_of_mem _ hb)]
/-- all standings, as a law puts them together -/
def roomM (n : Int) (r : Rm) : Int := match r with
  | none => n
  | some i => min n i
theorem box_next {n : Int} {r : Rm} (B : List (List Int)) (hB : ∀ b ∈ B, 0 ≤ b.sum) : (B.flatMap fun b => (List.range (roomM (n - b.sum) r + 1).toNat).map fun (k : Nat) => b ++ [(k : Int)]) = boxStep n B (match r with | none => n | some i => min i n) := by
  unfold boxStep
  refine flat_congr fun b hb => ?_
  have := hB b hb
  have e : roomM (n - b.sum) r = min (match r with | none => n | some i => min i n) (n - b.sum) := by
    cases r with
    | none => show n - b.sum = min n (n - b.sum); omega
    | some i => show min (n - b.sum) i = min (min i n) (n - b.sum); omega
  rw [e]
theorem tops_snoc (y : List Rm) (r : Rm) (n : Int) : topsM (y ++ [r]) n = topsM y n ++ [match r with | none => n | some i => min i n] := by
  unfold topsM
  rw [List.map_append]
  rfl
end Kb
namespace Kb
open PySem PySem.Spec PyProof.Rows L2
/-! ### a slot is laid down as data behind a statement -/
def sFrz (i : Nat) (W : WS) : WS := fun D env => W { nx := fun e => wShare i e fun _ e2 => D.nx e2, rt := D.rt, bk := D.bk, ct := D.ct } env
section
variable {P : Program} {w : World} {K : PySem.W.Frag} {mg : Str → Option Value} {base : Heap} {k : Nat} {N : List Str} {sc : Scf} {pin : List Bool} {st : Stmt} {W : WS}
theorem dens_frz {i : Nat} (h : DenS P w K mg base k N sc pin st W) : DenS P w K mg base k N sc pin st (sFrz i W) := by
  obtain ⟨ts, h1, h2⟩ := h
  refine ⟨ts, h1, fun σ H G B env D DW c hw ends => ?_⟩
  refine h2 σ H G B env D { nx := fun e => wShare i e fun _ e2 => DW.nx e2, rt := DW.rt, bk := DW.bk, ct := DW.ct } c hw ⟨fun σ' H' G' B' env' q c' s p => ?_, ends.rt, ends.bk, ends.ct⟩
  obtain ⟨v, _, fin⟩ := snd_share (i := i) σ' H' G' B' env' _ (fun _ H'' => D.nx σ' H'') c' q (fun v H2 G2 B2 C e2 dv hq r o => ends.nx σ' H2 G2 B2 e2 hq r.conc (s.tr r.drop) p)
  exact fin
end
end Kb
namespace Kb
open PySem PySem.Spec PyProof.Rows L2
section
variable {P : Program} {w : World} {K : PySem.W.Frag} {mg : Str → Option Value} {base : Heap} {k : Nat} {N : List Str} {sc : Scf} {pin : List Bool}
variable {H G H1 G1 H' G' : Hp} {B B1 B' C : Addr → Prop} {σ : L2.St} {env : Ev}
variable {a b c e : Expr} {pos p : Pos} {A O : WO} {W U : WE} {T : WT} {S : WS} {x : Str}
/-! ### while: by an invariant with a measure -/
def sWhile (T : WT) (S : WS) : WS := fun D env => ∃ I : Nat → Ev → Prop, (∃ m, I m env) ∧ ∀ m e, I m e → T e fun b e1 => if b = true then S { nx := fun e2 => ∃ m', m' < m ∧ I m' e2, ct := fun e2 => ∃ m', m' < m ∧ I m' e2, bk := D.nx, rt := D.rt } e1 else D.nx e1
theorem dens_while {body : List Stmt} (ht : DenT P w K mg base k N sc c T) (hb : DenB P w K mg base k N sc pin body S) : DenS P w K mg base k N sc pin (.While c body [] pos) (sWhile T S) := by
  obtain ⟨tt, t1, t2⟩ := ht
  obtain ⟨tb, b1, b2⟩ := hb
  refine ⟨tWhile tt tb, fun X hX => ps_while (by rw [hX.xe]; exact PassesOwn.never) (t1 X hX) (b1 X hX), fun σ H G B env D DW c hw q => ?_⟩
  obtain ⟨I, ⟨m0, i0⟩, step⟩ := hw
  refine ⟨fun m σ' H' => ∃ G' B' env', I m env' ∧ Conc K H' G' B' σ' env' ∧ Step H G B H' G' B' ∧ pinned pin σ σ', ⟨m0, G, B, env, i0, c, Step.refl, pinned.refl⟩, ?_⟩
  rintro m σ1 H1 ⟨G1, B1, e1, i1, c1, s1, p1⟩
  refine t2 σ1 H1 G1 B1 e1 _ _ c1 (step m e1 i1) fun b H2 G2 B2 e2 h2 c2 s2 => ?_
  cases b with
  | false => exact q.nx σ1 H2 G2 B2 e2 h2 c2 (s1.tr s2) p1
  | true =>
    rw [if_pos rfl] at h2 ⊢
    refine ⟨fun σ' H' => ∃ m', m' < m ∧ ∃ G' B' env', I m' env' ∧ Conc K H' G' B' σ' env' ∧ Step H G B H' G' B' ∧ pinned pin σ σ', fun σ' H' h => h, ?_⟩
    refine b2 σ1 H2 G2 B2 e2 _ _ c2 h2 ⟨fun σ4 H4 G4 B4 e4 h c4 s4 p4 => ?_, fun v σ4 H4 G4 B4 C4 e4 dv h r4 o4 p4 => ?_, fun σ4 H4 G4 B4 e4 h c4 s4 p4 => ?_, fun σ4 H4 G4 B4 e4 h c4 s4 p4 => ?_⟩
    · obtain ⟨m', hm, hi⟩ := h
      exact ⟨m', hm, G4, B4, e4, hi, c4, (s1.tr s2).tr s4, p1.tr p4⟩
    · exact q.rt v σ4 H4 G4 B4 C4 e4 dv h (r4.tr (s1.tr s2)) o4 (p1.tr p4)
    · exact q.nx σ4 H4 G4 B4 e4 h c4 ((s1.tr s2).tr s4) (p1.tr p4)
    · obtain ⟨m', hm, hi⟩ := h
      exact ⟨m', hm, G4, B4, e4, hi, c4, (s1.tr s2).tr s4, p1.tr p4⟩
/-- a while that is followed turn by turn -/
theorem while_by {D : EndW} (I : Nat → Ev → Prop) (m : Nat) (h0 : I m env) (hs : ∀ m e, I m e → T e fun b e1 => if b = true then S { nx := fun e2 => ∃ m', m' < m ∧ I m' e2, ct := fun e2 => ∃ m', m' < m ∧ I m' e2, bk := D.nx, rt := D.rt } e1 else D.nx e1) : sWhile T S D env := ⟨I, ⟨m, h0⟩, hs⟩

/-! ### xs[::-1] -/
def fRev : F1 := fun x Q => match lstOf x with
  | some ds => Q (.olist ds.reverse)
  | none => False
theorem den_revL {kk : Nat} {p1 p2 p3 : Pos} (ha : DenO P w K mg base k N sc a A) : DenE P w K mg base k N sc (.Subscript a (.Slice none none (some (.UnaryOp .USub (.Constant (.int 1) kk p1) p2)) p3) pos) (w1 fRev A) := by
  obtain ⟨te, h1, h2⟩ := ha
  refine ⟨tRevL K te, fun X hX => by rw [← hX.eK]; exact pe_revL (h1 X hX), ?_⟩
  show SndE K (tUn (fun x H1 Q => ∃ a xs, x = .ref a ∧ SqL K H1 a xs ∧ ∀ p, H1 p = none → Q (.ref p) (upd H1 p (.lst xs.reverse))) te) _
  refine snd_w1 (fun G H x dx Q Qv l px h q => ?_) h2
  unfold fRev at h
  split at h
  case h_2 => exact h.elim
  rename_i ds es
  obtain ⟨p, vs, ex, s, t⟩ := px.lst l es
  exact ⟨p, vs, ex, s, fun r nr => q _ _ G _ _ h (Alloc.own l nr) (.olist rfl upd_same (dpa_rev t))⟩

/-! ### sorted(xs, reverse=True) -/
def fSortedR : F1 := fun x Q => match lstOf x with
  | some ds => (match intsOf ds with
    | some ns => ∀ ns' : List Int, ns'.Perm ns → ns'.Pairwise (fun i j => j ≤ i) → Q (.olist (ns'.map .int))
    | none => False)
  | none => False
theorem den_sortedR {p2 p3 : Pos} {jj : Nat} (hm : mg "sorted" = none) (hg : GloB sc "sorted" = true) (ha : DenO P w K mg base k N sc a A) (hs : ∀ env, starEach [a] env = (false, eval a env) :: starEach [] env := by intros; rfl)
    (he : ∀ env, backTo pos (starEach [a] env) = (false, eval a env) :: backTo pos (starEach [] env) := by intros; rfl) (hpl : ∀ env, (backTo pos (starEach [a] env)).any (·.1) = false := by intros; rfl)
    (hall : ∀ env, (backToKw pos (keywordEach [⟨some "reverse", .Constant (.bool true) jj p2, p3⟩] env)).all (·.1.isSome) = true := by intros; rfl) (hnone : ∀ env, (backToKw pos (keywordEach [⟨some "reverse", .Constant (.bool true) jj p2, p3⟩] env)).any (·.1.isNone) = false := by intros; rfl)
    (hks : ∀ env, (backToKw pos (keywordEach [⟨some "reverse", .Constant (.bool true) jj p2, p3⟩] env)).filterMap (·.1) = [Str.ofString "reverse"] := by intros; rfl) :
    DenE P w K mg base k N sc (.Call (.Name "sorted" p) [a] [⟨some "reverse", .Constant (.bool true) jj p2, p3⟩] pos) (w1 fSortedR A) := by
  obtain ⟨te, h1, h2⟩ := ha
  refine ⟨tCKw (rSortedKw K true [.bl true]) (tCons te tNil) (tCons (tC (.bl true)) tNil), fun X hX => by
    rw [← hX.eK]
    exact pe_callBK (id := "sorted") cr_sortedRev (gl_of hX hg) (by rw [hX.eg]; exact hm) (by decide +kernel) (pa_cons (h1 X hX) pa_nil (hs X.env)) (pk_cons pe_bl pk_nil) (by decide) (by decide) (he X.env) (hpl X.env) (hall X.env) (hnone X.env) (hks X.env), ?_⟩
  intro σ H G B env Q Qv c hw q
  refine h2 σ H G B env _ _ c hw fun v H1 G1 B1 C1 e1 ov hq r o => ?_
  split at hq
  case h_2 => exact hq.elim
  rename_i dx e3
  unfold fSortedR at hq
  split at hq
  case h_2 => exact hq.elim
  rename_i ds es
  split at hq
  case h_2 => exact hq.elim
  rename_i ns en
  obtain ⟨p, vs, ex, s, t⟩ := (o.pk r.conc e3).lst r.conc.le es
  rw [intsOf_ok en] at t
  have := dpa_ints t
  subst this
  refine ⟨p, ns, by rw [ex], rfl, s, fun ns' r2 hp ho nr => ?_⟩
  exact q (.ref r2) _ G1 B1 _ e1 _ (hq ns' hp ho) (Res.tr r.drop ((Alloc.own r.conc.le nr).res r.conc)) (.olist rfl upd_same (dpa_of_ints ns'))
/-! ### a tuple of the text -/
theorem den_globT {ds : List PyData} {aa : Addr} (hm : mg x = some (.ref aa)) (hd : ∀ G, Dp K G (.ref aa) (.tuple ds)) (hg : GloB sc x = true) (hdb : (x == ("__debug__" : Str)) = false := by decide) : DenE P w K mg base k N sc (.Name x pos) (wC (.tuple ds)) :=
  ⟨_, fun X hX => pe_glob (v := .ref aa) (gl_of hX hg) (by rw [hX.eg]; exact hm) rfl hdb, snd_c fun G => hd G⟩
/-- ((), ()) as an object of the text -/
theorem dp_idle {aa b1 b2 : Addr} {e0 e1 e2 : Option Addr} {n0 n1 n2 : Nat} {s0 s1 s2 : Array (Option Value)} (h0 : K.lookup aa = some ⟨.type "tuple", e0, .seq #[.ref b1, .ref b2] n0, s0⟩) (h1 : K.lookup b1 = some ⟨.type "tuple", e1, .seq #[] n1, s1⟩) (h2 : K.lookup b2 = some ⟨.type "tuple", e2, .seq #[] n2, s2⟩) :
    ∀ G, Dp K G (.ref aa) (.tuple [.tuple [], .tuple []]) := fun G => by
  have f1 : Dp K G (.ref b1) (.tuple []) := .tup (xs := []) (.inr ⟨_, #[], n1, h1, rfl, rfl, by show 0 ≤ sizeLine; decide, .nil⟩) .nil
  have f2 : Dp K G (.ref b2) (.tuple []) := .tup (xs := []) (.inr ⟨_, #[], n2, h2, rfl, rfl, by show 0 ≤ sizeLine; decide, .nil⟩) .nil
  exact .tup (xs := [.ref b1, .ref b2]) (.inr ⟨_, _, n0, h0, rfl, rfl, by show 2 ≤ sizeLine; decide, .cons rfl (.cons rfl .nil)⟩) (.cons f1 (.cons f2 .nil))
/-! ### a method index of a list that is a value -/
def fIndex : F2 := fun x y Q => match y with
  | .data (.int n) => (match lstOf x with
    | some ds => (match intsOf ds with
      | some ns => ∃ j : Nat, ns[j]? = some n ∧ (∀ (m : Nat) (z : Int), m < j → ns[m]? = some z → z ≠ n) ∧ Q (.data (.int j))
      | none => False)
    | none => False)
  | _ => False
end
end Kb
namespace Kb
open PySem PySem.Spec PyProof.Rows L2
/-! ### two days side by side; neighbours exchanged; an ask left out -/
def farL2 (y : List Rm) (s t : List Int) (d e : List Ask) : List Int := (List.range (d.length + 1)).map fun n => distL (goM y s (d.take n)).2 (goM y t (e.take n)).2
theorem farL2_same (y : List Rm) (s t : List Int) (d : List Ask) : farL2 y s t d d = farL y s t d := rfl
theorem far_map2 (y : List Rm) (s t : List Int) (d e : List Ask) (h : e.length = d.length) : (zipD (momsD y s d) (momsD y t e)).map distD = (farL2 y s t d e).map .int := by
  unfold momsD farL2
  rw [h, zip_maps, List.map_map, List.map_map]
  refine List.map_congr_left fun n _ => ?_
  show distD (.tuple [encS _, encS _]) = .int _
  rw [distD_enc]
theorem idle_serve (y : List Rm) (s : List Int) : serveM y s ([], []) = (none, s) := rfl
/-- an idle ask in the place of ask k -/
def idleD (d : List Ask) (k : Nat) : List Ask := d.take k ++ [([], [])] ++ d.drop (k + 1)
theorem idle_len {d : List Ask} {k : Nat} (h : k < d.length) : (idleD d k).length = d.length := by
  unfold idleD
  simp only [List.length_append, List.length_take, List.length_drop, List.length_cons, List.length_nil]
  omega
theorem idle_ok {n : Nat} {d : List Ask} {k : Nat} (hd : DayOk n d) (h : k < d.length) : DayOk n (idleD d k) := by
  refine ⟨by rw [idle_len h]; exact hd.1, fun a ha => ?_⟩
  unfold idleD at ha
  rcases List.mem_append.1 ha with ha | ha
  · rcases List.mem_append.1 ha with ha | ha
    · exact hd.2 a (List.mem_of_mem_take ha)
    · rw [List.mem_singleton.1 ha]
      exact ⟨⟨List.nodup_nil, fun p hp => (List.not_mem_nil hp).elim⟩, ⟨List.nodup_nil, fun p hp => (List.not_mem_nil hp).elim⟩⟩
  · exact hd.2 a (List.mem_of_mem_drop ha)
theorem idle_take_le {d : List Ask} {k n : Nat} (h : k < d.length) (hn : n ≤ k) : (idleD d k).take n = d.take n := by
  unfold idleD
  rw [List.append_assoc, List.take_append_of_le_length (by rw [List.length_take]; omega), List.take_take, Nat.min_eq_left hn]
theorem take_at {d : List Ask} {k : Nat} (h : k < d.length) : d.take (k + 1) = d.take k ++ [d[k]] := by
  rw [List.take_succ, List.getElem?_eq_getElem h]; rfl
theorem take_past {d : List Ask} {k j : Nat} (h : k < d.length) : d.take (k + 1 + j) = d.take k ++ [d[k]] ++ (d.drop (k + 1)).take j := by
  rw [← take_at h, List.take_add]
theorem idle_take_gt {d : List Ask} {k j : Nat} (h : k < d.length) : (idleD d k).take (k + 1 + j) = d.take k ++ [([], [])] ++ (d.drop (k + 1)).take j := by
  unfold idleD
  have e : (d.take k ++ [(([], []) : Ask)]).length = k + 1 := by
    rw [List.length_append, List.length_take]; simp only [List.length_cons, List.length_nil]; omega
  rw [show k + 1 + j = (d.take k ++ [(([], []) : Ask)]).length + j by rw [e]]
  rw [List.take_length_add_append]
theorem go_skip (y : List Rm) (s : List Int) (p q : List Ask) : (goM y s (p ++ [([], [])] ++ q)).2 = (goM y (goM y s p).2 q).2 := by
  rw [go_app, go_app]
  rfl
theorem go_one (y : List Rm) (s : List Int) (p q : List Ask) (a : Ask) : (goM y s (p ++ [a] ++ q)).2 = (goM y (serveM y (goM y s p).2 a).2 q).2 := by
  rw [go_app, go_app]
  rfl
section
variable {y : List Rm} {s : List Int} {d : List Ask} {k : Nat}
theorem left_ahead (h : k < d.length) : (farL2 y s s d (idleD d k)).take (k + 1) = List.replicate (k + 1) 0 := by
  unfold farL2
  rw [← List.map_take, List.take_range, show min (k + 1) (d.length + 1) = k + 1 by omega]
  refine List.ext_getElem (by simp) fun n h1 h2 => ?_
  rw [List.getElem_map, List.getElem_range, List.getElem_replicate]
  rw [List.length_replicate] at h2
  rw [idle_take_le h (by omega), dist_self]
theorem left_behind (h : k < d.length) : (farL2 y s s d (idleD d k)).drop (k + 1) = farL y (serveM y (goM y s (d.take k)).2 d[k]).2 (goM y s (d.take k)).2 (d.drop (k + 1)) := by
  unfold farL2 farL
  rw [← List.map_drop]
  refine List.ext_getElem (by rw [List.length_map, List.length_drop, List.length_range, List.length_map, List.length_range, List.length_drop]; omega) fun j h1 h2 => ?_
  rw [List.getElem_map, List.getElem_drop, List.getElem_range, List.getElem_map, List.getElem_range]
  rw [take_past h, idle_take_gt h, go_skip, go_one]
end
/-- distances never rise -/
theorem far_down {y : List Rm} {s t : List Int} {d : List Ask} (fs : Fine y s) (ft : Fine y t) (hd : ∀ a ∈ d, AskOk y.length a) : (farL y s t d).Pairwise fun i j => j ≤ i := by
  rw [List.pairwise_iff_getElem]
  intro i j hi hj hij
  unfold farL at hi hj ⊢
  rw [List.getElem_map, List.getElem_map, List.getElem_range, List.getElem_range]
  rw [List.length_map, List.length_range] at hj
  have e : d.take j = d.take i ++ (d.drop i).take (j - i) := by rw [← List.take_add, show i + (j - i) = j by omega]
  rw [e, go_app, go_app]
  exact dist_go (fun a ha => hd a (List.mem_of_mem_drop (List.mem_of_mem_take ha))) (fine_go fs fun a ha => hd a (List.mem_of_mem_take ha)) (fine_go ft fun a ha => hd a (List.mem_of_mem_take ha))
theorem far_head (y : List Rm) (s t : List Int) (d : List Ask) : (farL y s t d)[0]? = some (distL s t) := by
  rw [far_get _ _ _ _ (Nat.succ_pos _)]; rfl
theorem far_cons (y : List Rm) (s t : List Int) (d : List Ask) : ∃ l, farL y s t d = distL s t :: l := by
  have h := far_head y s t d
  cases e : farL y s t d with
  | nil => rw [e] at h; cases h
  | cons a l =>
    rw [e] at h
    simp only [List.getElem?_cons_zero, Option.some.injEq] at h
    rw [h]; exact ⟨l, rfl⟩
theorem perm_desc : ∀ {a b : List Int}, a.Perm b → a.Pairwise (fun i j => j ≤ i) → b.Pairwise (fun i j => j ≤ i) → a = b
  | [], b, h, _, _ => by rw [List.Perm.nil_eq h]
  | x :: a, [], h, _, _ => (List.Perm.eq_nil h).symm ▸ rfl
  | x :: a, z :: b, h, h1, h2 => by
    have e1 := List.pairwise_cons.1 h1
    have e2 := List.pairwise_cons.1 h2
    have hx : x ≤ z := by
      rcases List.mem_cons.1 (h.mem_iff.1 (List.mem_cons_self (a := x) (l := a))) with e | e
      · omega
      · exact e2.1 x e
    have hz : z ≤ x := by
      rcases List.mem_cons.1 (h.mem_iff.2 (List.mem_cons_self (a := z) (l := b))) with e | e
      · omega
      · exact e1.1 z e
    have e : x = z := by omega
    subst e
    rw [perm_desc ((List.perm_cons x).1 h) e1.2 e2.2]
theorem max_head {x m : Int} {l : List Int} (h : (x :: l).Pairwise fun i j => j ≤ i) (hm : m ∈ x :: l) (hb : ∀ z ∈ x :: l, z ≤ m) : m = x := by
  have h1 := hb x List.mem_cons_self
  rcases List.mem_cons.1 hm with e | e
  · exact e
  · have := (List.pairwise_cons.1 h).1 m e
    omega
/-- two neighbours exchanged -/
theorem swap_four {y : List Rm} {s : List Int} {a b : Ask} (fs : Fine y s) (ha : AskOk y.length a) (hb : AskOk y.length b) : distL (goM y s [a, b]).2 (goM y s [b, a]).2 ≤ 4 := by
  have f1 := fine_serve fs ha
  have f2 := fine_serve fs hb
  show distL (serveM y (serveM y s a).2 b).2 (serveM y (serveM y s b).2 a).2 ≤ 4
  have h1 := far_step f1 fs hb
  have h2 := (serve_moves fs ha).1
  have h3 := (serve_moves f2 ha).1
  rw [dist_sym] at h2
  have l1 := (fine_serve f1 hb).1
  have l2 := (fine_serve f2 ha).1
  have h4 := dist_tri (a := (serveM y (serveM y s a).2 b).2) (b := (serveM y s b).2) (c := (serveM y (serveM y s b).2 a).2) (by rw [l1, f2.1]) (by rw [f2.1, l2])
  omega
/-- what an ask touches -/
theorem first_some {now : List Int} {ws : List Nat} {p : Nat} (h : firstT now ws = some p) : p ∈ ws := List.mem_of_find?_eq_some h
theorem firstR_mem {y : List Rm} {now : List Int} {ls : List Nat} {p : Nat} (h : firstR y now ls = some p) : p ∈ ls := List.mem_of_find?_eq_some h
theorem getD_add' {now : List Int} {p q : Nat} {k : Int} : (add now p k).getD q 0 = if p = q ∧ p < now.length then now.getD p 0 + k else now.getD q 0 := by
  by_cases h : p < now.length
  · rw [getD_add h]
    by_cases e : p = q
    · rw [if_pos e, if_pos ⟨e, h⟩]
    · rw [if_neg e, if_neg fun z => e z.1]
  · rw [if_neg fun z => h z.2]
    unfold add
    rw [List.set_eq_of_length_le (by omega)]
theorem serve_off {y : List Rm} {s : List Int} {a : Ask} {q : Nat} (h1 : q ∉ a.1) (h2 : q ∉ a.2) : (serveM y s a).2.getD q 0 = s.getD q 0 := by
  unfold serveM
  cases e : firstT s a.1 with
  | none => rfl
  | some p =>
    have hp : p ≠ q := fun z => h1 (z ▸ first_some e)
    simp only
    cases e2 : firstR y (add s p (-1)) a.2 with
    | none =>
      show (add s p (-1)).getD q 0 = _
      rw [getD_add', if_neg fun z => hp z.1]
    | some o =>
      have ho : o ≠ q := fun z => h2 (z ▸ firstR_mem e2)
      show (add (add s p (-1)) o 1).getD q 0 = _
      rw [getD_add', if_neg fun z => ho z.1, getD_add', if_neg fun z => hp z.1]
theorem find_congr {α : Type} {f g : α → Bool} : ∀ {l : List α}, (∀ a ∈ l, f a = g a) → l.find? f = l.find? g
  | [], _ => rfl
  | a :: l, h => by
    rw [List.find?_cons, List.find?_cons, h a List.mem_cons_self, find_congr fun b hb => h b (List.mem_cons_of_mem _ hb)]
theorem serve_local {y : List Rm} {s t : List Int} {a : Ask} (hl : s.length = t.length) (h : ∀ q, q ∈ a.1 ∨ q ∈ a.2 → s.getD q 0 = t.getD q 0) : ∀ q, q ∈ a.1 ∨ q ∈ a.2 → (serveM y s a).2.getD q 0 = (serveM y t a).2.getD q 0 := by
  intro q hq
  have e1 : firstT s a.1 = firstT t a.1 := find_congr fun p hp => by rw [h p (.inl hp)]
  unfold serveM
  rw [← e1]
  cases e : firstT s a.1 with
  | none => exact h q hq
  | some p =>
    have ag : ∀ q, q ∈ a.1 ∨ q ∈ a.2 → (add s p (-1)).getD q 0 = (add t p (-1)).getD q 0 := fun q hq => by
      rw [getD_add', getD_add', hl]
      split
      · rw [h p (.inl (first_some e))]
      · exact h q hq
    have e2 : firstR y (add s p (-1)) a.2 = firstR y (add t p (-1)) a.2 := find_congr fun o ho => by
      unfold roomB
      rw [ag o (.inr ho)]
    simp only
    rw [← e2]
    cases e3 : firstR y (add s p (-1)) a.2 with
    | none => exact ag q hq
    | some o =>
      show (add (add s p (-1)) o 1).getD q 0 = (add (add t p (-1)) o 1).getD q 0
      rw [getD_add', add_len, getD_add' (now := add t p (-1)), add_len, hl]
      split
      · rw [ag o (.inr (firstR_mem e3))]
      · exact ag q hq
theorem swap_apart {y : List Rm} {s : List Int} {a b : Ask} (fs : Fine y s) (ha : AskOk y.length a) (hb : AskOk y.length b) (h : ∀ q, q ∈ a.1 ∨ q ∈ a.2 → ¬ (q ∈ b.1 ∨ q ∈ b.2)) : (goM y s [a, b]).2 = (goM y s [b, a]).2 := by
  have f1 := fine_serve fs ha
  have f2 := fine_serve fs hb
  show (serveM y (serveM y s a).2 b).2 = (serveM y (serveM y s b).2 a).2
  refine ext_getD (by rw [(fine_serve f1 hb).1, (fine_serve f2 ha).1]) fun q _ => ?_
  have offa : ∀ (s : List Int) q, ¬ (q ∈ a.1 ∨ q ∈ a.2) → (serveM y s a).2.getD q 0 = s.getD q 0 := fun s q z => serve_off (fun w => z (.inl w)) fun w => z (.inr w)
  have offb : ∀ (s : List Int) q, ¬ (q ∈ b.1 ∨ q ∈ b.2) → (serveM y s b).2.getD q 0 = s.getD q 0 := fun s q z => serve_off (fun w => z (.inl w)) fun w => z (.inr w)
  by_cases qa : q ∈ a.1 ∨ q ∈ a.2
  · rw [offb _ q (h q qa)]
    exact serve_local (by rw [fs.1, f2.1]) (fun r hr => (offb s r (h r hr)).symm) q qa
  · rw [offa _ q qa]
    by_cases qb : q ∈ b.1 ∨ q ∈ b.2
    · exact serve_local (by rw [fs.1, f1.1]) (fun r hr => offa s r fun z => h r z hr) q qb
    · rw [offb _ q qb, offa _ q qa, offb _ q qb]
/-- no farther than twice as many as are served -/
theorem served_cons (r : Row) (l : List Row) : (servedIx (r :: l)).length = (if r.isSome then 1 else 0) + (servedIx l).length := by
  have := served_app [r] l
  rw [show [r] ++ l = r :: l from rfl] at this
  rw [this, List.length_append, List.length_map]
  congr 1
  cases r <;> rfl
theorem go_far {y : List Rm} : ∀ {d : List Ask} {s : List Int}, Fine y s → (∀ a ∈ d, AskOk y.length a) → distL s (goM y s d).2 ≤ 2 * ((servedIx (goM y s d).1).length : Int)
  | [], s, _, _ => by
    show distL s s ≤ 2 * (((servedIx []).length : Nat) : Int)
    rw [dist_self]; exact Int.le_refl _
  | a :: d, s, fs, hd => by
    have ha := hd a List.mem_cons_self
    have f1 := fine_serve fs ha
    have ih := go_far (d := d) f1 fun b hb => hd b (List.mem_cons_of_mem _ hb)
    show distL s (goM y (serveM y s a).2 d).2 ≤ 2 * (((servedIx ((serveM y s a).1 :: (goM y (serveM y s a).2 d).1)).length : Nat) : Int)
    rw [served_cons]
    have f2 := fine_go (d := d) f1 fun b hb => hd b (List.mem_cons_of_mem _ hb)
    have ht := dist_tri (a := s) (b := (serveM y s a).2) (c := (goM y (serveM y s a).2 d).2) (by rw [fs.1, f1.1]) (by rw [f1.1, f2.1])
    have hm := (serve_moves fs ha).1
    cases e : (serveM y s a).1 with
    | none =>
      have e2 : (serveM y s a).2 = s := by
        unfold serveM at e ⊢
        split at e
        · rfl
        · split at e <;> cases e
      rw [e2] at ht ih ⊢
      rw [dist_self] at ht
      show _ ≤ 2 * (((0 + _ : Nat)) : Int)
      rw [Nat.zero_add]
      exact ih
    | some r =>
      show _ ≤ 2 * (((1 + _ : Nat)) : Int)
      omega
end Kb
namespace SrtO
open PySem PyProof.Rows Srt
section
variable {prog : Program} {w : World} {A : Around} {E : Value → Shared → Prop} {s : Shared}
theorem collect_tuple' {l : Addr} {vs : List Value} {Q : List Value → Shared → Prop} (hl : s.heap.IsTuple l vs.toArray)
    (h : Q vs { s with heap := (s.heap.push (seqObj "list" #[] 0)).update s.heap.objs.size (Obj.mapSeq (· ++ vs.toArray)) }) (hsz : vs.length ≤ sizeLine) :
    wpAny (model prog w) A (collect (.ref l)) Q E s := by
  obtain ⟨o, ho, hc, n, hd⟩ := id hl
  unfold collect
  refine wpAny_bind (wpAny_runValue (codeAny_builtin entry_proto_collect' ?_))
  show wpAny _ _ (do again (.builtin "list.__iadd__" ⟨[← newList [], .ref l], []⟩)) _ _ s
  refine wpAny_bind (wpAny_newList (wpAny_pure ⟨Code.quiet_builtin _ (by decide +kernel), codeAny_builtin entry_list_iadd' ?_⟩))
  show wpAny _ _ (Builtin.List.listExtendWith (.ref s.heap.objs.size) (.ref l) (.ref s.heap.objs.size)) _ _ { s with heap := s.heap.push (seqObj "list" #[] 0) }
  unfold Builtin.List.listExtendWith
  have ho' : (s.heap.push (seqObj "list" #[] 0)).get? l = some o := Heap.get?_push_of_some _ ho
  refine wpAny_bind (wpAny_typeOf (T := "tuple") ⟨o, ho', hc⟩ ?_)
  have ht : (Value.type "tuple" == Value.type "tuple") = true := by rfl
  rw [if_pos (by rw [ht]; simp)]
  refine wpAny_bind (listItems_at ho' hd ?_)
  refine wpAny_bind (listItems_at (xs := #[]) (n := 0) (Heap.get?_push_size _ rfl) rfl ?_)
  rw [if_neg (by simp)]
  refine wpAny_bind (listUpdate_at (xs := #[]) (n := 0) (Heap.get?_push_size _ rfl) rfl ?_ (Nat.zero_le _) (by show (#[] ++ vs.toArray).size ≤ sizeLine + 1; simp only [Array.size_append, List.size_toArray, List.length_nil]; omega))
  refine wpAny_pure ?_
  show wpAny (model prog w) A (do
      let o ← load s.heap.objs.size
      match o.data with
      | .seq xs _ => pure xs.toList
      | _ => unsupported "internal:collect") Q E { s with heap := (s.heap.push (seqObj "list" #[] 0)).update s.heap.objs.size (Obj.mapSeq (· ++ vs.toArray)) }
  refine wpAny_bind (wpAny_load (get?_update_seq (Heap.get?_push_size _ rfl) _) ?_)
  show wpAny _ _ (pure ((#[] : Array Value) ++ vs.toArray).toList) Q E _
  rw [show ((#[] : Array Value) ++ vs.toArray).toList = vs by simp]
  exact wpAny_pure h
theorem sorted_ordT {l : Addr} {vs : List Value} {ltv : Value → Value → Bool} {Q : Value → Shared → Prop} (O : Swo ltv) (hl : s.heap.IsTuple l vs.toArray) (hz : vs.length ≤ sizeLine)
    (hS : 2 ≤ vs.length → ∀ (h₁ : Heap) (a : Addr), h₁.get? a = some (seqObj "list" vs.toArray 0) → (∀ b o, s.heap.get? b = some o → b ≠ a ∧ h₁.get? b = some o) → SortableO prog w A.in1.in1 { s with heap := h₁ } a vs ltv)
    (h : ∀ out : List Value, Srtd ltv out → Stb ltv out vs → Q (.ref (s.heap.objs.size + 1)) { s with heap := sortedAll s.heap vs out.toArray }) :
    wpAny (model prog w) A (call (.builtin "sorted") [.ref l]) Q E s := by
  refine Calls.call_function_entry kind_sorted plain_sorted entry_sorted (args_sorted1 _) ?_
  unfold Builtin.«sorted»
  refine wpAny_bind (m := checkCount "sorted" 1 1 _) (wpAny_pure ?_)
  refine wpAny_bind (collect_tuple' hl ?_ hz)
  refine wpAny_bind (wpAny_newList ?_ hz)
  have hsz : ((s.heap.push (seqObj "list" #[] 0)).update s.heap.objs.size (Obj.mapSeq (· ++ vs.toArray))).objs.size = s.heap.objs.size + 1 := by
    rw [Heap.size_update, size_push']
  have hoL : (((s.heap.push (seqObj "list" #[] 0)).update s.heap.objs.size (Obj.mapSeq (· ++ vs.toArray))).push (seqObj "list" vs.toArray 0)).get? (s.heap.objs.size + 1) = some (seqObj "list" vs.toArray 0) := by
    rw [← hsz]; exact Heap.get?_push_size _ rfl
  have keep : ∀ b o, s.heap.get? b = some o → b ≠ s.heap.objs.size + 1 ∧ (((s.heap.push (seqObj "list" #[] 0)).update s.heap.objs.size (Obj.mapSeq (· ++ vs.toArray))).push (seqObj "list" vs.toArray 0)).get? b = some o := fun b o q => by
    have hlt : b < s.heap.objs.size := Heap.lt_size q
    refine ⟨Nat.ne_of_lt (Nat.lt_succ_of_lt hlt), Heap.get?_push_of_some _ ?_⟩
    rw [Heap.get?_update_ne _ _ _ _ (Nat.ne_of_lt hlt)]
    exact Heap.get?_push_of_some _ q
  show wpAny _ _ _ _ _ { s with heap := ((s.heap.push (seqObj "list" #[] 0)).update s.heap.objs.size (Obj.mapSeq (· ++ vs.toArray))).push (seqObj "list" vs.toArray 0) }
  rw [hsz]
  refine wpAny_bind (wpAny_holding (wpAny_call_entry slot_list_sort ⟨_, hoL, rfl⟩ entry_list_sort (list_sort_ord O hoL hz (fun h2 => hS h2 _ _ hoL keep) fun out hs hb => ⟨_, rfl, ?_⟩) (args_list_sort _)))
  exact wpAny_pure ⟨_, rfl, h out hs hb⟩
end
end SrtO
namespace Kb
open PySem PySem.Spec PyProof.Rows L2
section
variable {P : Program} {w : World} {K : PySem.W.Frag} {mg : Str → Option Value} {base : Heap} {k : Nat} {N : List Str} {sc : Scf} {pin : List Bool}
variable {a : Expr} {pos p : Pos} {A : WO} {X : Cx}
def rSortedT (K : PySem.W.Frag) : List V → Hp → VK → Prop := fun xs H Q => ∃ (a : Addr) (ns : List Int), xs = [V.ref a] ∧ SqT K H a (ns.map V.int) ∧ ∀ (ns' : List Int) (p : Addr), ns'.Perm ns → ns'.Pairwise (· ≤ ·) → H p = none → Q (.ref p) (upd H p (.lst (ns'.map V.int)))
theorem cr_sortedT : CallR X (.builtin "sorted") (rSortedT X.K) := by
  intro pins s σ H vs us Q I r h
  obtain ⟨a, ns, rfl, hs, q⟩ := h
  obtain ⟨its, rv, hl, hz⟩ := I.tuple hs
  rw [Vals.ref1 r]
  have hi := rv.ints
  refine SrtO.sorted_ordT SrtO.swo_int hl (by rw [← rv.length]; exact hz) (fun h2 h₁ a' _ _ => SrtO.ints_sortable hi h2) fun out h1 h2 => ?_
  obtain ⟨k1, k2, k3⟩ := SrtO.ints_out hi h1 h2
  obtain ⟨ep, he'⟩ := PyProof.Rows.sortedAll_at s.heap its out.toArray
  have hlen : ((out.map SrtO.iv).map V.int).length ≤ sizeLine := by
    rw [List.length_map, k2.length_eq]
    rw [List.length_map] at hz
    exact hz
  exact ⟨.ref _, upd H (s.heap.objs.size + 1) (.lst ((out.map SrtO.iv).map V.int)), I.laid (t' := s.toks) (fun _ _ => PyProof.Rows.sortedAll_old) (Nat.le_succ _) ⟨hlen, out, ep, vals_of_ints k1, he'⟩, rfl, q _ _ k2 k3 (I.hok.fresh (Nat.le_succ _))⟩
def fSortedT : F1 := fun x Q => match tupOf x with
  | some ds => (match intsOf ds with
    | some ns => ∀ ns' : List Int, ns'.Perm ns → ns'.Pairwise (· ≤ ·) → Q (.olist (ns'.map .int))
    | none => False)
  | none => False
theorem den_sortedT (hm : mg "sorted" = none) (hg : GloB sc "sorted" = true) (ha : DenO P w K mg base k N sc a A) (hs : ∀ env, starEach [a] env = (false, eval a env) :: starEach [] env := by intros; rfl) : DenE P w K mg base k N sc (.Call (.Name "sorted" p) [a] [] pos) (w1 fSortedT A) :=
  den_b1 (r := rSortedT K) (fun X hX => by rw [← hX.eK]; exact cr_sortedT) (fun G H x dx Q Qv l px h q => by
    unfold fSortedT at h
    split at h
    case h_2 => exact h.elim
    rename_i ds es
    split at h
    case h_2 => exact h.elim
    rename_i ns en
    obtain ⟨p, vs, ex, s, t⟩ := px.tup l es
    rw [intsOf_ok en] at t
    have := dpa_ints t
    subst this
    refine ⟨p, ns, by rw [ex], s, fun ns' r h1 h2 nr => ?_⟩
    exact q _ _ _ _ _ (h ns' h1 h2) (Alloc.own (o := .lst (ns'.map V.int)) l nr) (.olist rfl upd_same (dpa_of_ints ns'))) boot_sorted hm hg ha hs
end
end Kb
namespace Lw
open PySem PySem.Spec PyProof.Rows L2 Kb
def topS (i : Nat) : Stmt := PySem.Challenge.pw_onemore_k18_whole_asks_exchanged.main.body.getD i (.Pass ⟨0, 0, 0, 0⟩)
structure Blt (mg : Str → Option Value) : Prop where
  b_abs : mg "abs" = none
  b_all : mg "all" = none
  b_bool : mg "bool" = none
  b_enumerate : mg "enumerate" = none
  b_int : mg "int" = none
  b_isinstance : mg "isinstance" = none
  b_len : mg "len" = none
  b_list : mg "list" = none
  b_max : mg "max" = none
  b_min : mg "min" = none
  b_range : mg "range" = none
  b_set : mg "set" = none
  b_sorted : mg "sorted" = none
  b_sum : mg "sum" = none
  b_tuple : mg "tuple" = none
  b_zip : mg "zip" = none
section
variable {P : Program} {w : World} {K : PySem.W.Frag} {mg : Str → Option Value} {base : Heap}
/-! is_whole -/
abbrev s_is_whole : Stmt := topS 8
abbrev n_is_whole : List Str := ["thing"]
theorem sc_is_whole : FnScope n_is_whole ["thing"] (defScope s_is_whole) := ⟨rfl, rfl, rfl, by decide +kernel, rfl, by decide +kernel, by decide +kernel⟩
def w_is_whole : WS :=
  (sRet (wAnd (w1 (fIsi "int") (oSlot 0)) (wNot (w1 (fIsi "bool") (oSlot 0)))))
theorem den_is_whole (Z : Blt mg) : DenB P w K mg base 0 n_is_whole ⟨defScope s_is_whole, fun _ => true⟩ [false] (defBody s_is_whole) (w_is_whole) :=
  (denb_one (dens_ret (den_and (den_isi (Tm := "int") (by decide +kernel) Z.b_isinstance (by decide +kernel) Z.b_int (by decide +kernel) (by decide +kernel) (den_oslot (i := 0) rfl (by decide +kernel))) (den_one (den_not (den_isi (Tm := "bool") (by decide +kernel) Z.b_isinstance (by decide +kernel) Z.b_bool (by decide +kernel) (by decide +kernel) (den_oslot (i := 0) rfl (by decide +kernel))))))))
/-! is_count -/
abbrev s_is_count : Stmt := topS 9
abbrev n_is_count : List Str := ["thing"]
theorem sc_is_count : FnScope n_is_count ["thing"] (defScope s_is_count) := ⟨rfl, rfl, rfl, by decide +kernel, rfl, by decide +kernel, by decide +kernel⟩
def w_is_count (f_is_whole : FS) : WS :=
  (sRet (wAnd (wCall [false] f_is_whole (aCons (wShare 0) aNil)) (w2 fGe (oSlot 0) (oVal (wC (.int 0))))))
theorem den_is_count (Z : Blt mg) {a_is_whole : Addr} {d_is_whole : FuncData} {f_is_whole : FS} (h_is_whole : Cal P w K mg base 1 "is_whole" a_is_whole d_is_whole ["thing"] [false] f_is_whole) : DenB P w K mg base 1 n_is_count ⟨defScope s_is_count, fun _ => true⟩ [false] (defBody s_is_count) (w_is_count f_is_whole) :=
  (denb_one (dens_ret (den_and (den_call h_is_whole (by decide) (by decide +kernel) (den_acons (den_share (i := 0) rfl (by decide +kernel)) den_anil)) (den_one (den_cmpR cmp_ge (den_oslot (i := 0) rfl (by decide +kernel)) (den_oval den_int))))))
/-! is_count_below -/
abbrev s_is_count_below : Stmt := topS 10
abbrev n_is_count_below : List Str := ["many", "thing"]
theorem sc_is_count_below : FnScope n_is_count_below ["many", "thing"] (defScope s_is_count_below) := ⟨rfl, rfl, rfl, by decide +kernel, rfl, by decide +kernel, by decide +kernel⟩
def w_is_count_below (f_is_count : FS) : WS :=
  (sRet (wAnd (wCall [false] f_is_count (aCons (wShare 1) aNil)) (w2 fLt (oSlot 1) (oSlot 0))))
theorem den_is_count_below (Z : Blt mg) {a_is_count : Addr} {d_is_count : FuncData} {f_is_count : FS} (h_is_count : Cal P w K mg base 2 "is_count" a_is_count d_is_count ["thing"] [false] f_is_count) : DenB P w K mg base 2 n_is_count_below ⟨defScope s_is_count_below, fun _ => true⟩ [false, false] (defBody s_is_count_below) (w_is_count_below f_is_count) :=
  (denb_one (dens_ret (den_and (den_call h_is_count (by decide) (by decide +kernel) (den_acons (den_share (i := 1) rfl (by decide +kernel)) den_anil)) (den_one (den_cmpR cmp_lt (den_oslot (i := 1) rfl (by decide +kernel)) (den_oslot (i := 0) rfl (by decide +kernel)))))))
/-! is_place -/
abbrev s_is_place : Stmt := topS 11
abbrev n_is_place : List Str := ["yard", "thing"]
theorem sc_is_place : FnScope n_is_place ["yard", "thing"] (defScope s_is_place) := ⟨rfl, rfl, rfl, by decide +kernel, rfl, by decide +kernel, by decide +kernel⟩
def w_is_place (f_is_count_below : FS) : WS :=
  (sRet (wCall [false, false] f_is_count_below (aCons (w1 fLen (oSlot 0)) (aCons (wMove 1) aNil))))
theorem den_is_place (Z : Blt mg) {a_is_count_below : Addr} {d_is_count_below : FuncData} {f_is_count_below : FS} (h_is_count_below : Cal P w K mg base 3 "is_count_below" a_is_count_below d_is_count_below ["many", "thing"] [false, false] f_is_count_below) : DenB P w K mg base 3 n_is_place ⟨defScope s_is_place, fun _ => true⟩ [false, false] (defBody s_is_place) (w_is_place f_is_count_below) :=
  (denb_one (dens_ret (den_call h_is_count_below (by decide) (by decide +kernel) (den_acons (den_len Z.b_len (by decide +kernel) (den_oslot (i := 0) rfl (by decide +kernel))) (den_acons (den_move (i := 1) rfl (by decide +kernel)) den_anil)))))
/-! is_number_of_ask -/
abbrev s_is_number_of_ask : Stmt := topS 12
abbrev n_is_number_of_ask : List Str := ["day", "thing"]
theorem sc_is_number_of_ask : FnScope n_is_number_of_ask ["day", "thing"] (defScope s_is_number_of_ask) := ⟨rfl, rfl, rfl, by decide +kernel, rfl, by decide +kernel, by decide +kernel⟩
def w_is_number_of_ask (f_is_count_below : FS) : WS :=
  (sRet (wCall [false, false] f_is_count_below (aCons (w1 fLen (oSlot 0)) (aCons (wMove 1) aNil))))
theorem den_is_number_of_ask (Z : Blt mg) {a_is_count_below : Addr} {d_is_count_below : FuncData} {f_is_count_below : FS} (h_is_count_below : Cal P w K mg base 3 "is_count_below" a_is_count_below d_is_count_below ["many", "thing"] [false, false] f_is_count_below) : DenB P w K mg base 3 n_is_number_of_ask ⟨defScope s_is_number_of_ask, fun _ => true⟩ [false, false] (defBody s_is_number_of_ask) (w_is_number_of_ask f_is_count_below) :=
  (denb_one (dens_ret (den_call h_is_count_below (by decide) (by decide +kernel) (den_acons (den_len Z.b_len (by decide +kernel) (den_oslot (i := 0) rfl (by decide +kernel))) (den_acons (den_move (i := 1) rfl (by decide +kernel)) den_anil)))))
/-! is_yard -/
abbrev s_is_yard : Stmt := topS 13
abbrev n_is_yard : List Str := ["thing", "room"]
theorem sc_is_yard : FnScope n_is_yard ["thing"] (defScope s_is_yard) := ⟨rfl, rfl, rfl, by decide +kernel, rfl, by decide +kernel, by decide +kernel⟩
def w_is_yard (f_is_count : FS) : WS :=
  (sSeq (sIf (tOr' (tNot' (tOf (w1 (fIsi "tuple") (oSlot 0)))) (tNot' (tOf (w3 fLe fLe (oVal (wC (.int 1))) (oVal (w1 fLen (oSlot 0))) (oVal (wC (.int 9))))))) (sRet (wC (.bool false))) sNil)
  (sRet (w1 fAll (oVal (wComp (iVal (wMove 0)) (gNm 1) tYes' (wOr (w1 fIsN (oSlot 1)) (wCall [false] f_is_count (aCons (wShare 1) aNil))) [1])))))
theorem den_is_yard (Z : Blt mg) {a_is_count : Addr} {d_is_count : FuncData} {f_is_count : FS} (h_is_count : Cal P w K mg base 2 "is_count" a_is_count d_is_count ["thing"] [false] f_is_count) {t_MOST_PLACES : Tok} (h_MOST_PLACES : mg "MOST_PLACES" = some (.int 9 t_MOST_PLACES)) : DenB P w K mg base 2 n_is_yard ⟨defScope s_is_yard, fun _ => true⟩ [false] (defBody s_is_yard) (w_is_yard f_is_count) :=
  (denb_cons (dens_if (dent_of (denw_or (dent_not (dent_val (den_isi (Tm := "tuple") (by decide +kernel) Z.b_isinstance (by decide +kernel) Z.b_tuple (by decide +kernel) (by decide +kernel) (den_oslot (i := 0) rfl (by decide +kernel))))) (denw_or1 (dent_not (dent_chain cmp_le cmp_le (den_oval den_int) (den_oval (den_len Z.b_len (by decide +kernel) (den_oslot (i := 0) rfl (by decide +kernel)))) (den_oval (den_globI h_MOST_PLACES (by decide +kernel)))))))) (denb_one (dens_ret den_bl)) denb_nil)
    (denb_one (dens_ret (den_all Z.b_all (by decide +kernel) (den_oval (den_comp (own := [("room", 1)]) rfl (by decide +kernel) (deni_seq (den_move (i := 0) rfl (by decide +kernel))) (comp_nm (i := 1) rfl (by decide +kernel) (by decide) dents_nil (den_or (den_isN (den_oslot (i := 1) rfl (by decide +kernel))) (den_one (den_call h_is_count (by decide) (by decide +kernel) (den_acons (den_share (i := 1) rfl (by decide +kernel)) den_anil)))))))))))
/-! fits -/
abbrev s_fits : Stmt := topS 14
abbrev n_fits : List Str := ["room", "many"]
theorem sc_fits : FnScope n_fits ["room", "many"] (defScope s_fits) := ⟨rfl, rfl, rfl, by decide +kernel, rfl, by decide +kernel, by decide +kernel⟩
def w_fits (f_is_count : FS) : WS :=
  (sRet (wAnd (wCall [false] f_is_count (aCons (wShare 1) aNil)) (wOr (w1 fIsN (oSlot 0)) (w2 fLe (oSlot 1) (oSlot 0)))))
theorem den_fits (Z : Blt mg) {a_is_count : Addr} {d_is_count : FuncData} {f_is_count : FS} (h_is_count : Cal P w K mg base 2 "is_count" a_is_count d_is_count ["thing"] [false] f_is_count) : DenB P w K mg base 2 n_fits ⟨defScope s_fits, fun _ => true⟩ [false, false] (defBody s_fits) (w_fits f_is_count) :=
  (denb_one (dens_ret (den_and (den_call h_is_count (by decide) (by decide +kernel) (den_acons (den_share (i := 1) rfl (by decide +kernel)) den_anil)) (den_one (den_or (den_isN (den_oslot (i := 0) rfl (by decide +kernel))) (den_one (den_cmpR cmp_le (den_oslot (i := 1) rfl (by decide +kernel)) (den_oslot (i := 0) rfl (by decide +kernel)))))))))
/-! is_standing -/
abbrev s_is_standing : Stmt := topS 15
abbrev n_is_standing : List Str := ["yard", "thing", "room", "many"]
theorem sc_is_standing : FnScope n_is_standing ["yard", "thing"] (defScope s_is_standing) := ⟨rfl, rfl, rfl, by decide +kernel, rfl, by decide +kernel, by decide +kernel⟩
def w_is_standing (f_check_yard : FS) (f_fits : FS) : WS :=
  (sSeq (sExpr (wCall [false] f_check_yard (aCons (wShare 0) aNil)))
  (sSeq (sIf (tOr' (tNot' (tOf (w1 (fIsi "tuple") (oSlot 1)))) (tOf (w2 fNe (oVal (w1 fLen (oSlot 1))) (oVal (w1 fLen (oSlot 0)))))) (sRet (wC (.bool false))) sNil)
  (sRet (w1 fAll (oVal (wComp (iZp (wMove 0) (wMove 1)) (gTp [2, 3]) tYes' (wCall [false, false] f_fits (aCons (wShare 2) (aCons (wShare 3) aNil))) [2, 3]))))))
theorem den_is_standing (Z : Blt mg) {a_check_yard : Addr} {d_check_yard : FuncData} {f_check_yard : FS} (h_check_yard : Cal P w K mg base 4 "check_yard" a_check_yard d_check_yard ["yard"] [false] f_check_yard) {a_fits : Addr} {d_fits : FuncData} {f_fits : FS} (h_fits : Cal P w K mg base 3 "fits" a_fits d_fits ["room", "many"] [false, false] f_fits) : DenB P w K mg base 4 n_is_standing ⟨defScope s_is_standing, fun _ => true⟩ [false, false] (defBody s_is_standing) (w_is_standing f_check_yard f_fits) :=
  (denb_cons (dens_expr (den_call h_check_yard (by decide) (by decide +kernel) (den_acons (den_share (i := 0) rfl (by decide +kernel)) den_anil)))
    (denb_cons (dens_if (dent_of (denw_or (dent_not (dent_val (den_isi (Tm := "tuple") (by decide +kernel) Z.b_isinstance (by decide +kernel) Z.b_tuple (by decide +kernel) (by decide +kernel) (den_oslot (i := 1) rfl (by decide +kernel))))) (denw_or1 (dent_cmpR cmp_ne (den_oval (den_len Z.b_len (by decide +kernel) (den_oslot (i := 1) rfl (by decide +kernel)))) (den_oval (den_len Z.b_len (by decide +kernel) (den_oslot (i := 0) rfl (by decide +kernel)))))))) (denb_one (dens_ret den_bl)) denb_nil)
    (denb_one (dens_ret (den_all Z.b_all (by decide +kernel) (den_oval (den_comp (own := [("room", 2), ("many", 3)]) rfl (by decide +kernel) (deni_zip Z.b_zip (by decide +kernel) (den_move (i := 0) rfl (by decide +kernel)) (den_move (i := 1) rfl (by decide +kernel))) (comp_tp (js := [2, 3]) (fun X hX => pg_tup hX.calm (pgs_nm1 (i := 2) hX rfl (by decide +kernel) (pgs_nm1 (i := 3) hX rfl (by decide +kernel) pgs_nm0))) (by decide) dents_nil (den_call h_fits (by decide) (by decide +kernel) (den_acons (den_share (i := 2) rfl (by decide +kernel)) (den_acons (den_share (i := 3) rfl (by decide +kernel)) den_anil)))))))))))
/-! are_unlike_places -/
abbrev s_are_unlike_places : Stmt := topS 16
abbrev n_are_unlike_places : List Str := ["yard", "thing", "place"]
theorem sc_are_unlike_places : FnScope n_are_unlike_places ["yard", "thing"] (defScope s_are_unlike_places) := ⟨rfl, rfl, rfl, by decide +kernel, rfl, by decide +kernel, by decide +kernel⟩
def w_are_unlike_places (f_is_place : FS) : WS :=
  (sSeq (sIf (tNot' (tOf (w1 (fIsi "tuple") (oSlot 1)))) (sRet (wC (.bool false))) sNil)
  (sRet (wAnd (w1 fAll (oVal (wComp (iVal (wShare 1)) (gNm 2) tYes' (wCall [false, false] f_is_place (aCons (wShare 0) (aCons (wShare 2) aNil))) [2]))) (w2 fEq (oVal (w1 fLenSet (oSlot 1))) (oVal (w1 fLen (oSlot 1)))))))
theorem den_are_unlike_places (Z : Blt mg) {a_is_place : Addr} {d_is_place : FuncData} {f_is_place : FS} (h_is_place : Cal P w K mg base 4 "is_place" a_is_place d_is_place ["yard", "thing"] [false, false] f_is_place) : DenB P w K mg base 4 n_are_unlike_places ⟨defScope s_are_unlike_places, fun _ => true⟩ [false, false] (defBody s_are_unlike_places) (w_are_unlike_places f_is_place) :=
  (denb_cons (dens_if (dent_not (dent_val (den_isi (Tm := "tuple") (by decide +kernel) Z.b_isinstance (by decide +kernel) Z.b_tuple (by decide +kernel) (by decide +kernel) (den_oslot (i := 1) rfl (by decide +kernel))))) (denb_one (dens_ret den_bl)) denb_nil)
    (denb_one (dens_ret (den_and (den_all Z.b_all (by decide +kernel) (den_oval (den_comp (own := [("place", 2)]) rfl (by decide +kernel) (deni_seq (den_share (i := 1) rfl (by decide +kernel))) (comp_nm (i := 2) rfl (by decide +kernel) (by decide) dents_nil (den_call h_is_place (by decide) (by decide +kernel) (den_acons (den_share (i := 0) rfl (by decide +kernel)) (den_acons (den_share (i := 2) rfl (by decide +kernel)) den_anil))))))) (den_one (den_cmpR cmp_eq (den_oval (den_lenSet Z.b_len (by decide +kernel) Z.b_set (by decide +kernel) (den_oslot (i := 1) rfl (by decide +kernel)))) (den_oval (den_len Z.b_len (by decide +kernel) (den_oslot (i := 1) rfl (by decide +kernel))))))))))
/-! is_ask -/
abbrev s_is_ask : Stmt := topS 17
abbrev n_is_ask : List Str := ["yard", "thing"]
theorem sc_is_ask : FnScope n_is_ask ["yard", "thing"] (defScope s_is_ask) := ⟨rfl, rfl, rfl, by decide +kernel, rfl, by decide +kernel, by decide +kernel⟩
def w_is_ask (f_are_unlike_places : FS) : WS :=
  (sSeq (sIf (tOr' (tNot' (tOf (w1 (fIsi "tuple") (oSlot 1)))) (tOf (w2 fNe (oVal (w1 fLen (oSlot 1))) (oVal (wC (.int 2)))))) (sRet (wC (.bool false))) sNil)
  (sRet (wAnd (wCall [false, false] f_are_unlike_places (aCons (wShare 0) (aCons (w2 fIx (oSlot 1) (oVal (wC (.int 0)))) aNil))) (wCall [false, false] f_are_unlike_places (aCons (wShare 0) (aCons (w2 fIx (oSlot 1) (oVal (wC (.int 1)))) aNil))))))
theorem den_is_ask (Z : Blt mg) {a_are_unlike_places : Addr} {d_are_unlike_places : FuncData} {f_are_unlike_places : FS} (h_are_unlike_places : Cal P w K mg base 5 "are_unlike_places" a_are_unlike_places d_are_unlike_places ["yard", "thing"] [false, false] f_are_unlike_places) : DenB P w K mg base 5 n_is_ask ⟨defScope s_is_ask, fun _ => true⟩ [false, false] (defBody s_is_ask) (w_is_ask f_are_unlike_places) :=
  (denb_cons (dens_if (dent_of (denw_or (dent_not (dent_val (den_isi (Tm := "tuple") (by decide +kernel) Z.b_isinstance (by decide +kernel) Z.b_tuple (by decide +kernel) (by decide +kernel) (den_oslot (i := 1) rfl (by decide +kernel))))) (denw_or1 (dent_cmpR cmp_ne (den_oval (den_len Z.b_len (by decide +kernel) (den_oslot (i := 1) rfl (by decide +kernel)))) (den_oval den_int))))) (denb_one (dens_ret den_bl)) denb_nil)
    (denb_one (dens_ret (den_and (den_call h_are_unlike_places (by decide) (by decide +kernel) (den_acons (den_share (i := 0) rfl (by decide +kernel)) (den_acons (den_at (den_oslot (i := 1) rfl (by decide +kernel)) (den_oval den_int)) den_anil))) (den_one (den_call h_are_unlike_places (by decide) (by decide +kernel) (den_acons (den_share (i := 0) rfl (by decide +kernel)) (den_acons (den_at (den_oslot (i := 1) rfl (by decide +kernel)) (den_oval den_int)) den_anil))))))))
/-! is_day -/
abbrev s_is_day : Stmt := topS 18
abbrev n_is_day : List Str := ["yard", "thing", "ask"]
theorem sc_is_day : FnScope n_is_day ["yard", "thing"] (defScope s_is_day) := ⟨rfl, rfl, rfl, by decide +kernel, rfl, by decide +kernel, by decide +kernel⟩
def w_is_day (f_check_yard : FS) (f_is_ask : FS) : WS :=
  (sSeq (sExpr (wCall [false] f_check_yard (aCons (wShare 0) aNil)))
  (sRet (wAnd (w1 (fIsi "list") (oSlot 1)) (w1 fAll (oVal (wComp (iVal (wShare 1)) (gNm 2) tYes' (wCall [false, false] f_is_ask (aCons (wShare 0) (aCons (wShare 2) aNil))) [2]))))))
theorem den_is_day (Z : Blt mg) {a_check_yard : Addr} {d_check_yard : FuncData} {f_check_yard : FS} (h_check_yard : Cal P w K mg base 4 "check_yard" a_check_yard d_check_yard ["yard"] [false] f_check_yard) {a_is_ask : Addr} {d_is_ask : FuncData} {f_is_ask : FS} (h_is_ask : Cal P w K mg base 6 "is_ask" a_is_ask d_is_ask ["yard", "thing"] [false, false] f_is_ask) : DenB P w K mg base 6 n_is_day ⟨defScope s_is_day, fun _ => true⟩ [false, false] (defBody s_is_day) (w_is_day f_check_yard f_is_ask) :=
  (denb_cons (dens_expr (den_call h_check_yard (by decide) (by decide +kernel) (den_acons (den_share (i := 0) rfl (by decide +kernel)) den_anil)))
    (denb_one (dens_ret (den_and (den_isi (Tm := "list") (by decide +kernel) Z.b_isinstance (by decide +kernel) Z.b_list (by decide +kernel) (by decide +kernel) (den_oslot (i := 1) rfl (by decide +kernel))) (den_one (den_all Z.b_all (by decide +kernel) (den_oval (den_comp (own := [("ask", 2)]) rfl (by decide +kernel) (deni_seq (den_share (i := 1) rfl (by decide +kernel))) (comp_nm (i := 2) rfl (by decide +kernel) (by decide) dents_nil (den_call h_is_ask (by decide) (by decide +kernel) (den_acons (den_share (i := 0) rfl (by decide +kernel)) (den_acons (den_share (i := 2) rfl (by decide +kernel)) den_anil))))))))))))
/-! check_yard -/
abbrev s_check_yard : Stmt := topS 19
abbrev n_check_yard : List Str := ["yard"]
theorem sc_check_yard : FnScope n_check_yard ["yard"] (defScope s_check_yard) := ⟨rfl, rfl, rfl, by decide +kernel, rfl, by decide +kernel, by decide +kernel⟩
def w_check_yard (f_is_yard : FS) : WS :=
  (sIf (tNot' (tOf (wCall [false] f_is_yard (aCons (wShare 0) aNil)))) sNever sNil)
theorem den_check_yard (Z : Blt mg) {a_is_yard : Addr} {d_is_yard : FuncData} {f_is_yard : FS} (h_is_yard : Cal P w K mg base 3 "is_yard" a_is_yard d_is_yard ["thing"] [false] f_is_yard) : DenB P w K mg base 3 n_check_yard ⟨defScope s_check_yard, fun _ => true⟩ [false] (defBody s_check_yard) (w_check_yard f_is_yard) :=
  (denb_one (dens_if (dent_not (dent_val (den_call h_is_yard (by decide) (by decide +kernel) (den_acons (den_share (i := 0) rfl (by decide +kernel)) den_anil)))) (denb_one dens_never) denb_nil))
/-! check_standing -/
abbrev s_check_standing : Stmt := topS 20
abbrev n_check_standing : List Str := ["yard", "standing"]
theorem sc_check_standing : FnScope n_check_standing ["yard", "standing"] (defScope s_check_standing) := ⟨rfl, rfl, rfl, by decide +kernel, rfl, by decide +kernel, by decide +kernel⟩
def w_check_standing (f_is_standing : FS) : WS :=
  (sIf (tNot' (tOf (wCall [false, false] f_is_standing (aCons (wShare 0) (aCons (wShare 1) aNil))))) sNever sNil)
theorem den_check_standing (Z : Blt mg) {a_is_standing : Addr} {d_is_standing : FuncData} {f_is_standing : FS} (h_is_standing : Cal P w K mg base 5 "is_standing" a_is_standing d_is_standing ["yard", "thing"] [false, false] f_is_standing) : DenB P w K mg base 5 n_check_standing ⟨defScope s_check_standing, fun _ => true⟩ [false, false] (defBody s_check_standing) (w_check_standing f_is_standing) :=
  (denb_one (dens_if (dent_not (dent_val (den_call h_is_standing (by decide) (by decide +kernel) (den_acons (den_share (i := 0) rfl (by decide +kernel)) (den_acons (den_share (i := 1) rfl (by decide +kernel)) den_anil))))) (denb_one dens_never) denb_nil))
/-! check_day -/
abbrev s_check_day : Stmt := topS 21
abbrev n_check_day : List Str := ["yard", "day"]
theorem sc_check_day : FnScope n_check_day ["yard", "day"] (defScope s_check_day) := ⟨rfl, rfl, rfl, by decide +kernel, rfl, by decide +kernel, by decide +kernel⟩
def w_check_day (f_is_day : FS) : WS :=
  (sIf (tNot' (tOf (wCall [false, false] f_is_day (aCons (wShare 0) (aCons (wShare 1) aNil))))) sNever sNil)
theorem den_check_day (Z : Blt mg) {a_is_day : Addr} {d_is_day : FuncData} {f_is_day : FS} (h_is_day : Cal P w K mg base 7 "is_day" a_is_day d_is_day ["yard", "thing"] [false, false] f_is_day) : DenB P w K mg base 7 n_check_day ⟨defScope s_check_day, fun _ => true⟩ [false, false] (defBody s_check_day) (w_check_day f_is_day) :=
  (denb_one (dens_if (dent_not (dent_val (den_call h_is_day (by decide) (by decide +kernel) (den_acons (den_share (i := 0) rfl (by decide +kernel)) (den_acons (den_share (i := 1) rfl (by decide +kernel)) den_anil))))) (denb_one dens_never) denb_nil))
/-! check_day_from -/
abbrev s_check_day_from : Stmt := topS 22
abbrev n_check_day_from : List Str := ["yard", "standing", "day"]
theorem sc_check_day_from : FnScope n_check_day_from ["yard", "standing", "day"] (defScope s_check_day_from) := ⟨rfl, rfl, rfl, by decide +kernel, rfl, by decide +kernel, by decide +kernel⟩
def w_check_day_from (f_check_yard : FS) (f_check_standing : FS) (f_check_day : FS) : WS :=
  (sSeq (sExpr (wCall [false] f_check_yard (aCons (wShare 0) aNil)))
  (sSeq (sExpr (wCall [false, false] f_check_standing (aCons (wShare 0) (aCons (wShare 1) aNil))))
  (sExpr (wCall [false, false] f_check_day (aCons (wShare 0) (aCons (wShare 2) aNil))))))
theorem den_check_day_from (Z : Blt mg) {a_check_yard : Addr} {d_check_yard : FuncData} {f_check_yard : FS} (h_check_yard : Cal P w K mg base 4 "check_yard" a_check_yard d_check_yard ["yard"] [false] f_check_yard) {a_check_standing : Addr} {d_check_standing : FuncData} {f_check_standing : FS} (h_check_standing : Cal P w K mg base 6 "check_standing" a_check_standing d_check_standing ["yard", "standing"] [false, false] f_check_standing) {a_check_day : Addr} {d_check_day : FuncData} {f_check_day : FS} (h_check_day : Cal P w K mg base 8 "check_day" a_check_day d_check_day ["yard", "day"] [false, false] f_check_day) : DenB P w K mg base 8 n_check_day_from ⟨defScope s_check_day_from, fun _ => true⟩ [false, false, false] (defBody s_check_day_from) (w_check_day_from f_check_yard f_check_standing f_check_day) :=
  (denb_cons (dens_expr (den_call h_check_yard (by decide) (by decide +kernel) (den_acons (den_share (i := 0) rfl (by decide +kernel)) den_anil)))
    (denb_cons (dens_expr (den_call h_check_standing (by decide) (by decide +kernel) (den_acons (den_share (i := 0) rfl (by decide +kernel)) (den_acons (den_share (i := 1) rfl (by decide +kernel)) den_anil))))
    (denb_one (dens_expr (den_call h_check_day (by decide) (by decide +kernel) (den_acons (den_share (i := 0) rfl (by decide +kernel)) (den_acons (den_share (i := 2) rfl (by decide +kernel)) den_anil)))))))
/-! has_room -/
abbrev s_has_room : Stmt := topS 23
abbrev n_has_room : List Str := ["yard", "lying", "place", "room"]
theorem sc_has_room : FnScope n_has_room ["yard", "lying", "place"] (defScope s_has_room) := ⟨rfl, rfl, rfl, by decide +kernel, rfl, by decide +kernel, by decide +kernel⟩
def w_has_room : WS :=
  (sSeq (sAsg (w2 fIx (oSlot 0) (oSlot 2)) (gNm 3))
  (sRet (wOr (w1 fIsN (oSlot 3)) (w2 fLt (oVal (w2 fIx (oSlot 1) (oSlot 2))) (oSlot 3)))))
theorem den_has_room (Z : Blt mg) : DenB P w K mg base 0 n_has_room ⟨defScope s_has_room, fun _ => true⟩ [false, true, false] (defBody s_has_room) (w_has_room) :=
  (denb_cons (dens_set (i := 3) rfl (by decide +kernel) rfl (den_at (den_oslot (i := 0) rfl (by decide +kernel)) (den_oslot (i := 2) rfl (by decide +kernel))))
    (denb_one (dens_ret (den_or (den_isN (den_oslot (i := 3) rfl (by decide +kernel))) (den_one (den_cmpR cmp_lt (den_oval (den_at (den_oslot (i := 1) rfl (by decide +kernel)) (den_oslot (i := 2) rfl (by decide +kernel)))) (den_oslot (i := 3) rfl (by decide +kernel))))))))
/-! first_with_thing -/
abbrev s_first_with_thing : Stmt := topS 24
abbrev n_first_with_thing : List Str := ["lying", "wants", "place"]
theorem sc_first_with_thing : FnScope n_first_with_thing ["lying", "wants"] (defScope s_first_with_thing) := ⟨rfl, rfl, rfl, by decide +kernel, rfl, by decide +kernel, by decide +kernel⟩
def w_first_with_thing : WS :=
  (sSeq (sFor (iVal (wShare 1)) (gNm 2) (sIf (tOf (w2 fGt (oVal (w2 fIx (oSlot 0) (oSlot 2))) (oVal (wC (.int 0))))) (sRet (wMove 2)) sNil))
  (sRet (wC .none)))
theorem den_first_with_thing (Z : Blt mg) : DenB P w K mg base 0 n_first_with_thing ⟨defScope s_first_with_thing, fun _ => true⟩ [true, false] (defBody s_first_with_thing) (w_first_with_thing) :=
  (denb_cons (dens_for (deni_seq (den_share (i := 1) rfl (by decide +kernel))) (deng_nm (i := 2) rfl (by decide +kernel) rfl) (denb_one (dens_if (dent_cmpR cmp_gt (den_oval (den_at (den_oslot (i := 0) rfl (by decide +kernel)) (den_oslot (i := 2) rfl (by decide +kernel)))) (den_oval den_int)) (denb_one (dens_ret (den_move (i := 2) rfl (by decide +kernel)))) denb_nil)))
    (denb_one (dens_ret den_non)))
/-! first_with_room -/
abbrev s_first_with_room : Stmt := topS 25
abbrev n_first_with_room : List Str := ["yard", "lying", "leaves", "place"]
theorem sc_first_with_room : FnScope n_first_with_room ["yard", "lying", "leaves"] (defScope s_first_with_room) := ⟨rfl, rfl, rfl, by decide +kernel, rfl, by decide +kernel, by decide +kernel⟩
def w_first_with_room (f_has_room : FS) : WS :=
  (sSeq (sFor (iVal (wShare 2)) (gNm 3) (sIf (tOf (wCall [false, true, false] f_has_room (aCons (wShare 0) (aBor 1 (aCons (wShare 3) aNil))))) (sRet (wMove 3)) sNil))
  (sRet (wC .none)))
theorem den_first_with_room (Z : Blt mg) {a_has_room : Addr} {d_has_room : FuncData} {f_has_room : FS} (h_has_room : Cal P w K mg base 1 "has_room" a_has_room d_has_room ["yard", "lying", "place"] [false, true, false] f_has_room) : DenB P w K mg base 1 n_first_with_room ⟨defScope s_first_with_room, fun _ => true⟩ [false, true, false] (defBody s_first_with_room) (w_first_with_room f_has_room) :=
  (denb_cons (dens_for (deni_seq (den_share (i := 2) rfl (by decide +kernel))) (deng_nm (i := 3) rfl (by decide +kernel) rfl) (denb_one (dens_if (dent_val (den_call h_has_room (by decide) (by decide +kernel) (den_acons (den_share (i := 0) rfl (by decide +kernel)) (den_abor (i := 1) rfl (by decide +kernel) (den_acons (den_share (i := 3) rfl (by decide +kernel)) den_anil))))) (denb_one (dens_ret (den_move (i := 3) rfl (by decide +kernel)))) denb_nil)))
    (denb_one (dens_ret den_non)))
/-! serve -/
abbrev s_serve : Stmt := topS 26
abbrev n_serve : List Str := ["yard", "lying", "ask", "place", "other", "wants", "leaves"]
theorem sc_serve : FnScope n_serve ["yard", "lying", "ask"] (defScope s_serve) := ⟨rfl, rfl, rfl, by decide +kernel, rfl, by decide +kernel, by decide +kernel⟩
def w_serve (f_first_with_thing : FS) (f_first_with_room : FS) : WS :=
  (sSeq (sAsg (wShare 2) (gTp [5, 6]))
  (sSeq (sAsg (wCall [true, false] f_first_with_thing (aBor 1 (aCons (wShare 5) aNil))) (gNm 3))
  (sSeq (sIf (tOf (w1 fIsN (oSlot 3))) (sRet (wC .none)) sNil)
  (sSeq (sAugIx (fun i j => i - j) 1 (wShare 3) (wC (.int 1)))
  (sSeq (sAsg (wCall [false, true, false] f_first_with_room (aCons (wShare 0) (aBor 1 (aCons (wShare 6) aNil)))) (gNm 4))
  (sSeq (sIf (tOf (w1 fNotN (oSlot 4))) (sAugIx (fun i j => i + j) 1 (wShare 4) (wC (.int 1))) sNil)
  (sRet (wTup (aCons (wMove 3) (aCons (wMove 4) aNil))))))))))
theorem den_serve (Z : Blt mg) {a_first_with_thing : Addr} {d_first_with_thing : FuncData} {f_first_with_thing : FS} (h_first_with_thing : Cal P w K mg base 1 "first_with_thing" a_first_with_thing d_first_with_thing ["lying", "wants"] [true, false] f_first_with_thing) {a_first_with_room : Addr} {d_first_with_room : FuncData} {f_first_with_room : FS} (h_first_with_room : Cal P w K mg base 2 "first_with_room" a_first_with_room d_first_with_room ["yard", "lying", "leaves"] [false, true, false] f_first_with_room) : DenB P w K mg base 2 n_serve ⟨defScope s_serve, fun _ => true⟩ [false, true, false] (defBody s_serve) (w_serve f_first_with_thing f_first_with_room) :=
  (denb_cons (dens_asg (den_share (i := 2) rfl (by decide +kernel)) (deng_tp (is := [5, 6]) (fun X hX => (pgs_nm1 (i := 5) hX rfl (by decide +kernel) (pgs_nm1 (i := 6) hX rfl (by decide +kernel) pgs_nm0))) rfl (by decide) (fun X hX h => pg_tup hX.calm h)))
    (denb_cons (dens_set (i := 3) rfl (by decide +kernel) rfl (den_call h_first_with_thing (by decide) (by decide +kernel) (den_abor (i := 1) rfl (by decide +kernel) (den_acons (den_share (i := 5) rfl (by decide +kernel)) den_anil))))
    (denb_cons (dens_if (dent_isN (den_oslot (i := 3) rfl (by decide +kernel))) (denb_one (dens_ret den_non)) denb_nil)
    (denb_cons (dens_augIx (g := fun i j => i - j) (i := 1) (fun _ => ip_sub) rfl (by decide +kernel) (den_share (i := 3) rfl (by decide +kernel)) den_int (fun X to ti te h1 h2 h3 => ps_augS h1 h2 pget_list h3 ip_sub set_list))
    (denb_cons (dens_set (i := 4) rfl (by decide +kernel) rfl (den_call h_first_with_room (by decide) (by decide +kernel) (den_acons (den_share (i := 0) rfl (by decide +kernel)) (den_abor (i := 1) rfl (by decide +kernel) (den_acons (den_share (i := 6) rfl (by decide +kernel)) den_anil)))))
    (denb_cons (dens_if (dent_notN (den_oslot (i := 4) rfl (by decide +kernel))) (denb_one (dens_augIx (g := fun i j => i + j) (i := 1) (fun _ => ip_add) rfl (by decide +kernel) (den_share (i := 4) rfl (by decide +kernel)) den_int (fun X to ti te h1 h2 h3 => ps_augS h1 h2 pget_list h3 ip_add set_list))) denb_nil)
    (denb_one (dens_ret (den_tup (den_acons (den_move (i := 3) rfl (by decide +kernel)) (den_acons (den_move (i := 4) rfl (by decide +kernel)) den_anil)))))))))))
/-! gone -/
abbrev s_gone : Stmt := topS 27
abbrev n_gone : List Str := ["yard", "standing", "day", "lying", "log", "ask"]
theorem sc_gone : FnScope n_gone ["yard", "standing", "day"] (defScope s_gone) := ⟨rfl, rfl, rfl, by decide +kernel, rfl, by decide +kernel, by decide +kernel⟩
def w_gone (f_serve : FS) : WS :=
  (sSeq (sAsg (w1 fList (oSlot 1)) (gNm 3))
  (sSeq (sAsg (wLst aNil) (gNm 4))
  (sSeq (sFor (iVal (wShare 2)) (gNm 5) (sExpr (wAppend 4 (wCall [false, true, false] f_serve (aCons (wShare 0) (aBor 3 (aCons (wShare 5) aNil)))))))
  (sRet (wTup (aCons (wMove 4) (aCons (w1 fTuple (oSlot 3)) aNil)))))))
theorem den_gone (Z : Blt mg) {a_serve : Addr} {d_serve : FuncData} {f_serve : FS} (h_serve : Cal P w K mg base 3 "serve" a_serve d_serve ["yard", "lying", "ask"] [false, true, false] f_serve) : DenB P w K mg base 3 n_gone ⟨defScope s_gone, fun _ => true⟩ [false, false, false] (defBody s_gone) (w_gone f_serve) :=
  (denb_cons (dens_set (i := 3) rfl (by decide +kernel) rfl (den_list Z.b_list (by decide +kernel) (den_oslot (i := 1) rfl (by decide +kernel))))
    (denb_cons (dens_set (i := 4) rfl (by decide +kernel) rfl (den_lst den_anil))
    (denb_cons (dens_for (deni_seq (den_share (i := 2) rfl (by decide +kernel))) (deng_nm (i := 5) rfl (by decide +kernel) rfl) (denb_one (dens_expr (den_append (i := 4) rfl (by decide +kernel) (den_call h_serve (by decide) (by decide +kernel) (den_acons (den_share (i := 0) rfl (by decide +kernel)) (den_abor (i := 3) rfl (by decide +kernel) (den_acons (den_share (i := 5) rfl (by decide +kernel)) den_anil))))))))
    (denb_one (dens_ret (den_tup (den_acons (den_move (i := 4) rfl (by decide +kernel)) (den_acons (den_tuple Z.b_tuple (by decide +kernel) (den_oslot (i := 3) rfl (by decide +kernel))) den_anil))))))))
/-! go -/
abbrev s_go : Stmt := topS 28
abbrev n_go : List Str := ["yard", "standing", "day"]
theorem sc_go : FnScope n_go ["yard", "standing", "day"] (defScope s_go) := ⟨rfl, rfl, rfl, by decide +kernel, rfl, by decide +kernel, by decide +kernel⟩
def w_go (f_check_day_from : FS) (f_gone : FS) : WS :=
  (sSeq (sExpr (wCall [false, false, false] f_check_day_from (aCons (wShare 0) (aCons (wShare 1) (aCons (wShare 2) aNil)))))
  (sRet (wCall [false, false, false] f_gone (aCons (wMove 0) (aCons (wMove 1) (aCons (wMove 2) aNil))))))
theorem den_go (Z : Blt mg) {a_check_day_from : Addr} {d_check_day_from : FuncData} {f_check_day_from : FS} (h_check_day_from : Cal P w K mg base 9 "check_day_from" a_check_day_from d_check_day_from ["yard", "standing", "day"] [false, false, false] f_check_day_from) {a_gone : Addr} {d_gone : FuncData} {f_gone : FS} (h_gone : Cal P w K mg base 4 "gone" a_gone d_gone ["yard", "standing", "day"] [false, false, false] f_gone) : DenB P w K mg base 9 n_go ⟨defScope s_go, fun _ => true⟩ [false, false, false] (defBody s_go) (w_go f_check_day_from f_gone) :=
  (denb_cons (dens_expr (den_call h_check_day_from (by decide) (by decide +kernel) (den_acons (den_share (i := 0) rfl (by decide +kernel)) (den_acons (den_share (i := 1) rfl (by decide +kernel)) (den_acons (den_share (i := 2) rfl (by decide +kernel)) den_anil)))))
    (denb_one (dens_ret (den_call h_gone (by decide) (by decide +kernel) (den_acons (den_move (i := 0) rfl (by decide +kernel)) (den_acons (den_move (i := 1) rfl (by decide +kernel)) (den_acons (den_move (i := 2) rfl (by decide +kernel)) den_anil)))))))
/-! served -/
abbrev s_served : Stmt := topS 29
abbrev n_served : List Str := ["yard", "standing", "day", "log", "_", "number", "row"]
theorem sc_served : FnScope n_served ["yard", "standing", "day"] (defScope s_served) := ⟨rfl, rfl, rfl, by decide +kernel, rfl, by decide +kernel, by decide +kernel⟩
def w_served (f_go : FS) : WS :=
  (sSeq (sAsg (wCall [false, false, false] f_go (aCons (wShare 0) (aCons (wShare 1) (aCons (wShare 2) aNil)))) (gTp [3, 4]))
  (sRet (wComp (iEnu (wMove 3)) (gTp [5, 6]) (tOf (w1 fNotN (oSlot 6))) (wShare 5) [5, 6])))
theorem den_served (Z : Blt mg) {a_go : Addr} {d_go : FuncData} {f_go : FS} (h_go : Cal P w K mg base 10 "go" a_go d_go ["yard", "standing", "day"] [false, false, false] f_go) : DenB P w K mg base 10 n_served ⟨defScope s_served, fun _ => true⟩ [false, false, false] (defBody s_served) (w_served f_go) :=
  (denb_cons (dens_asg (den_call h_go (by decide) (by decide +kernel) (den_acons (den_share (i := 0) rfl (by decide +kernel)) (den_acons (den_share (i := 1) rfl (by decide +kernel)) (den_acons (den_share (i := 2) rfl (by decide +kernel)) den_anil)))) (deng_tp (is := [3, 4]) (fun X hX => (pgs_nm1 (i := 3) hX rfl (by decide +kernel) (pgs_nm1 (i := 4) hX rfl (by decide +kernel) pgs_nm0))) rfl (by decide) (fun X hX h => pg_tup hX.calm h)))
    (denb_one (dens_ret (den_comp (own := [("number", 5), ("row", 6)]) rfl (by decide +kernel) (deni_enum Z.b_enumerate (by decide +kernel) (den_move (i := 3) rfl (by decide +kernel))) (comp_tp (js := [5, 6]) (fun X hX => pg_tup hX.calm (pgs_nm1 (i := 5) hX rfl (by decide +kernel) (pgs_nm1 (i := 6) hX rfl (by decide +kernel) pgs_nm0))) (by decide) (dents_one (dent_notN (den_oslot (i := 6) rfl (by decide +kernel)))) (den_share (i := 5) rfl (by decide +kernel)))))))
/-! check_pair -/
abbrev s_check_pair : Stmt := topS 32
abbrev n_check_pair : List Str := ["yard", "one", "other"]
theorem sc_check_pair : FnScope n_check_pair ["yard", "one", "other"] (defScope s_check_pair) := ⟨rfl, rfl, rfl, by decide +kernel, rfl, by decide +kernel, by decide +kernel⟩
def w_check_pair (f_check_yard : FS) (f_check_standing : FS) : WS :=
  (sSeq (sExpr (wCall [false] f_check_yard (aCons (wShare 0) aNil)))
  (sSeq (sExpr (wCall [false, false] f_check_standing (aCons (wShare 0) (aCons (wShare 1) aNil))))
  (sExpr (wCall [false, false] f_check_standing (aCons (wShare 0) (aCons (wShare 2) aNil))))))
theorem den_check_pair (Z : Blt mg) {a_check_yard : Addr} {d_check_yard : FuncData} {f_check_yard : FS} (h_check_yard : Cal P w K mg base 4 "check_yard" a_check_yard d_check_yard ["yard"] [false] f_check_yard) {a_check_standing : Addr} {d_check_standing : FuncData} {f_check_standing : FS} (h_check_standing : Cal P w K mg base 6 "check_standing" a_check_standing d_check_standing ["yard", "standing"] [false, false] f_check_standing) : DenB P w K mg base 6 n_check_pair ⟨defScope s_check_pair, fun _ => true⟩ [false, false, false] (defBody s_check_pair) (w_check_pair f_check_yard f_check_standing) :=
  (denb_cons (dens_expr (den_call h_check_yard (by decide) (by decide +kernel) (den_acons (den_share (i := 0) rfl (by decide +kernel)) den_anil)))
    (denb_cons (dens_expr (den_call h_check_standing (by decide) (by decide +kernel) (den_acons (den_share (i := 0) rfl (by decide +kernel)) (den_acons (den_share (i := 1) rfl (by decide +kernel)) den_anil))))
    (denb_one (dens_expr (den_call h_check_standing (by decide) (by decide +kernel) (den_acons (den_share (i := 0) rfl (by decide +kernel)) (den_acons (den_share (i := 2) rfl (by decide +kernel)) den_anil)))))))
/-! distance -/
abbrev s_distance : Stmt := topS 33
abbrev n_distance : List Str := ["one", "other", "many", "more"]
theorem sc_distance : FnScope n_distance ["one", "other"] (defScope s_distance) := ⟨rfl, rfl, rfl, by decide +kernel, rfl, by decide +kernel, by decide +kernel⟩
def w_distance : WS :=
  (sRet (w1 fSum (oVal (wComp (iZp (wMove 0) (wMove 1)) (gTp [2, 3]) tYes' (w1 fAbs (oVal (w2 fSub (oSlot 2) (oSlot 3)))) [2, 3]))))
theorem den_distance (Z : Blt mg) : DenB P w K mg base 0 n_distance ⟨defScope s_distance, fun _ => true⟩ [false, false] (defBody s_distance) (w_distance) :=
  (denb_one (dens_ret (den_sum Z.b_sum (by decide +kernel) (den_oval (den_comp (own := [("many", 2), ("more", 3)]) rfl (by decide +kernel) (deni_zip Z.b_zip (by decide +kernel) (den_move (i := 0) rfl (by decide +kernel)) (den_move (i := 1) rfl (by decide +kernel))) (comp_tp (js := [2, 3]) (fun X hX => pg_tup hX.calm (pgs_nm1 (i := 2) hX rfl (by decide +kernel) (pgs_nm1 (i := 3) hX rfl (by decide +kernel) pgs_nm0))) (by decide) dents_nil (den_abs Z.b_abs (by decide +kernel) (den_oval (den_sub (den_oslot (i := 2) rfl (by decide +kernel)) (den_oslot (i := 3) rfl (by decide +kernel)))))))))))
/-! moments -/
abbrev s_moments : Stmt := topS 34
abbrev n_moments : List Str := ["yard", "standing", "day", "lying", "told", "ask"]
theorem sc_moments : FnScope n_moments ["yard", "standing", "day"] (defScope s_moments) := ⟨rfl, rfl, rfl, by decide +kernel, rfl, by decide +kernel, by decide +kernel⟩
def w_moments (f_serve : FS) : WS :=
  (sSeq (sAsg (w1 fList (oSlot 1)) (gNm 3))
  (sSeq (sAsg (wLst (aCons (wShare 1) aNil)) (gNm 4))
  (sSeq (sFor (iVal (wShare 2)) (gNm 5) (sSeq (sExpr (wCall [false, true, false] f_serve (aCons (wShare 0) (aBor 3 (aCons (wShare 5) aNil)))))
  (sExpr (wAppend 4 (w1 fTuple (oSlot 3))))))
  (sRet (wMove 4)))))
theorem den_moments (Z : Blt mg) {a_serve : Addr} {d_serve : FuncData} {f_serve : FS} (h_serve : Cal P w K mg base 3 "serve" a_serve d_serve ["yard", "lying", "ask"] [false, true, false] f_serve) : DenB P w K mg base 3 n_moments ⟨defScope s_moments, fun _ => true⟩ [false, false, false] (defBody s_moments) (w_moments f_serve) :=
  (denb_cons (dens_set (i := 3) rfl (by decide +kernel) rfl (den_list Z.b_list (by decide +kernel) (den_oslot (i := 1) rfl (by decide +kernel))))
    (denb_cons (dens_set (i := 4) rfl (by decide +kernel) rfl (den_lst (den_acons (den_share (i := 1) rfl (by decide +kernel)) den_anil)))
    (denb_cons (dens_for (deni_seq (den_share (i := 2) rfl (by decide +kernel))) (deng_nm (i := 5) rfl (by decide +kernel) rfl) (denb_cons (dens_expr (den_call h_serve (by decide) (by decide +kernel) (den_acons (den_share (i := 0) rfl (by decide +kernel)) (den_abor (i := 3) rfl (by decide +kernel) (den_acons (den_share (i := 5) rfl (by decide +kernel)) den_anil)))))
    (denb_one (dens_expr (den_append (i := 4) rfl (by decide +kernel) (den_tuple Z.b_tuple (by decide +kernel) (den_oslot (i := 3) rfl (by decide +kernel))))))))
    (denb_one (dens_ret (den_move (i := 4) rfl (by decide +kernel)))))))
/-! distances -/
abbrev s_distances : Stmt := topS 35
abbrev n_distances : List Str := ["first", "second", "one", "other"]
theorem sc_distances : FnScope n_distances ["first", "second"] (defScope s_distances) := ⟨rfl, rfl, rfl, by decide +kernel, rfl, by decide +kernel, by decide +kernel⟩
def w_distances (f_distance : FS) : WS :=
  (sRet (wComp (iZp (wMove 0) (wMove 1)) (gTp [2, 3]) tYes' (wCall [false, false] f_distance (aCons (wShare 2) (aCons (wShare 3) aNil))) [2, 3]))
theorem den_distances (Z : Blt mg) {a_distance : Addr} {d_distance : FuncData} {f_distance : FS} (h_distance : Cal P w K mg base 1 "distance" a_distance d_distance ["one", "other"] [false, false] f_distance) : DenB P w K mg base 1 n_distances ⟨defScope s_distances, fun _ => true⟩ [false, false] (defBody s_distances) (w_distances f_distance) :=
  (denb_one (dens_ret (den_comp (own := [("one", 2), ("other", 3)]) rfl (by decide +kernel) (deni_zip Z.b_zip (by decide +kernel) (den_move (i := 0) rfl (by decide +kernel)) (den_move (i := 1) rfl (by decide +kernel))) (comp_tp (js := [2, 3]) (fun X hX => pg_tup hX.calm (pgs_nm1 (i := 2) hX rfl (by decide +kernel) (pgs_nm1 (i := 3) hX rfl (by decide +kernel) pgs_nm0))) (by decide) dents_nil (den_call h_distance (by decide) (by decide +kernel) (den_acons (den_share (i := 2) rfl (by decide +kernel)) (den_acons (den_share (i := 3) rfl (by decide +kernel)) den_anil)))))))
/-! far_apart -/
abbrev s_far_apart : Stmt := topS 36
abbrev n_far_apart : List Str := ["yard", "one", "other"]
theorem sc_far_apart : FnScope n_far_apart ["yard", "one", "other"] (defScope s_far_apart) := ⟨rfl, rfl, rfl, by decide +kernel, rfl, by decide +kernel, by decide +kernel⟩
def w_far_apart (f_check_pair : FS) (f_distance : FS) : WS :=
  (sSeq (sExpr (wCall [false, false, false] f_check_pair (aCons (wShare 0) (aCons (wShare 1) (aCons (wShare 2) aNil)))))
  (sRet (wCall [false, false] f_distance (aCons (wMove 1) (aCons (wMove 2) aNil)))))
theorem den_far_apart (Z : Blt mg) {a_check_pair : Addr} {d_check_pair : FuncData} {f_check_pair : FS} (h_check_pair : Cal P w K mg base 7 "check_pair" a_check_pair d_check_pair ["yard", "one", "other"] [false, false, false] f_check_pair) {a_distance : Addr} {d_distance : FuncData} {f_distance : FS} (h_distance : Cal P w K mg base 1 "distance" a_distance d_distance ["one", "other"] [false, false] f_distance) : DenB P w K mg base 7 n_far_apart ⟨defScope s_far_apart, fun _ => true⟩ [false, false, false] (defBody s_far_apart) (w_far_apart f_check_pair f_distance) :=
  (denb_cons (dens_expr (den_call h_check_pair (by decide) (by decide +kernel) (den_acons (den_share (i := 0) rfl (by decide +kernel)) (den_acons (den_share (i := 1) rfl (by decide +kernel)) (den_acons (den_share (i := 2) rfl (by decide +kernel)) den_anil)))))
    (denb_one (dens_ret (den_call h_distance (by decide) (by decide +kernel) (den_acons (den_move (i := 1) rfl (by decide +kernel)) (den_acons (den_move (i := 2) rfl (by decide +kernel)) den_anil))))))
/-! together -/
abbrev s_together : Stmt := topS 37
abbrev n_together : List Str := ["yard", "one", "other", "day"]
theorem sc_together : FnScope n_together ["yard", "one", "other", "day"] (defScope s_together) := ⟨rfl, rfl, rfl, by decide +kernel, rfl, by decide +kernel, by decide +kernel⟩
def w_together (f_check_pair : FS) (f_check_day : FS) (f_distances : FS) (f_moments : FS) : WS :=
  (sSeq (sExpr (wCall [false, false, false] f_check_pair (aCons (wShare 0) (aCons (wShare 1) (aCons (wShare 2) aNil)))))
  (sSeq (sExpr (wCall [false, false] f_check_day (aCons (wShare 0) (aCons (wShare 3) aNil))))
  (sRet (wCall [false, false] f_distances (aCons (wCall [false, false, false] f_moments (aCons (wShare 0) (aCons (wMove 1) (aCons (wShare 3) aNil)))) (aCons (wCall [false, false, false] f_moments (aCons (wShare 0) (aCons (wMove 2) (aCons (wShare 3) aNil)))) aNil))))))
theorem den_together (Z : Blt mg) {a_check_pair : Addr} {d_check_pair : FuncData} {f_check_pair : FS} (h_check_pair : Cal P w K mg base 7 "check_pair" a_check_pair d_check_pair ["yard", "one", "other"] [false, false, false] f_check_pair) {a_check_day : Addr} {d_check_day : FuncData} {f_check_day : FS} (h_check_day : Cal P w K mg base 8 "check_day" a_check_day d_check_day ["yard", "day"] [false, false] f_check_day) {a_distances : Addr} {d_distances : FuncData} {f_distances : FS} (h_distances : Cal P w K mg base 2 "distances" a_distances d_distances ["first", "second"] [false, false] f_distances) {a_moments : Addr} {d_moments : FuncData} {f_moments : FS} (h_moments : Cal P w K mg base 4 "moments" a_moments d_moments ["yard", "standing", "day"] [false, false, false] f_moments) : DenB P w K mg base 8 n_together ⟨defScope s_together, fun _ => true⟩ [false, false, false, false] (defBody s_together) (w_together f_check_pair f_check_day f_distances f_moments) :=
  (denb_cons (dens_expr (den_call h_check_pair (by decide) (by decide +kernel) (den_acons (den_share (i := 0) rfl (by decide +kernel)) (den_acons (den_share (i := 1) rfl (by decide +kernel)) (den_acons (den_share (i := 2) rfl (by decide +kernel)) den_anil)))))
    (denb_cons (dens_expr (den_call h_check_day (by decide) (by decide +kernel) (den_acons (den_share (i := 0) rfl (by decide +kernel)) (den_acons (den_share (i := 3) rfl (by decide +kernel)) den_anil))))
    (denb_one (dens_ret (den_call h_distances (by decide) (by decide +kernel) (den_acons (den_call h_moments (by decide) (by decide +kernel) (den_acons (den_share (i := 0) rfl (by decide +kernel)) (den_acons (den_move (i := 1) rfl (by decide +kernel)) (den_acons (den_share (i := 3) rfl (by decide +kernel)) den_anil)))) (den_acons (den_call h_moments (by decide) (by decide +kernel) (den_acons (den_share (i := 0) rfl (by decide +kernel)) (den_acons (den_move (i := 2) rfl (by decide +kernel)) (den_acons (den_share (i := 3) rfl (by decide +kernel)) den_anil)))) den_anil)))))))
/-! left_out -/
abbrev s_left_out : Stmt := topS 38
abbrev n_left_out : List Str := ["yard", "standing", "day", "number", "without"]
theorem sc_left_out : FnScope n_left_out ["yard", "standing", "day", "number"] (defScope s_left_out) := ⟨rfl, rfl, rfl, by decide +kernel, rfl, by decide +kernel, by decide +kernel⟩
def w_left_out (f_check_day_from : FS) (f_distances : FS) (f_is_number_of_ask : FS) (f_moments : FS) : WS :=
  (sSeq (sExpr (wCall [false, false, false] f_check_day_from (aCons (wShare 0) (aCons (wShare 1) (aCons (wShare 2) aNil)))))
  (sSeq (sIf (tNot' (tOf (wCall [false, false] f_is_number_of_ask (aCons (wShare 2) (aCons (wShare 3) aNil))))) sNever sNil)
  (sSeq (sFrz 4 (sAsg (w2 fAdd (oVal (w2 fAdd (oVal (wSl (oSlot 2) pNo (pInt (wShare 3)))) (oVal (wLst (aCons (wC (.tuple [(.tuple []), (.tuple [])])) aNil))))) (oVal (wSl (oSlot 2) (pInt (w2 fAdd (oSlot 3) (oVal (wC (.int 1))))) pNo))) (gNm 4)))
  (sRet (wCall [false, false] f_distances (aCons (wCall [false, false, false] f_moments (aCons (wShare 0) (aCons (wShare 1) (aCons (wMove 2) aNil)))) (aCons (wCall [false, false, false] f_moments (aCons (wShare 0) (aCons (wShare 1) (aCons (wMove 4) aNil)))) aNil)))))))
theorem den_left_out (Z : Blt mg) {a_check_day_from : Addr} {d_check_day_from : FuncData} {f_check_day_from : FS} (h_check_day_from : Cal P w K mg base 9 "check_day_from" a_check_day_from d_check_day_from ["yard", "standing", "day"] [false, false, false] f_check_day_from) {a_distances : Addr} {d_distances : FuncData} {f_distances : FS} (h_distances : Cal P w K mg base 2 "distances" a_distances d_distances ["first", "second"] [false, false] f_distances) {a_is_number_of_ask : Addr} {d_is_number_of_ask : FuncData} {f_is_number_of_ask : FS} (h_is_number_of_ask : Cal P w K mg base 4 "is_number_of_ask" a_is_number_of_ask d_is_number_of_ask ["day", "thing"] [false, false] f_is_number_of_ask) {a_moments : Addr} {d_moments : FuncData} {f_moments : FS} (h_moments : Cal P w K mg base 4 "moments" a_moments d_moments ["yard", "standing", "day"] [false, false, false] f_moments) {t_IDLE : Addr} (h_IDLE : mg "IDLE" = some (.ref t_IDLE)) (hd_IDLE : ∀ G, Dp K G (.ref t_IDLE) (.tuple [(.tuple []), (.tuple [])])) : DenB P w K mg base 9 n_left_out ⟨defScope s_left_out, fun _ => true⟩ [false, false, false, false] (defBody s_left_out) (w_left_out f_check_day_from f_distances f_is_number_of_ask f_moments) :=
  (denb_cons (dens_expr (den_call h_check_day_from (by decide) (by decide +kernel) (den_acons (den_share (i := 0) rfl (by decide +kernel)) (den_acons (den_share (i := 1) rfl (by decide +kernel)) (den_acons (den_share (i := 2) rfl (by decide +kernel)) den_anil)))))
    (denb_cons (dens_if (dent_not (dent_val (den_call h_is_number_of_ask (by decide) (by decide +kernel) (den_acons (den_share (i := 2) rfl (by decide +kernel)) (den_acons (den_share (i := 3) rfl (by decide +kernel)) den_anil))))) (denb_one dens_never) denb_nil)
    (denb_cons (dens_frz (i := 4) (dens_set (i := 4) rfl (by decide +kernel) rfl (den_add (den_oval (den_add (den_oval (den_slice (den_oslot (i := 2) rfl (by decide +kernel)) denp_no (denp_int (den_share (i := 3) rfl (by decide +kernel))))) (den_oval (den_lst (den_acons (den_globT h_IDLE hd_IDLE (by decide +kernel)) den_anil))))) (den_oval (den_slice (den_oslot (i := 2) rfl (by decide +kernel)) (denp_int (den_add (den_oslot (i := 3) rfl (by decide +kernel)) (den_oval den_int))) denp_no)))))
    (denb_one (dens_ret (den_call h_distances (by decide) (by decide +kernel) (den_acons (den_call h_moments (by decide) (by decide +kernel) (den_acons (den_share (i := 0) rfl (by decide +kernel)) (den_acons (den_share (i := 1) rfl (by decide +kernel)) (den_acons (den_move (i := 2) rfl (by decide +kernel)) den_anil)))) (den_acons (den_call h_moments (by decide) (by decide +kernel) (den_acons (den_share (i := 0) rfl (by decide +kernel)) (den_acons (den_share (i := 1) rfl (by decide +kernel)) (den_acons (den_move (i := 4) rfl (by decide +kernel)) den_anil)))) den_anil))))))))
/-! _law_cart -/
abbrev s__law_cart : Stmt := topS 40
abbrev n__law_cart : List Str := ["script", "k", "cell"]
theorem sc__law_cart : FnScope n__law_cart ["script", "k"] (defScope s__law_cart) := ⟨rfl, rfl, rfl, by decide +kernel, rfl, by decide +kernel, by decide +kernel⟩
def w__law_cart : WS :=
  (sSeq (sAsg (wC (.int 0)) (gNm 2))
  (sSeq (sIf (tOf (w2 fLt (oSlot 1) (oVal (w1 fLen (oSlot 0))))) (sAsg (w2 fIx (oSlot 0) (oSlot 1)) (gNm 2)) sNil)
  (sRet (wLst (aCons (w2 fMax (oVal (wC (.int 0))) (oVal (w2 fSub (oVal (w1 fAbs (oSlot 2))) (oVal (w2 fPow (oVal (wC (.int 10))) (oVal (wC (.int 18)))))))) (aCons (w2 fAdd (oVal (w2 fMod (oSlot 2) (oVal (w2 fAdd (oVal (w2 fPow (oVal (wC (.int 10))) (oVal (wC (.int 37))))) (oVal (wC (.int 43))))))) (oVal (w2 fMul (oVal (wC (.int 11587))) (oSlot 1)))) (aCons (wC (.int 0)) aNil)))))))
theorem den__law_cart (Z : Blt mg) : DenB P w K mg base 0 n__law_cart ⟨defScope s__law_cart, fun _ => true⟩ [false, false] (defBody s__law_cart) (w__law_cart) :=
  (denb_cons (dens_set (i := 2) rfl (by decide +kernel) rfl den_int)
    (denb_cons (dens_if (dent_cmpR cmp_lt (den_oslot (i := 1) rfl (by decide +kernel)) (den_oval (den_len Z.b_len (by decide +kernel) (den_oslot (i := 0) rfl (by decide +kernel))))) (denb_one (dens_set (i := 2) rfl (by decide +kernel) rfl (den_at (den_oslot (i := 0) rfl (by decide +kernel)) (den_oslot (i := 1) rfl (by decide +kernel))))) denb_nil)
    (denb_one (dens_ret (den_lst (den_acons (den_max Z.b_max (by decide +kernel) (den_oval den_int) (den_oval (den_sub (den_oval (den_abs Z.b_abs (by decide +kernel) (den_oslot (i := 2) rfl (by decide +kernel)))) (den_oval (den_pow (den_oval den_int) (den_oval den_int)))))) (den_acons (den_add (den_oval (den_mod (den_oslot (i := 2) rfl (by decide +kernel)) (den_oval (den_add (den_oval (den_pow (den_oval den_int) (den_oval den_int))) (den_oval den_int))))) (den_oval (den_mul (den_oval den_int) (den_oslot (i := 1) rfl (by decide +kernel))))) (den_acons den_int den_anil))))))))
/-! _law_pull -/
abbrev s__law_pull : Stmt := topS 41
abbrev n__law_pull : List Str := ["cart", "wide", "mixed", "found"]
theorem sc__law_pull : FnScope n__law_pull ["cart", "wide"] (defScope s__law_pull) := ⟨rfl, rfl, rfl, by decide +kernel, rfl, by decide +kernel, by decide +kernel⟩
def w__law_pull : WS :=
  (sSeq (sIf (tOf (w2 fGt (oVal (w2 fIx (oSlot 0) (oVal (wC (.int 0))))) (oVal (wC (.int 0))))) (sSeq (sAsg (w2 fMod (oVal (w2 fIx (oSlot 0) (oVal (wC (.int 0))))) (oSlot 1)) (gNm 3))
  (sSeq (sSetIx 0 (w2 fDiv (oVal (w2 fIx (oSlot 0) (oVal (wC (.int 0))))) (oSlot 1)) (wC (.int 0)))
  (sRet (wMove 3)))) sNil)
  (sSeq (sSetIx 0 (w2 fAdd (oVal (w2 fIx (oSlot 0) (oVal (wC (.int 2))))) (oVal (wC (.int 1)))) (wC (.int 2)))
  (sSeq (sAsg (w2 fMod (oVal (w2 fPow (oVal (w2 fAdd (oVal (w2 fIx (oSlot 0) (oVal (wC (.int 1))))) (oVal (w2 fMul (oVal (wC (.int 32452843))) (oVal (w2 fIx (oSlot 0) (oVal (wC (.int 2))))))))) (oVal (wC (.int 3))))) (oVal (w2 fAdd (oVal (w2 fPow (oVal (wC (.int 10))) (oVal (wC (.int 38))))) (oVal (wC (.int 133)))))) (gNm 2))
  (sSeq (sAsg (w2 fMod (oVal (w2 fPow (oVal (w2 fAdd (oSlot 2) (oVal (w2 fMul (oVal (wC (.int 141650939))) (oVal (w2 fIx (oSlot 0) (oVal (wC (.int 2))))))))) (oVal (wC (.int 3))))) (oVal (w2 fAdd (oVal (w2 fPow (oVal (wC (.int 10))) (oVal (wC (.int 35))))) (oVal (wC (.int 69)))))) (gNm 2))
  (sRet (w2 fMod (oVal (w2 fDiv (oSlot 2) (oVal (wC (.int 131071))))) (oSlot 1)))))))
theorem den__law_pull (Z : Blt mg) : DenB P w K mg base 0 n__law_pull ⟨defScope s__law_pull, fun _ => true⟩ [true, false] (defBody s__law_pull) (w__law_pull) :=
  (denb_cons (dens_if (dent_cmpR cmp_gt (den_oval (den_at (den_oslot (i := 0) rfl (by decide +kernel)) (den_oval den_int))) (den_oval den_int)) (denb_cons (dens_set (i := 3) rfl (by decide +kernel) rfl (den_mod (den_oval (den_at (den_oslot (i := 0) rfl (by decide +kernel)) (den_oval den_int))) (den_oslot (i := 1) rfl (by decide +kernel))))
    (denb_cons (dens_setIx (i := 0) rfl (by decide +kernel) (den_fdiv (den_oval (den_at (den_oslot (i := 0) rfl (by decide +kernel)) (den_oval den_int))) (den_oslot (i := 1) rfl (by decide +kernel))) den_int)
    (denb_one (dens_ret (den_move (i := 3) rfl (by decide +kernel)))))) denb_nil)
    (denb_cons (dens_setIx (i := 0) rfl (by decide +kernel) (den_add (den_oval (den_at (den_oslot (i := 0) rfl (by decide +kernel)) (den_oval den_int))) (den_oval den_int)) den_int)
    (denb_cons (dens_set (i := 2) rfl (by decide +kernel) rfl (den_mod (den_oval (den_pow (den_oval (den_add (den_oval (den_at (den_oslot (i := 0) rfl (by decide +kernel)) (den_oval den_int))) (den_oval (den_mul (den_oval den_int) (den_oval (den_at (den_oslot (i := 0) rfl (by decide +kernel)) (den_oval den_int))))))) (den_oval den_int))) (den_oval (den_add (den_oval (den_pow (den_oval den_int) (den_oval den_int))) (den_oval den_int)))))
    (denb_cons (dens_set (i := 2) rfl (by decide +kernel) rfl (den_mod (den_oval (den_pow (den_oval (den_add (den_oslot (i := 2) rfl (by decide +kernel)) (den_oval (den_mul (den_oval den_int) (den_oval (den_at (den_oslot (i := 0) rfl (by decide +kernel)) (den_oval den_int))))))) (den_oval den_int))) (den_oval (den_add (den_oval (den_pow (den_oval den_int) (den_oval den_int))) (den_oval den_int)))))
    (denb_one (dens_ret (den_mod (den_oval (den_fdiv (den_oslot (i := 2) rfl (by decide +kernel)) (den_oval den_int))) (den_oslot (i := 1) rfl (by decide +kernel)))))))))
/-! _law_rooms -/
abbrev s__law_rooms : Stmt := topS 42
abbrev n__law_rooms : List Str := ["cart", "most", "lean", "found", "k"]
theorem sc__law_rooms : FnScope n__law_rooms ["cart", "most"] (defScope s__law_rooms) := ⟨rfl, rfl, rfl, by decide +kernel, rfl, by decide +kernel, by decide +kernel⟩
def w__law_rooms (f__law_pull : FS) : WS :=
  (sSeq (sAsg (wCall [true, false] f__law_pull (aBor 0 (aCons (wC (.int 3)) aNil))) (gNm 2))
  (sSeq (sAsg (wLst aNil) (gNm 3))
  (sSeq (sFor (iRg1 (w2 fAdd (oVal (wC (.int 1))) (oVal (wCall [true, false] f__law_pull (aBor 0 (aCons (wShare 1) aNil)))))) (gNm 4) (sExpr (wAppend 3 (w2 fIx (oVal (wLst (aCons (wC .none) (aCons (wCall [true, false] f__law_pull (aBor 0 (aCons (wC (.int 4)) aNil))) (aCons (wCall [true, false] f__law_pull (aBor 0 (aCons (w2 fPow (oVal (wC (.int 10))) (oVal (wC (.int 12)))) aNil))) aNil))))) (oVal (wCall [true, false] f__law_pull (aBor 0 (aCons (w2 fAdd (oVal (wC (.int 1))) (oSlot 2)) aNil))))))))
  (sRet (w1 fTuple (oSlot 3))))))
theorem den__law_rooms (Z : Blt mg) {a__law_pull : Addr} {d__law_pull : FuncData} {f__law_pull : FS} (h__law_pull : Cal P w K mg base 1 "_law_pull" a__law_pull d__law_pull ["cart", "wide"] [true, false] f__law_pull) : DenB P w K mg base 1 n__law_rooms ⟨defScope s__law_rooms, fun _ => true⟩ [true, false] (defBody s__law_rooms) (w__law_rooms f__law_pull) :=
  (denb_cons (dens_set (i := 2) rfl (by decide +kernel) rfl (den_call h__law_pull (by decide) (by decide +kernel) (den_abor (i := 0) rfl (by decide +kernel) (den_acons den_int den_anil))))
    (denb_cons (dens_set (i := 3) rfl (by decide +kernel) rfl (den_lst den_anil))
    (denb_cons (dens_for (deni_range1 Z.b_range (by decide +kernel) (den_add (den_oval den_int) (den_oval (den_call h__law_pull (by decide) (by decide +kernel) (den_abor (i := 0) rfl (by decide +kernel) (den_acons (den_share (i := 1) rfl (by decide +kernel)) den_anil)))))) (deng_nm (i := 4) rfl (by decide +kernel) rfl) (denb_one (dens_expr (den_append (i := 3) rfl (by decide +kernel) (den_at (den_oval (den_lst (den_acons den_non (den_acons (den_call h__law_pull (by decide) (by decide +kernel) (den_abor (i := 0) rfl (by decide +kernel) (den_acons den_int den_anil))) (den_acons (den_call h__law_pull (by decide) (by decide +kernel) (den_abor (i := 0) rfl (by decide +kernel) (den_acons (den_pow (den_oval den_int) (den_oval den_int)) den_anil))) den_anil))))) (den_oval (den_call h__law_pull (by decide) (by decide +kernel) (den_abor (i := 0) rfl (by decide +kernel) (den_acons (den_add (den_oval den_int) (den_oslot (i := 2) rfl (by decide +kernel))) den_anil)))))))))
    (denb_one (dens_ret (den_tuple Z.b_tuple (by decide +kernel) (den_oslot (i := 3) rfl (by decide +kernel))))))))
/-! _law_things -/
abbrev s__law_things : Stmt := topS 43
abbrev n__law_things : List Str := ["cart", "rooms", "found", "room", "some"]
theorem sc__law_things : FnScope n__law_things ["cart", "rooms"] (defScope s__law_things) := ⟨rfl, rfl, rfl, by decide +kernel, rfl, by decide +kernel, by decide +kernel⟩
def w__law_things (f__law_pull : FS) : WS :=
  (sSeq (sAsg (wLst aNil) (gNm 2))
  (sSeq (sFor (iVal (wShare 1)) (gNm 3) (sSeq (sAsg (w2 fIx (oVal (wLst (aCons (wC (.int 0)) (aCons (wC (.int 0)) (aCons (wC (.int 1)) (aCons (wCall [true, false] f__law_pull (aBor 0 (aCons (wC (.int 4)) aNil))) (aCons (wCall [true, false] f__law_pull (aBor 0 (aCons (w2 fPow (oVal (wC (.int 10))) (oVal (wC (.int 12)))) aNil))) aNil))))))) (oVal (wCall [true, false] f__law_pull (aBor 0 (aCons (wC (.int 5)) aNil))))) (gNm 4))
  (sSeq (sIf (tOf (w1 fNotN (oSlot 3))) (sAsg (w2 fIx (oVal (wLst (aCons (w2 fMin (oSlot 4) (oSlot 3)) (aCons (wShare 3) aNil)))) (oVal (w2 fDiv (oVal (wCall [true, false] f__law_pull (aBor 0 (aCons (wC (.int 4)) aNil)))) (oVal (wC (.int 3)))))) (gNm 4)) sNil)
  (sExpr (wAppend 2 (wShare 4))))))
  (sRet (w1 fTuple (oSlot 2)))))
theorem den__law_things (Z : Blt mg) {a__law_pull : Addr} {d__law_pull : FuncData} {f__law_pull : FS} (h__law_pull : Cal P w K mg base 1 "_law_pull" a__law_pull d__law_pull ["cart", "wide"] [true, false] f__law_pull) : DenB P w K mg base 1 n__law_things ⟨defScope s__law_things, fun _ => true⟩ [true, false] (defBody s__law_things) (w__law_things f__law_pull) :=
  (denb_cons (dens_set (i := 2) rfl (by decide +kernel) rfl (den_lst den_anil))
    (denb_cons (dens_for (deni_seq (den_share (i := 1) rfl (by decide +kernel))) (deng_nm (i := 3) rfl (by decide +kernel) rfl) (denb_cons (dens_set (i := 4) rfl (by decide +kernel) rfl (den_at (den_oval (den_lst (den_acons den_int (den_acons den_int (den_acons den_int (den_acons (den_call h__law_pull (by decide) (by decide +kernel) (den_abor (i := 0) rfl (by decide +kernel) (den_acons den_int den_anil))) (den_acons (den_call h__law_pull (by decide) (by decide +kernel) (den_abor (i := 0) rfl (by decide +kernel) (den_acons (den_pow (den_oval den_int) (den_oval den_int)) den_anil))) den_anil))))))) (den_oval (den_call h__law_pull (by decide) (by decide +kernel) (den_abor (i := 0) rfl (by decide +kernel) (den_acons den_int den_anil))))))
    (denb_cons (dens_if (dent_notN (den_oslot (i := 3) rfl (by decide +kernel))) (denb_one (dens_set (i := 4) rfl (by decide +kernel) rfl (den_at (den_oval (den_lst (den_acons (den_min Z.b_min (by decide +kernel) (den_oslot (i := 4) rfl (by decide +kernel)) (den_oslot (i := 3) rfl (by decide +kernel))) (den_acons (den_share (i := 3) rfl (by decide +kernel)) den_anil)))) (den_oval (den_fdiv (den_oval (den_call h__law_pull (by decide) (by decide +kernel) (den_abor (i := 0) rfl (by decide +kernel) (den_acons den_int den_anil)))) (den_oval den_int)))))) denb_nil)
    (denb_one (dens_expr (den_append (i := 2) rfl (by decide +kernel) (den_share (i := 4) rfl (by decide +kernel))))))))
    (denb_one (dens_ret (den_tuple Z.b_tuple (by decide +kernel) (den_oslot (i := 2) rfl (by decide +kernel)))))))
/-! _law_some -/
abbrev s__law_some : Stmt := topS 44
abbrev n__law_some : List Str := ["cart", "size", "left", "many", "k"]
theorem sc__law_some : FnScope n__law_some ["cart", "size"] (defScope s__law_some) := ⟨rfl, rfl, rfl, by decide +kernel, rfl, by decide +kernel, by decide +kernel⟩
def w__law_some (f__law_pull : FS) : WS :=
  (sSeq (sAsg (w1 fRange (oSlot 1)) (gNm 2))
  (sSeq (sAsg (wCall [true, false] f__law_pull (aBor 0 (aCons (w2 fAdd (oVal (wC (.int 1))) (oVal (w2 fIx (oVal (wLst (aCons (w2 fMin (oVal (wC (.int 3))) (oSlot 1)) (aCons (wShare 1) aNil)))) (oVal (w2 fDiv (oVal (wCall [true, false] f__law_pull (aBor 0 (aCons (wC (.int 4)) aNil)))) (oVal (wC (.int 3)))))))) aNil))) (gNm 3))
  (sRet (w1 fTuple (oVal (wComp (iRg1 (wMove 3)) (gNm 4) tYes' (wPopAt 2 (wCall [true, false] f__law_pull (aBor 0 (aCons (w1 fLen (oSlot 2)) aNil)))) [4]))))))
theorem den__law_some (Z : Blt mg) {a__law_pull : Addr} {d__law_pull : FuncData} {f__law_pull : FS} (h__law_pull : Cal P w K mg base 1 "_law_pull" a__law_pull d__law_pull ["cart", "wide"] [true, false] f__law_pull) : DenB P w K mg base 1 n__law_some ⟨defScope s__law_some, fun _ => true⟩ [true, false] (defBody s__law_some) (w__law_some f__law_pull) :=
  (denb_cons (dens_set (i := 2) rfl (by decide +kernel) rfl (den_listRg Z.b_list (by decide +kernel) Z.b_range (by decide +kernel) (den_oslot (i := 1) rfl (by decide +kernel))))
    (denb_cons (dens_set (i := 3) rfl (by decide +kernel) rfl (den_call h__law_pull (by decide) (by decide +kernel) (den_abor (i := 0) rfl (by decide +kernel) (den_acons (den_add (den_oval den_int) (den_oval (den_at (den_oval (den_lst (den_acons (den_min Z.b_min (by decide +kernel) (den_oval den_int) (den_oslot (i := 1) rfl (by decide +kernel))) (den_acons (den_share (i := 1) rfl (by decide +kernel)) den_anil)))) (den_oval (den_fdiv (den_oval (den_call h__law_pull (by decide) (by decide +kernel) (den_abor (i := 0) rfl (by decide +kernel) (den_acons den_int den_anil)))) (den_oval den_int)))))) den_anil))))
    (denb_one (dens_ret (den_tuple Z.b_tuple (by decide +kernel) (den_oval (den_comp (own := [("k", 4)]) rfl (by decide +kernel) (deni_range1 Z.b_range (by decide +kernel) (den_move (i := 3) rfl (by decide +kernel))) (comp_nm (i := 4) rfl (by decide +kernel) (by decide) dents_nil (den_popAt (i := 2) rfl (by decide +kernel) (den_call h__law_pull (by decide) (by decide +kernel) (den_abor (i := 0) rfl (by decide +kernel) (den_acons (den_len Z.b_len (by decide +kernel) (den_oslot (i := 2) rfl (by decide +kernel))) den_anil))))))))))))
/-! _law_asks -/
abbrev s__law_asks : Stmt := topS 45
abbrev n__law_asks : List Str := ["cart", "size", "most", "k"]
theorem sc__law_asks : FnScope n__law_asks ["cart", "size", "most"] (defScope s__law_asks) := ⟨rfl, rfl, rfl, by decide +kernel, rfl, by decide +kernel, by decide +kernel⟩
def w__law_asks (f__law_some : FS) (f__law_pull : FS) : WS :=
  (sRet (wComp (iRg1 (wCall [true, false] f__law_pull (aBor 0 (aCons (w2 fAdd (oSlot 2) (oVal (wC (.int 1)))) aNil)))) (gNm 3) tYes' (wTup (aCons (wCall [true, false] f__law_some (aBor 0 (aCons (wShare 1) aNil))) (aCons (wCall [true, false] f__law_some (aBor 0 (aCons (wShare 1) aNil))) aNil))) [3]))
theorem den__law_asks (Z : Blt mg) {a__law_some : Addr} {d__law_some : FuncData} {f__law_some : FS} (h__law_some : Cal P w K mg base 2 "_law_some" a__law_some d__law_some ["cart", "size"] [true, false] f__law_some) {a__law_pull : Addr} {d__law_pull : FuncData} {f__law_pull : FS} (h__law_pull : Cal P w K mg base 1 "_law_pull" a__law_pull d__law_pull ["cart", "wide"] [true, false] f__law_pull) : DenB P w K mg base 2 n__law_asks ⟨defScope s__law_asks, fun _ => true⟩ [true, false, false] (defBody s__law_asks) (w__law_asks f__law_some f__law_pull) :=
  (denb_one (dens_ret (den_comp (own := [("k", 3)]) rfl (by decide +kernel) (deni_range1 Z.b_range (by decide +kernel) (den_call h__law_pull (by decide) (by decide +kernel) (den_abor (i := 0) rfl (by decide +kernel) (den_acons (den_add (den_oslot (i := 2) rfl (by decide +kernel)) (den_oval den_int)) den_anil)))) (comp_nm (i := 3) rfl (by decide +kernel) (by decide) dents_nil (den_tup (den_acons (den_call h__law_some (by decide) (by decide +kernel) (den_abor (i := 0) rfl (by decide +kernel) (den_acons (den_share (i := 1) rfl (by decide +kernel)) den_anil))) (den_acons (den_call h__law_some (by decide) (by decide +kernel) (den_abor (i := 0) rfl (by decide +kernel) (den_acons (den_share (i := 1) rfl (by decide +kernel)) den_anil))) den_anil)))))))
/-! _law_exchanged_right -/
abbrev s__law_exchanged_right : Stmt := topS 46
abbrev n__law_exchanged_right : List Str := ["rooms", "lie", "asks", "spot", "both", "here", "ends", "named", "apart", "far", "later", "wants", "leaves", "place"]
theorem sc__law_exchanged_right : FnScope n__law_exchanged_right ["rooms", "lie", "asks", "spot"] (defScope s__law_exchanged_right) := ⟨rfl, rfl, rfl, by decide +kernel, rfl, by decide +kernel, by decide +kernel⟩
def w__law_exchanged_right (f_far_apart : FS) (f_together : FS) (f_go : FS) : WS :=
  (sSeq (sFrz 4 (sAsg (wSl (oSlot 2) (pInt (wShare 3)) (pInt (w2 fAdd (oSlot 3) (oVal (wC (.int 2)))))) (gNm 4)))
  (sSeq (sFrz 5 (sAsg (w2 fIx (oVal (wCall [false, false, false] f_go (aCons (wShare 0) (aCons (wShare 1) (aCons (wSl (oSlot 2) pNo (pInt (wShare 3))) aNil))))) (oVal (wC (.int 1)))) (gNm 5)))
  (sSeq (sFrz 6 (sAsg (wLst (aCons (w2 fIx (oVal (wCall [false, false, false] f_go (aCons (wShare 0) (aCons (wShare 5) (aCons (wShare 4) aNil))))) (oVal (wC (.int 1)))) (aCons (w2 fIx (oVal (wCall [false, false, false] f_go (aCons (wShare 0) (aCons (wShare 5) (aCons (w1 fRev (oSlot 4)) aNil))))) (oVal (wC (.int 1)))) aNil))) (gNm 6)))
  (sSeq (sFrz 7 (sAsg (wComp (iVal (wShare 4)) (gTp [11, 12]) tYes' (w1 fSortedT (oVal (w2 fAdd (oSlot 11) (oSlot 12)))) [11, 12]) (gNm 7)))
  (sSeq (sAsg (w2 fEq (oVal (wComp (iVal (w2 fIx (oSlot 7) (oVal (wC (.int 0))))) (gNm 13) (tOf (w2 (fIn false) (oSlot 13) (oVal (w2 fIx (oSlot 7) (oVal (wC (.int 1))))))) (wShare 13) [13])) (oVal (wLst aNil))) (gNm 8))
  (sSeq (sFrz 9 (sAsg (wCall [false, false, false] f_far_apart (aCons (wShare 0) (aCons (w2 fIx (oSlot 6) (oVal (wC (.int 0)))) (aCons (w2 fIx (oSlot 6) (oVal (wC (.int 1)))) aNil)))) (gNm 9)))
  (sSeq (sIf (tOr' (tOf (w2 fGt (oSlot 9) (oVal (wC (.int 4))))) (tAnd' (tOf (wShare 8)) (tOf (w2 fNe (oSlot 9) (oVal (wC (.int 0))))))) (sRet (wC (.bool false))) sNil)
  (sSeq (sFrz 10 (sAsg (wCall [false, false, false, false] f_together (aCons (wShare 0) (aCons (w2 fIx (oSlot 6) (oVal (wC (.int 0)))) (aCons (w2 fIx (oSlot 6) (oVal (wC (.int 1)))) (aCons (wFz (wSl (oSlot 2) (pInt (w2 fAdd (oSlot 3) (oVal (wC (.int 2))))) pNo)) aNil))))) (gNm 10)))
  (sRet (wAnd (w2 fEq (oSlot 10) (oVal (w1 fSortedR (oSlot 10)))) (w2 fEq (oVal (w2 fIx (oSlot 10) (oVal (wC (.int 0))))) (oSlot 9))))))))))))
theorem den__law_exchanged_right (Z : Blt mg) {a_far_apart : Addr} {d_far_apart : FuncData} {f_far_apart : FS} (h_far_apart : Cal P w K mg base 8 "far_apart" a_far_apart d_far_apart ["yard", "one", "other"] [false, false, false] f_far_apart) {a_together : Addr} {d_together : FuncData} {f_together : FS} (h_together : Cal P w K mg base 9 "together" a_together d_together ["yard", "one", "other", "day"] [false, false, false, false] f_together) {a_go : Addr} {d_go : FuncData} {f_go : FS} (h_go : Cal P w K mg base 10 "go" a_go d_go ["yard", "standing", "day"] [false, false, false] f_go) : DenB P w K mg base 10 n__law_exchanged_right ⟨defScope s__law_exchanged_right, fun _ => true⟩ [false, false, false, false] (defBody s__law_exchanged_right) (w__law_exchanged_right f_far_apart f_together f_go) :=
  (denb_cons (dens_frz (i := 4) (dens_set (i := 4) rfl (by decide +kernel) rfl (den_slice (den_oslot (i := 2) rfl (by decide +kernel)) (denp_int (den_share (i := 3) rfl (by decide +kernel))) (denp_int (den_add (den_oslot (i := 3) rfl (by decide +kernel)) (den_oval den_int))))))
    (denb_cons (dens_frz (i := 5) (dens_set (i := 5) rfl (by decide +kernel) rfl (den_at (den_oval (den_call h_go (by decide) (by decide +kernel) (den_acons (den_share (i := 0) rfl (by decide +kernel)) (den_acons (den_share (i := 1) rfl (by decide +kernel)) (den_acons (den_slice (den_oslot (i := 2) rfl (by decide +kernel)) denp_no (denp_int (den_share (i := 3) rfl (by decide +kernel)))) den_anil))))) (den_oval den_int))))
    (denb_cons (dens_frz (i := 6) (dens_set (i := 6) rfl (by decide +kernel) rfl (den_lst (den_acons (den_at (den_oval (den_call h_go (by decide) (by decide +kernel) (den_acons (den_share (i := 0) rfl (by decide +kernel)) (den_acons (den_share (i := 5) rfl (by decide +kernel)) (den_acons (den_share (i := 4) rfl (by decide +kernel)) den_anil))))) (den_oval den_int)) (den_acons (den_at (den_oval (den_call h_go (by decide) (by decide +kernel) (den_acons (den_share (i := 0) rfl (by decide +kernel)) (den_acons (den_share (i := 5) rfl (by decide +kernel)) (den_acons (den_revL (den_oslot (i := 4) rfl (by decide +kernel))) den_anil))))) (den_oval den_int)) den_anil)))))
    (denb_cons (dens_frz (i := 7) (dens_setCompC (i := 7) (own := [("wants", 11), ("leaves", 12)]) rfl (by decide +kernel) rfl (by decide +kernel) (by decide +kernel) rfl (deni_seq (den_share (i := 4) rfl (by decide +kernel))) (comp_tp (js := [11, 12]) (fun X hX => pg_tup hX.calm (pgs_nm1 (i := 11) hX rfl (by decide +kernel) (pgs_nm1 (i := 12) hX rfl (by decide +kernel) pgs_nm0))) (by decide) dents_nil (den_sortedT Z.b_sorted (by decide +kernel) (den_oval (den_add (den_oslot (i := 11) rfl (by decide +kernel)) (den_oslot (i := 12) rfl (by decide +kernel))))))))
    (denb_cons (dens_set (i := 8) rfl (by decide +kernel) rfl (den_cmpR cmp_eq (den_oval (den_comp (own := [("place", 13)]) rfl (by decide +kernel) (deni_seq (den_at (den_oslot (i := 7) rfl (by decide +kernel)) (den_oval den_int))) (comp_nm (i := 13) rfl (by decide +kernel) (by decide) (dents_one (dent_cmpR cmp_in (den_oslot (i := 13) rfl (by decide +kernel)) (den_oval (den_at (den_oslot (i := 7) rfl (by decide +kernel)) (den_oval den_int))))) (den_share (i := 13) rfl (by decide +kernel))))) (den_oval (den_lst den_anil))))
    (denb_cons (dens_frz (i := 9) (dens_set (i := 9) rfl (by decide +kernel) rfl (den_call h_far_apart (by decide) (by decide +kernel) (den_acons (den_share (i := 0) rfl (by decide +kernel)) (den_acons (den_at (den_oslot (i := 6) rfl (by decide +kernel)) (den_oval den_int)) (den_acons (den_at (den_oslot (i := 6) rfl (by decide +kernel)) (den_oval den_int)) den_anil))))))
    (denb_cons (dens_if (dent_of (denw_or (dent_cmpR cmp_gt (den_oslot (i := 9) rfl (by decide +kernel)) (den_oval den_int)) (denw_or1 (dent_of (denw_and (dent_val (den_share (i := 8) rfl (by decide +kernel))) (denw_and1 (dent_cmpR cmp_ne (den_oslot (i := 9) rfl (by decide +kernel)) (den_oval den_int)))))))) (denb_one (dens_ret den_bl)) denb_nil)
    (denb_cons (dens_frz (i := 10) (dens_set (i := 10) rfl (by decide +kernel) rfl (den_call h_together (by decide) (by decide +kernel) (den_acons (den_share (i := 0) rfl (by decide +kernel)) (den_acons (den_at (den_oslot (i := 6) rfl (by decide +kernel)) (den_oval den_int)) (den_acons (den_at (den_oslot (i := 6) rfl (by decide +kernel)) (den_oval den_int)) (den_acons (den_fz (den_slice (den_oslot (i := 2) rfl (by decide +kernel)) (denp_int (den_add (den_oslot (i := 3) rfl (by decide +kernel)) (den_oval den_int))) denp_no)) den_anil)))))))
    (denb_one (dens_ret (den_and (den_cmpR cmp_eq (den_oslot (i := 10) rfl (by decide +kernel)) (den_oval (den_sortedR Z.b_sorted (by decide +kernel) (den_oslot (i := 10) rfl (by decide +kernel))))) (den_one (den_cmpR cmp_eq (den_oval (den_at (den_oslot (i := 10) rfl (by decide +kernel)) (den_oval den_int))) (den_oslot (i := 9) rfl (by decide +kernel)))))))))))))))
/-! _law_left_right -/
abbrev s__law_left_right : Stmt := topS 47
abbrev n__law_left_right : List Str := ["rooms", "lie", "asks", "spot", "told", "less", "behind_it"]
theorem sc__law_left_right : FnScope n__law_left_right ["rooms", "lie", "asks", "spot"] (defScope s__law_left_right) := ⟨rfl, rfl, rfl, by decide +kernel, rfl, by decide +kernel, by decide +kernel⟩
def w__law_left_right (f_left_out : FS) (f_far_apart : FS) (f_go : FS) : WS :=
  (sSeq (sFrz 4 (sAsg (wCall [false, false, false, false] f_left_out (aCons (wShare 0) (aCons (wShare 1) (aCons (wShare 2) (aCons (wShare 3) aNil))))) (gNm 4)))
  (sSeq (sFrz 5 (sAsg (w2 fAdd (oVal (wSl (oSlot 2) pNo (pInt (wShare 3)))) (oVal (wSl (oSlot 2) (pInt (w2 fAdd (oSlot 3) (oVal (wC (.int 1))))) pNo))) (gNm 5)))
  (sSeq (sFrz 6 (sAsg (wSl (oSlot 4) (pInt (w2 fAdd (oSlot 3) (oVal (wC (.int 1))))) pNo) (gNm 6)))
  (sSeq (sIf (tOr' (tOf (w2 fNe (oVal (wSl (oSlot 4) pNo (pInt (w2 fAdd (oSlot 3) (oVal (wC (.int 1))))))) (oVal (w2 fRep (oVal (wLst (aCons (wC (.int 0)) aNil))) (oVal (w2 fAdd (oSlot 3) (oVal (wC (.int 1))))))))) (tOr' (tOf (w2 fNe (oSlot 6) (oVal (w1 fSortedR (oSlot 6))))) (tOf (w2 fGt (oVal (w1 fMaxL (oSlot 6))) (oVal (wC (.int 2))))))) (sRet (wC (.bool false))) sNil)
  (sSeq (sIf (tOf (w2 fNe (oVal (w2 fEq (oVal (w1 fMaxL (oSlot 6))) (oVal (wC (.int 0))))) (oVal (w2 fEq (oVal (w2 fIx (oVal (wCall [false, false, false] f_go (aCons (wShare 0) (aCons (wShare 1) (aCons (wSl (oSlot 2) pNo (pInt (w2 fAdd (oSlot 3) (oVal (wC (.int 1)))))) aNil))))) (oVal (wC (.int 1))))) (oVal (w2 fIx (oVal (wCall [false, false, false] f_go (aCons (wShare 0) (aCons (wShare 1) (aCons (wSl (oSlot 2) pNo (pInt (wShare 3))) aNil))))) (oVal (wC (.int 1))))))))) (sRet (wC (.bool false))) sNil)
  (sRet (w2 fEq (oVal (w2 fIx (oSlot 4) (oVal (w1 fNeg (oVal (wC (.int 1))))))) (oVal (wCall [false, false, false] f_far_apart (aCons (wShare 0) (aCons (w2 fIx (oVal (wCall [false, false, false] f_go (aCons (wShare 0) (aCons (wShare 1) (aCons (wMove 2) aNil))))) (oVal (wC (.int 1)))) (aCons (w2 fIx (oVal (wCall [false, false, false] f_go (aCons (wShare 0) (aCons (wShare 1) (aCons (wMove 5) aNil))))) (oVal (wC (.int 1)))) aNil))))))))))))
theorem den__law_left_right (Z : Blt mg) {a_left_out : Addr} {d_left_out : FuncData} {f_left_out : FS} (h_left_out : Cal P w K mg base 10 "left_out" a_left_out d_left_out ["yard", "standing", "day", "number"] [false, false, false, false] f_left_out) {a_far_apart : Addr} {d_far_apart : FuncData} {f_far_apart : FS} (h_far_apart : Cal P w K mg base 8 "far_apart" a_far_apart d_far_apart ["yard", "one", "other"] [false, false, false] f_far_apart) {a_go : Addr} {d_go : FuncData} {f_go : FS} (h_go : Cal P w K mg base 10 "go" a_go d_go ["yard", "standing", "day"] [false, false, false] f_go) : DenB P w K mg base 10 n__law_left_right ⟨defScope s__law_left_right, fun _ => true⟩ [false, false, false, false] (defBody s__law_left_right) (w__law_left_right f_left_out f_far_apart f_go) :=
  (denb_cons (dens_frz (i := 4) (dens_set (i := 4) rfl (by decide +kernel) rfl (den_call h_left_out (by decide) (by decide +kernel) (den_acons (den_share (i := 0) rfl (by decide +kernel)) (den_acons (den_share (i := 1) rfl (by decide +kernel)) (den_acons (den_share (i := 2) rfl (by decide +kernel)) (den_acons (den_share (i := 3) rfl (by decide +kernel)) den_anil)))))))
    (denb_cons (dens_frz (i := 5) (dens_set (i := 5) rfl (by decide +kernel) rfl (den_add (den_oval (den_slice (den_oslot (i := 2) rfl (by decide +kernel)) denp_no (denp_int (den_share (i := 3) rfl (by decide +kernel))))) (den_oval (den_slice (den_oslot (i := 2) rfl (by decide +kernel)) (denp_int (den_add (den_oslot (i := 3) rfl (by decide +kernel)) (den_oval den_int))) denp_no)))))
    (denb_cons (dens_frz (i := 6) (dens_set (i := 6) rfl (by decide +kernel) rfl (den_slice (den_oslot (i := 4) rfl (by decide +kernel)) (denp_int (den_add (den_oslot (i := 3) rfl (by decide +kernel)) (den_oval den_int))) denp_no)))
    (denb_cons (dens_if (dent_of (denw_or (dent_cmpR cmp_ne (den_oval (den_slice (den_oslot (i := 4) rfl (by decide +kernel)) denp_no (denp_int (den_add (den_oslot (i := 3) rfl (by decide +kernel)) (den_oval den_int))))) (den_oval (den_mulL (den_oval (den_lst (den_acons den_int den_anil))) (den_oval (den_add (den_oslot (i := 3) rfl (by decide +kernel)) (den_oval den_int)))))) (denw_or (dent_cmpR cmp_ne (den_oslot (i := 6) rfl (by decide +kernel)) (den_oval (den_sortedR Z.b_sorted (by decide +kernel) (den_oslot (i := 6) rfl (by decide +kernel))))) (denw_or1 (dent_cmpR cmp_gt (den_oval (den_maxL Z.b_max (by decide +kernel) (den_oslot (i := 6) rfl (by decide +kernel)))) (den_oval den_int)))))) (denb_one (dens_ret den_bl)) denb_nil)
    (denb_cons (dens_if (dent_cmpR cmp_ne (den_oval (den_cmpR cmp_eq (den_oval (den_maxL Z.b_max (by decide +kernel) (den_oslot (i := 6) rfl (by decide +kernel)))) (den_oval den_int))) (den_oval (den_cmpR cmp_eq (den_oval (den_at (den_oval (den_call h_go (by decide) (by decide +kernel) (den_acons (den_share (i := 0) rfl (by decide +kernel)) (den_acons (den_share (i := 1) rfl (by decide +kernel)) (den_acons (den_slice (den_oslot (i := 2) rfl (by decide +kernel)) denp_no (denp_int (den_add (den_oslot (i := 3) rfl (by decide +kernel)) (den_oval den_int)))) den_anil))))) (den_oval den_int))) (den_oval (den_at (den_oval (den_call h_go (by decide) (by decide +kernel) (den_acons (den_share (i := 0) rfl (by decide +kernel)) (den_acons (den_share (i := 1) rfl (by decide +kernel)) (den_acons (den_slice (den_oslot (i := 2) rfl (by decide +kernel)) denp_no (denp_int (den_share (i := 3) rfl (by decide +kernel)))) den_anil))))) (den_oval den_int)))))) (denb_one (dens_ret den_bl)) denb_nil)
    (denb_one (dens_ret (den_cmpR cmp_eq (den_oval (den_at (den_oslot (i := 4) rfl (by decide +kernel)) (den_oval (den_neg (den_oval den_int))))) (den_oval (den_call h_far_apart (by decide) (by decide +kernel) (den_acons (den_share (i := 0) rfl (by decide +kernel)) (den_acons (den_at (den_oval (den_call h_go (by decide) (by decide +kernel) (den_acons (den_share (i := 0) rfl (by decide +kernel)) (den_acons (den_share (i := 1) rfl (by decide +kernel)) (den_acons (den_move (i := 2) rfl (by decide +kernel)) den_anil))))) (den_oval den_int)) (den_acons (den_at (den_oval (den_call h_go (by decide) (by decide +kernel) (den_acons (den_share (i := 0) rfl (by decide +kernel)) (den_acons (den_share (i := 1) rfl (by decide +kernel)) (den_acons (den_move (i := 5) rfl (by decide +kernel)) den_anil))))) (den_oval den_int)) den_anil)))))))))))))
/-! law -/
abbrev s_law : Stmt := topS 48
abbrev n_law : List Str := ["script", "k", "cart", "rooms", "lie", "asks", "turn", "spot"]
theorem sc_law : FnScope n_law ["script"] (defScope s_law) := ⟨rfl, rfl, rfl, by decide +kernel, rfl, by decide +kernel, by decide +kernel⟩
def w_law (f__law_cart : FS) (f__law_rooms : FS) (f__law_things : FS) (f__law_asks : FS) (f__law_pull : FS) (f_far_apart : FS) (f__law_some : FS) (f__law_exchanged_right : FS) (f__law_left_right : FS) (f_go : FS) (f_served : FS) : WS :=
  (sSeq (sFor (iRg1 (w2 fMax (oVal (wC (.int 1))) (oVal (w2 fMin (oVal (wC (.int 4))) (oVal (w1 fLen (oSlot 0))))))) (gNm 1) (sSeq (sAsg (wCall [false, false] f__law_cart (aCons (wShare 0) (aCons (wShare 1) aNil))) (gNm 2))
  (sSeq (sFrz 3 (sAsg (wCall [true, false] f__law_rooms (aBor 2 (aCons (wC (.int 9)) aNil))) (gNm 3)))
  (sSeq (sFrz 4 (sAsg (wCall [true, false] f__law_things (aBor 2 (aCons (wShare 3) aNil))) (gNm 4)))
  (sSeq (sFrz 5 (sAsg (wCall [true, false, false] f__law_asks (aBor 2 (aCons (w1 fLen (oSlot 3)) (aCons (w2 fIx (oVal (wLst (aCons (wC (.int 8)) (aCons (wC (.int 58)) aNil)))) (oVal (wCall [true, false] f__law_pull (aBor 2 (aCons (wC (.int 2)) aNil))))) aNil)))) (gNm 5)))
  (sSeq (sFrz 5 (sAsg (w2 fAdd (oSlot 5) (oVal (wComp (iRg1 (wC (.int 2))) (gNm 6) tYes' (wTup (aCons (wCall [true, false] f__law_some (aBor 2 (aCons (w1 fLen (oSlot 3)) aNil))) (aCons (wCall [true, false] f__law_some (aBor 2 (aCons (w1 fLen (oSlot 3)) aNil))) aNil))) [6]))) (gNm 5)))
  (sSeq (sFor (iRg1 (wC (.int 5))) (gNm 6) (sSeq (sFrz 7 (sAsg (wCall [true, false] f__law_pull (aBor 2 (aCons (w2 fSub (oVal (w1 fLen (oSlot 5))) (oVal (wC (.int 1)))) aNil))) (gNm 7)))
  (sIf (tOr' (tNot' (tOf (wCall [false, false, false, false] f__law_exchanged_right (aCons (wShare 3) (aCons (wShare 4) (aCons (wShare 5) (aCons (wShare 7) aNil))))))) (tNot' (tOf (wCall [false, false, false, false] f__law_left_right (aCons (wShare 3) (aCons (wShare 4) (aCons (wShare 5) (aCons (wShare 7) aNil)))))))) (sRet (wC (.bool false))) sNil)))
  (sIf (tOf (w2 fGt (oVal (wCall [false, false, false] f_far_apart (aCons (wShare 3) (aCons (wShare 4) (aCons (w2 fIx (oVal (wCall [false, false, false] f_go (aCons (wShare 3) (aCons (wShare 4) (aCons (wShare 5) aNil))))) (oVal (wC (.int 1)))) aNil))))) (oVal (w2 fMul (oVal (wC (.int 2))) (oVal (w1 fLen (oVal (wCall [false, false, false] f_served (aCons (wShare 3) (aCons (wShare 4) (aCons (wShare 5) aNil))))))))))) (sRet (wC (.bool false))) sNil))))))))
  (sRet (wC (.bool true))))
theorem den_law (Z : Blt mg) {a__law_cart : Addr} {d__law_cart : FuncData} {f__law_cart : FS} (h__law_cart : Cal P w K mg base 1 "_law_cart" a__law_cart d__law_cart ["script", "k"] [false, false] f__law_cart) {a__law_rooms : Addr} {d__law_rooms : FuncData} {f__law_rooms : FS} (h__law_rooms : Cal P w K mg base 2 "_law_rooms" a__law_rooms d__law_rooms ["cart", "most"] [true, false] f__law_rooms) {a__law_things : Addr} {d__law_things : FuncData} {f__law_things : FS} (h__law_things : Cal P w K mg base 2 "_law_things" a__law_things d__law_things ["cart", "rooms"] [true, false] f__law_things) {a__law_asks : Addr} {d__law_asks : FuncData} {f__law_asks : FS} (h__law_asks : Cal P w K mg base 3 "_law_asks" a__law_asks d__law_asks ["cart", "size", "most"] [true, false, false] f__law_asks) {a__law_pull : Addr} {d__law_pull : FuncData} {f__law_pull : FS} (h__law_pull : Cal P w K mg base 1 "_law_pull" a__law_pull d__law_pull ["cart", "wide"] [true, false] f__law_pull) {a_far_apart : Addr} {d_far_apart : FuncData} {f_far_apart : FS} (h_far_apart : Cal P w K mg base 8 "far_apart" a_far_apart d_far_apart ["yard", "one", "other"] [false, false, false] f_far_apart) {a__law_some : Addr} {d__law_some : FuncData} {f__law_some : FS} (h__law_some : Cal P w K mg base 2 "_law_some" a__law_some d__law_some ["cart", "size"] [true, false] f__law_some) {a__law_exchanged_right : Addr} {d__law_exchanged_right : FuncData} {f__law_exchanged_right : FS} (h__law_exchanged_right : Cal P w K mg base 11 "_law_exchanged_right" a__law_exchanged_right d__law_exchanged_right ["rooms", "lie", "asks", "spot"] [false, false, false, false] f__law_exchanged_right) {a__law_left_right : Addr} {d__law_left_right : FuncData} {f__law_left_right : FS} (h__law_left_right : Cal P w K mg base 11 "_law_left_right" a__law_left_right d__law_left_right ["rooms", "lie", "asks", "spot"] [false, false, false, false] f__law_left_right) {a_go : Addr} {d_go : FuncData} {f_go : FS} (h_go : Cal P w K mg base 10 "go" a_go d_go ["yard", "standing", "day"] [false, false, false] f_go) {a_served : Addr} {d_served : FuncData} {f_served : FS} (h_served : Cal P w K mg base 11 "served" a_served d_served ["yard", "standing", "day"] [false, false, false] f_served) : DenB P w K mg base 11 n_law ⟨defScope s_law, fun _ => true⟩ [false] (defBody s_law) (w_law f__law_cart f__law_rooms f__law_things f__law_asks f__law_pull f_far_apart f__law_some f__law_exchanged_right f__law_left_right f_go f_served) :=
  (denb_cons (dens_for (deni_range1 Z.b_range (by decide +kernel) (den_max Z.b_max (by decide +kernel) (den_oval den_int) (den_oval (den_min Z.b_min (by decide +kernel) (den_oval den_int) (den_oval (den_len Z.b_len (by decide +kernel) (den_oslot (i := 0) rfl (by decide +kernel)))))))) (deng_nm (i := 1) rfl (by decide +kernel) rfl) (denb_cons (dens_set (i := 2) rfl (by decide +kernel) rfl (den_call h__law_cart (by decide) (by decide +kernel) (den_acons (den_share (i := 0) rfl (by decide +kernel)) (den_acons (den_share (i := 1) rfl (by decide +kernel)) den_anil))))
    (denb_cons (dens_frz (i := 3) (dens_set (i := 3) rfl (by decide +kernel) rfl (den_call h__law_rooms (by decide) (by decide +kernel) (den_abor (i := 2) rfl (by decide +kernel) (den_acons den_int den_anil)))))
    (denb_cons (dens_frz (i := 4) (dens_set (i := 4) rfl (by decide +kernel) rfl (den_call h__law_things (by decide) (by decide +kernel) (den_abor (i := 2) rfl (by decide +kernel) (den_acons (den_share (i := 3) rfl (by decide +kernel)) den_anil)))))
    (denb_cons (dens_frz (i := 5) (dens_set (i := 5) rfl (by decide +kernel) rfl (den_call h__law_asks (by decide) (by decide +kernel) (den_abor (i := 2) rfl (by decide +kernel) (den_acons (den_len Z.b_len (by decide +kernel) (den_oslot (i := 3) rfl (by decide +kernel))) (den_acons (den_at (den_oval (den_lst (den_acons den_int (den_acons den_int den_anil)))) (den_oval (den_call h__law_pull (by decide) (by decide +kernel) (den_abor (i := 2) rfl (by decide +kernel) (den_acons den_int den_anil))))) den_anil))))))
    (denb_cons (dens_frz (i := 5) (dens_set (i := 5) rfl (by decide +kernel) rfl (den_add (den_oslot (i := 5) rfl (by decide +kernel)) (den_oval (den_comp (own := [("turn", 6)]) rfl (by decide +kernel) (deni_range1 Z.b_range (by decide +kernel) den_int) (comp_nm (i := 6) rfl (by decide +kernel) (by decide) dents_nil (den_tup (den_acons (den_call h__law_some (by decide) (by decide +kernel) (den_abor (i := 2) rfl (by decide +kernel) (den_acons (den_len Z.b_len (by decide +kernel) (den_oslot (i := 3) rfl (by decide +kernel))) den_anil))) (den_acons (den_call h__law_some (by decide) (by decide +kernel) (den_abor (i := 2) rfl (by decide +kernel) (den_acons (den_len Z.b_len (by decide +kernel) (den_oslot (i := 3) rfl (by decide +kernel))) den_anil))) den_anil)))))))))
    (denb_cons (dens_for (deni_range1 Z.b_range (by decide +kernel) den_int) (deng_nm (i := 6) rfl (by decide +kernel) rfl) (denb_cons (dens_frz (i := 7) (dens_set (i := 7) rfl (by decide +kernel) rfl (den_call h__law_pull (by decide) (by decide +kernel) (den_abor (i := 2) rfl (by decide +kernel) (den_acons (den_sub (den_oval (den_len Z.b_len (by decide +kernel) (den_oslot (i := 5) rfl (by decide +kernel)))) (den_oval den_int)) den_anil)))))
    (denb_one (dens_if (dent_of (denw_or (dent_not (dent_val (den_call h__law_exchanged_right (by decide) (by decide +kernel) (den_acons (den_share (i := 3) rfl (by decide +kernel)) (den_acons (den_share (i := 4) rfl (by decide +kernel)) (den_acons (den_share (i := 5) rfl (by decide +kernel)) (den_acons (den_share (i := 7) rfl (by decide +kernel)) den_anil))))))) (denw_or1 (dent_not (dent_val (den_call h__law_left_right (by decide) (by decide +kernel) (den_acons (den_share (i := 3) rfl (by decide +kernel)) (den_acons (den_share (i := 4) rfl (by decide +kernel)) (den_acons (den_share (i := 5) rfl (by decide +kernel)) (den_acons (den_share (i := 7) rfl (by decide +kernel)) den_anil)))))))))) (denb_one (dens_ret den_bl)) denb_nil))))
    (denb_one (dens_if (dent_cmpR cmp_gt (den_oval (den_call h_far_apart (by decide) (by decide +kernel) (den_acons (den_share (i := 3) rfl (by decide +kernel)) (den_acons (den_share (i := 4) rfl (by decide +kernel)) (den_acons (den_at (den_oval (den_call h_go (by decide) (by decide +kernel) (den_acons (den_share (i := 3) rfl (by decide +kernel)) (den_acons (den_share (i := 4) rfl (by decide +kernel)) (den_acons (den_share (i := 5) rfl (by decide +kernel)) den_anil))))) (den_oval den_int)) den_anil))))) (den_oval (den_mul (den_oval den_int) (den_oval (den_len Z.b_len (by decide +kernel) (den_oval (den_call h_served (by decide) (by decide +kernel) (den_acons (den_share (i := 3) rfl (by decide +kernel)) (den_acons (den_share (i := 4) rfl (by decide +kernel)) (den_acons (den_share (i := 5) rfl (by decide +kernel)) den_anil)))))))))) (denb_one (dens_ret den_bl)) denb_nil)))))))))
    (denb_one (dens_ret den_bl)))
end
end Lw
namespace Lw
open PySem PySem.Spec PyProof.Rows L2 Kb
local macro_rules | `(tactic| walk_at "wp") => `(tactic| simp (config := { maxSteps := 5000000 }) only [wShare, wMove, wC, oSlot, oVal, OV.get, aNil, aCons, aBor, w1, w2, w3, f2I, fAdd, fIx, fLen, fList, fTuple, fRepr, fLt, fGt, fLe, fGe, fSub, fMul, fPow, fMod, fDiv, fMax, fMin, gt_iff_lt, ge_iff_le, atI0, atI1, atI2, atI3, atI4, ixN30, ixN31, ixN32, fAbs, fAll, fSum, fMinL, fMaxL, fIn, fInD, fInt, fSorted, fSortedR, fSortedT, fRev, fIndex, sWhile, sPar, sPar3, fIsi, fIsN, fNotN, fNeg, fEq, fNe, fRange, fLenSet, fSl, wSl, pNo, pInt, tOf, tTr, tAnd', tOr', tNot', wAnd, wOr, wNot, wIf, wTup, wLst, dvsOf, allDat, mkTup, dats, DV.dat, nd_data, nd_olist, nd_otup, nds_nil, nds_data, nds_olist, nds_otup, dict_o, dict_s, wDNew, sDSet, fDIn, fDGet, iDk, wComp2, wDt, fComb, aApp, aDef, aOne, seqOf, lstOf, tupOf, isN, tyNm, gNm, gTp, gPr, gLs, wIndex, fRepT, fAny, parts, setAll, sSeq, sNil, sAsg, sFrz, sExpr, sRet, sIf, sNever, sBreak, sCont, sFor, iVal, seqD, iRg1, iRg2, iRg3, iEnu, iEnuT, iZp, wComp, wLenSi, kill, bring, tYes', wCall, wCallK, wFz, fRep, wClear, wCallV, datsA, flatD, fIsi2, wExtend, List.map_cons, takeA, putA, sSetIx, sAugIx, wAppend, wReverse, wPopAt, wAppendT, wReverseT, endsOf, selO, initE, List.getElem?_cons_zero, List.getElem?_cons_succ, List.getElem?_nil, List.set_cons_zero, List.set_cons_succ, List.map_cons, List.map_nil, List.cons_append, List.nil_append, List.length_cons, List.length_nil, List.replicate_succ, List.replicate_zero, List.append_nil, Nat.reduceAdd, Nat.reduceSub, Nat.reduceEqDiff, Nat.reduceLeDiff, if_true, if_false, ite_true, ite_false, true_and, and_true, Bool.not_true, Bool.not_false, Bool.false_eq_true, Bool.true_eq_false, reduceIte, lim])
local macro_rules | `(tactic| walk_at "wq") => `(tactic| try simp (config := { maxSteps := 5000000 }) only [wShare, wMove, wC, oSlot, oVal, OV.get, aNil, aCons, aBor, w1, w2, w3, f2I, fAdd, fIx, fLen, fList, fTuple, fRepr, fLt, fGt, fLe, fGe, fSub, fMul, fPow, fMod, fDiv, fMax, fMin, gt_iff_lt, ge_iff_le, atI0, atI1, atI2, atI3, atI4, ixN30, ixN31, ixN32, fAbs, fAll, fSum, fMinL, fMaxL, fIn, fInD, fInt, fSorted, fSortedR, fSortedT, fRev, fIndex, sWhile, sPar, sPar3, fIsi, fIsN, fNotN, fNeg, fEq, fNe, fRange, fLenSet, fSl, wSl, pNo, pInt, tOf, tTr, tAnd', tOr', tNot', wAnd, wOr, wNot, wIf, wTup, wLst, dvsOf, allDat, mkTup, dats, DV.dat, nd_data, nd_olist, nd_otup, nds_nil, nds_data, nds_olist, nds_otup, dict_o, dict_s, wDNew, sDSet, fDIn, fDGet, iDk, wComp2, wDt, fComb, aApp, aDef, aOne, seqOf, lstOf, tupOf, isN, tyNm, gNm, gTp, gPr, gLs, wIndex, fRepT, fAny, parts, setAll, sSeq, sNil, sAsg, sFrz, sExpr, sRet, sIf, sNever, sBreak, sCont, sFor, iVal, seqD, iRg1, iRg2, iRg3, iEnu, iEnuT, iZp, wComp, wLenSi, kill, bring, tYes', wCall, wCallK, wFz, fRep, wClear, wCallV, datsA, flatD, fIsi2, wExtend, List.map_cons, takeA, putA, sSetIx, sAugIx, wAppend, wReverse, wPopAt, wAppendT, wReverseT, endsOf, selO, initE, List.getElem?_cons_zero, List.getElem?_cons_succ, List.getElem?_nil, List.set_cons_zero, List.set_cons_succ, List.map_cons, List.map_nil, List.cons_append, List.nil_append, List.length_cons, List.length_nil, List.replicate_succ, List.replicate_zero, List.append_nil, Nat.reduceAdd, Nat.reduceSub, Nat.reduceEqDiff, Nat.reduceLeDiff, if_true, if_false, ite_true, ite_false, true_and, and_true, Bool.not_true, Bool.not_false, Bool.false_eq_true, Bool.true_eq_false, reduceIte, lim])
local macro_rules | `(tactic| walk_at "ws") => `(tactic| try simp (config := { maxSteps := 5000000 }) only [wShare, wMove, wC, oSlot, oVal, OV.get, aNil, aCons, aBor, w1, w2, w3, f2I, fAdd, fIx, fLen, fList, fTuple, fRepr, fLt, fGt, fLe, fGe, fSub, fMul, fPow, fMod, fDiv, fMax, fMin, gt_iff_lt, ge_iff_le, atI0, atI1, atI2, atI3, atI4, ixN30, ixN31, ixN32, fAbs, fAll, fSum, fMinL, fMaxL, fIn, fInD, fInt, fSorted, fSortedR, fSortedT, fRev, fIndex, sWhile, sPar, sPar3, fIsi, fIsN, fNotN, fNeg, fEq, fNe, fRange, fLenSet, fSl, wSl, pNo, pInt, tOf, tTr, tAnd', tOr', tNot', wAnd, wOr, wNot, wIf, wTup, wLst, dvsOf, allDat, mkTup, dats, DV.dat, nd_data, nd_olist, nd_otup, nds_nil, nds_data, nds_olist, nds_otup, dict_o, dict_s, wDNew, sDSet, fDIn, fDGet, iDk, wComp2, wDt, fComb, aApp, aDef, aOne, seqOf, lstOf, tupOf, isN, tyNm, gNm, gTp, gPr, gLs, wIndex, fRepT, fAny, parts, setAll, sNil, sAsg, sFrz, sExpr, sRet, sIf, sNever, sBreak, sCont, sFor, iVal, seqD, iRg1, iRg2, iRg3, iEnu, iEnuT, iZp, wComp, wLenSi, kill, bring, tYes', wCall, wCallK, wFz, fRep, wClear, wCallV, datsA, flatD, fIsi2, wExtend, List.map_cons, takeA, putA, sSetIx, sAugIx, wAppend, wReverse, wPopAt, wAppendT, wReverseT, endsOf, selO, initE, List.getElem?_cons_zero, List.getElem?_cons_succ, List.getElem?_nil, List.set_cons_zero, List.set_cons_succ, List.map_cons, List.map_nil, List.cons_append, List.nil_append, List.length_cons, List.length_nil, List.replicate_succ, List.replicate_zero, List.append_nil, Nat.reduceAdd, Nat.reduceSub, Nat.reduceEqDiff, Nat.reduceLeDiff, if_true, if_false, ite_true, ite_false, true_and, and_true, Bool.not_true, Bool.not_false, Bool.false_eq_true, Bool.true_eq_false, reduceIte, lim])
def fs_is_whole : FS := fun dvs R => ∃ d, dvs = [.data d] ∧ R (.data (.bool (isWholeD d))) []
theorem sp_is_whole (dvs : List DV) (R : DV → List DV → Prop) (hl : dvs.length = [false].length) (h : fs_is_whole dvs R) : w_is_whole (endsOf [false] R) (initE n_is_whole.length dvs) := by
  obtain ⟨d, rfl, h⟩ := h
  unfold w_is_whole
  walk_at "wp"
  cases d <;> exact h
def fs_is_count : FS := fun dvs R => ∃ d, dvs = [.data d] ∧ R (.data (.bool (isCountD d))) []
theorem sp_is_count (dvs : List DV) (R : DV → List DV → Prop) (hl : dvs.length = [false].length) (h : fs_is_count dvs R) : w_is_count fs_is_whole (endsOf [false] R) (initE n_is_count.length dvs) := by
  obtain ⟨d, rfl, h⟩ := h
  unfold w_is_count
  walk_at "wp"
  refine ⟨d, rfl, ?_⟩
  cases d <;> (walk_at "wp" <;> simp only [isWholeD] <;> walk_at "wp" <;> exact h)
def fs_is_count_below : FS := fun dvs R => ∃ (n : Nat) (d : PyData), dvs = [.data (.int n), .data d] ∧ R (.data (.bool (isPlaceD n d))) []
theorem sp_is_count_below (dvs : List DV) (R : DV → List DV → Prop) (hl : dvs.length = [false, false].length) (h : fs_is_count_below dvs R) : w_is_count_below fs_is_count (endsOf [false, false] R) (initE n_is_count_below.length dvs) := by
  obtain ⟨n, d, rfl, h⟩ := h
  unfold w_is_count_below
  walk_at "wp"
  refine ⟨d, rfl, ?_⟩
  cases d
  case int i =>
    simp only [isPlaceD] at h
    simp only [isCountD]
    by_cases hi : 0 ≤ i
    · simp only [hi, decide_true, if_true, Bool.true_and] at h ⊢
      walk_at "wp"
      exact h
    · simp only [hi, decide_false, Bool.false_and, Bool.false_eq_true, if_false] at h ⊢
      exact h
  all_goals (first | exact h | (walk_at "wq"; exact h))
def fs_is_place : FS := fun dvs R => ∃ y ds d, dvs = [.data y, .data d] ∧ seqOf (.data y) = some ds ∧ R (.data (.bool (isPlaceD ds.length d))) []
theorem sp_is_place (dvs : List DV) (R : DV → List DV → Prop) (hl : dvs.length = [false, false].length) (h : fs_is_place dvs R) : w_is_place fs_is_count_below (endsOf [false, false] R) (initE n_is_place.length dvs) := by
  obtain ⟨y, ds, d, rfl, hy, h⟩ := h
  unfold w_is_place
  rcases seq_cases hy with e | e | e <;> cases e
  all_goals
    walk_at "wp"
    exact ⟨ds.length, d, rfl, h⟩
def fs_is_yard : FS := fun dvs R => ∃ d, dvs = [.data d] ∧ R (.data (.bool (isYardD d))) []
theorem sp_is_yard (dvs : List DV) (R : DV → List DV → Prop) (hl : dvs.length = [false].length) (h : fs_is_yard dvs R) : w_is_yard fs_is_count (endsOf [false] R) (initE n_is_yard.length dvs) := by
  obtain ⟨d, rfl, h⟩ := h
  unfold w_is_yard
  cases d
  case tuple ds =>
    walk_at "wp"
    simp only [isYardD] at h
    have hT : isTy "tuple" "tuple" = true := by decide
    simp only [hT, Bool.not_true, Bool.false_eq_true, if_false]
    by_cases h1 : (1 : Int) ≤ (ds.length : Int)
    · have h1' : 1 ≤ ds.length := by omega
      simp only [h1, decide_true]
      by_cases h2 : (ds.length : Int) ≤ 9
      · have h2' : ds.length ≤ 9 := by omega
        simp only [h1', h2', decide_true, Bool.true_and] at h
        simp only [h2, decide_true, Bool.not_true, Bool.false_eq_true, if_false]
        refine compGo_map [none, none] (fun d => .bool (isRoomD d)) ds [] _ rfl (by simp; omega) (fun d hd Z hZ => ?_) ?_
        · walk_at "wp"
          cases d
          case none => exact hZ _ _ rfl rfl
          all_goals (walk_at "wp"; exact ⟨_, rfl, hZ _ _ rfl rfl⟩)
        · have e : ([] ++ List.map (fun d => PyData.bool (isRoomD d)) ds) = (ds.map isRoomD).map .bool := by simp
          rw [e]
          walk_at "wp"
          rw [boolsOf_map]
          have e2 : ((ds.map isRoomD).all fun b => b) = ds.all isRoomD := by simp [List.all_map]; rfl
          simp only [e2]
          exact h
      · have h2' : ¬ ds.length ≤ 9 := by omega
        simp only [h2', decide_false, Bool.and_false, Bool.false_and] at h
        simp only [h2, decide_false, Bool.not_false, if_true]
        exact h
    · have h1' : ¬ 1 ≤ ds.length := by omega
      simp only [h1', decide_false, Bool.false_and] at h
      simp only [h1, decide_false, Bool.not_false, if_true]
      exact h
  all_goals (first | exact h | (walk_at "wq"; exact h))
def fs_fits : FS := fun dvs R => ∃ r m, dvs = [.data r, .data m] ∧ isRoomD r = true ∧ R (.data (.bool (fitsD r m))) []
theorem sp_fits (dvs : List DV) (R : DV → List DV → Prop) (hl : dvs.length = [false, false].length) (h : fs_fits dvs R) : w_fits fs_is_count (endsOf [false, false] R) (initE n_fits.length dvs) := by
  obtain ⟨r, m, rfl, hr, h⟩ := h
  unfold w_fits
  walk_at "wp"
  refine ⟨m, rfl, ?_⟩
  cases m
  case int i =>
    simp only [fitsD, isCountD] at h ⊢
    by_cases hi : 0 ≤ i
    · simp only [hi, decide_true, if_true, Bool.true_and] at h ⊢
      rcases room_cases hr with rfl | ⟨j, rfl, hj⟩
      · walk_at "wp"
        exact h
      · walk_at "wp"
        exact h
    · simp only [hi, decide_false, Bool.false_and, Bool.false_eq_true, if_false] at h ⊢
      exact h
  all_goals (first | exact h | (walk_at "wq"; exact h))
def fs_check_yard : FS := fun dvs R => ∃ d, dvs = [.data d] ∧ isYardD d = true ∧ R (.data .none) []
theorem sp_check_yard (dvs : List DV) (R : DV → List DV → Prop) (hl : dvs.length = [false].length) (h : fs_check_yard dvs R) : w_check_yard fs_is_yard (endsOf [false] R) (initE n_check_yard.length dvs) := by
  obtain ⟨d, rfl, hd, h⟩ := h
  unfold w_check_yard
  walk_at "wp"
  refine ⟨d, rfl, ?_⟩
  rw [hd]
  exact h
def fs_is_standing : FS := fun dvs R => ∃ ds d, dvs = [.data (.tuple ds), .data d] ∧ isYardD (.tuple ds) = true ∧ R (.data (.bool (isStandD ds d))) []
theorem sp_is_standing (dvs : List DV) (R : DV → List DV → Prop) (hl : dvs.length = [false, false].length) (h : fs_is_standing dvs R) : w_is_standing fs_check_yard fs_fits (endsOf [false, false] R) (initE n_is_standing.length dvs) := by
  obtain ⟨ds, d, rfl, hd, h⟩ := h
  unfold w_is_standing
  walk_at "wp"
  refine ⟨.tuple ds, rfl, hd, ?_⟩
  have hd' := hd
  simp only [isYardD, Bool.and_eq_true, decide_eq_true_eq] at hd'
  cases d
  case tuple es =>
    walk_at "wp"
    simp only [isStandD] at h
    have hT : isTy "tuple" "tuple" = true := by decide
    simp only [hT, Bool.not_true, Bool.false_eq_true, if_false, PyData.eqv]
    refine ⟨rfl, rfl, ?_⟩
    by_cases he : es.length = ds.length
    · simp only [he, decide_true, Bool.true_and, beq_self_eq_true, Bool.not_true, Bool.false_eq_true, if_false] at h ⊢
      have key : ∀ (xs : List PyData) (ys acc : List PyData) (Q : List PyData → Ev → Prop) (env : Ev), xs.all isRoomD = true → acc.length + (zipD xs ys).length ≤ 16000000 → kill env [2, 3] = [none, none, none, none] → Q (acc ++ (List.zipWith fitsD xs ys).map .bool) [none, none, none, none] → compGo (gTp [2, 3]) tYes' (wCall [false, false] fs_fits (aCons (wShare 2) (aCons (wShare 3) aNil))) [2, 3] Q (zipD xs ys) acc env := by
        intro xs ys
        induction xs generalizing ys with
        | nil =>
          intro acc Q env _ _ hk hq
          have e : zipD [] ys = [] := rfl
          rw [e]
          show Q acc (kill env [2, 3])
          rw [hk]
          simpa using hq
        | cons x xs ih =>
          intro acc Q env hx hl hk hq
          cases ys with
          | nil =>
            show Q acc (kill env [2, 3])
            rw [hk]
            simpa using hq
          | cons y ys =>
            simp only [List.all_cons, Bool.and_eq_true] at hx
            show gTp [2, 3] (.data (.tuple [x, y])) (kill env [2, 3]) _
            rw [hk]
            have hl' : acc.length + ((zipD xs ys).length + 1) ≤ 16000000 := hl
            walk_at "wp"
            refine ⟨x, y, rfl, hx.1, by omega, ?_⟩
            first
              | exact ⟨rfl, ih ys _ Q _ hx.2 (by rw [List.length_append]; simp only [List.length_cons, List.length_nil]; omega) rfl (by simpa [DV.dat] using hq)⟩
              | exact ih ys _ Q _ hx.2 (by rw [List.length_append]; simp only [List.length_cons, List.length_nil]; omega) rfl (by simpa [DV.dat] using hq)
      refine key ds es [] _ _ hd'.2 (by rw [zipD_len]; simp only [List.length_nil]; omega) rfl ?_
      walk_at "wp"
      rw [boolsOf_map]
      exact h
    · have he' : ((es.length : Int) == (ds.length : Int)) = false := by simp; omega
      simp only [he, he', decide_false, Bool.false_and, Bool.not_false, if_true] at h ⊢
      exact h
  all_goals (first | exact h | (walk_at "wq"; exact h))
def fs_are_unlike_places : FS := fun dvs R => ∃ ds d, dvs = [.data (.tuple ds), .data d] ∧ Shrt d ∧ R (.data (.bool (unlikeD ds.length d))) []
theorem sp_are_unlike_places (dvs : List DV) (R : DV → List DV → Prop) (hl : dvs.length = [false, false].length) (h : fs_are_unlike_places dvs R) : w_are_unlike_places fs_is_place (endsOf [false, false] R) (initE n_are_unlike_places.length dvs) := by
  obtain ⟨ds, d, rfl, hs, h⟩ := h
  unfold w_are_unlike_places
  cases d
  case tuple es =>
    walk_at "wp"
    simp only [unlikeD] at h
    rw [Shrt] at hs
    have hT : isTy "tuple" "tuple" = true := by decide
    simp only [hT, Bool.not_true, Bool.false_eq_true, if_false]
    refine compGo_map [some (.data (.tuple ds)), some (.data (.tuple es)), none] (fun d => .bool (isPlaceD ds.length d)) es [] _ rfl (by simp; omega) (fun d hd Z hZ => ?_) ?_
    · walk_at "wp"
      exact ⟨_, ds, d, rfl, rfl, hZ _ _ rfl rfl⟩
    · have e : ([] ++ List.map (fun d => PyData.bool (isPlaceD ds.length d)) es) = (es.map (isPlaceD ds.length)).map .bool := by simp
      rw [e]
      walk_at "wp"
      rw [boolsOf_map]
      have e2 : ((es.map (isPlaceD ds.length)).all fun b => b) = es.all (isPlaceD ds.length) := by simp [List.all_map]; rfl
      simp only [e2]
      by_cases ha : es.all (isPlaceD ds.length) = true
      · obtain ⟨ns, e3, e4⟩ := intsOf_places ha
        simp only [ha, e3, Bool.true_and, if_true, PyData.eqv] at h ⊢
        refine ⟨by omega, rfl, rfl, ?_⟩
        have e5 : (((once ns).length : Int) == (es.length : Int)) = decide ((once ns).length = ns.length) := by
          rw [e4, Bool.beq_eq_decide_eq]
          by_cases z : (once ns).length = es.length
          · simp [z]
          · have : ¬ ((once ns).length : Int) = (es.length : Int) := by omega
            simp [z, this]
        rw [e5]
        exact h
      · simp only [Bool.not_eq_true] at ha
        simp only [ha, Bool.false_and, Bool.false_eq_true, if_false] at h ⊢
        exact h
  all_goals (first | exact h | (walk_at "wq"; exact h))
def fs_is_ask : FS := fun dvs R => ∃ ds d, dvs = [.data (.tuple ds), .data d] ∧ Shrt d ∧ R (.data (.bool (isAskD ds.length d))) []
theorem sp_is_ask (dvs : List DV) (R : DV → List DV → Prop) (hl : dvs.length = [false, false].length) (h : fs_is_ask dvs R) : w_is_ask fs_are_unlike_places (endsOf [false, false] R) (initE n_is_ask.length dvs) := by
  obtain ⟨ds, d, rfl, hs, h⟩ := h
  unfold w_is_ask
  cases d
  case tuple es =>
    have hT : isTy "tuple" "tuple" = true := by decide
    rcases es with _ | ⟨a, _ | ⟨b, _ | ⟨c, es⟩⟩⟩
    · walk_at "wp"
      exact ⟨rfl, rfl, h⟩
    · walk_at "wp"
      exact ⟨rfl, rfl, h⟩
    · rw [Shrt, ShrtAll, ShrtAll] at hs
      walk_at "wp"
      refine ⟨rfl, rfl, ?_⟩
      have h2 : (PyData.int ((2 : Nat) : Int)).eqv (PyData.int 2) = true := by decide
      have i0 : atI [a, b] 0 = some a := rfl
      have i1 : atI [a, b] 1 = some b := rfl
      simp only [h2, i0, i1, Bool.not_true, Bool.false_eq_true, if_false]
      refine ⟨ds, a, rfl, hs.2.1, ?_⟩
      simp only [isAskD] at h
      by_cases ha : unlikeD ds.length a = true
      · simp only [ha, Bool.true_and, if_true] at h ⊢
        exact ⟨ds, b, rfl, hs.2.2.1, h⟩
      · simp only [Bool.not_eq_true] at ha
        simp only [ha, Bool.false_and, Bool.false_eq_true, if_false] at h ⊢
        exact h
    · walk_at "wp"
      refine ⟨rfl, rfl, ?_⟩
      have : PyData.eqv (PyData.int ((es.length + 1 + 1 + 1 : Nat) : Int)) (PyData.int 2) = false := by
        simp only [PyData.eqv]
        simp
        omega
      simp only [hT, this, Bool.not_true, Bool.not_false, Bool.false_eq_true, if_false, if_true]
      exact h
  all_goals (first | exact h | (walk_at "wq"; exact h))
def fs_is_day : FS := fun dvs R => ∃ ds d, dvs = [.data (.tuple ds), .data d] ∧ isYardD (.tuple ds) = true ∧ Shrt d ∧ R (.data (.bool (isDayD ds.length d))) []
theorem sp_is_day (dvs : List DV) (R : DV → List DV → Prop) (hl : dvs.length = [false, false].length) (h : fs_is_day dvs R) : w_is_day fs_check_yard fs_is_ask (endsOf [false, false] R) (initE n_is_day.length dvs) := by
  obtain ⟨ds, d, rfl, hd, hs, h⟩ := h
  unfold w_is_day
  walk_at "wp"
  refine ⟨.tuple ds, rfl, hd, ?_⟩
  cases d
  case list es =>
    walk_at "wp"
    simp only [isDayD] at h
    rw [Shrt] at hs
    have hT : isTy "list" "list" = true := by decide
    simp only [hT, if_true]
    refine compGo_map [some (.data (.tuple ds)), some (.data (.list es)), none] (fun d => .bool (isAskD ds.length d)) es [] _ rfl (by simp; omega) (fun d hd Z hZ => ?_) ?_
    · walk_at "wp"
      exact ⟨ds, d, rfl, shrt_mem hs.2 hd, hZ _ _ rfl rfl⟩
    · have e : ([] ++ List.map (fun d => PyData.bool (isAskD ds.length d)) es) = (es.map (isAskD ds.length)).map .bool := by simp
      rw [e]
      walk_at "wp"
      rw [boolsOf_map]
      have e2 : ((es.map (isAskD ds.length)).all fun b => b) = es.all (isAskD ds.length) := by simp [List.all_map]; rfl
      simp only [e2]
      exact h
  all_goals (first | exact h | (walk_at "wq"; exact h))
def fs_check_standing : FS := fun dvs R => ∃ ds s, dvs = [.data (.tuple ds), .data s] ∧ isYardD (.tuple ds) = true ∧ isStandD ds s = true ∧ R (.data .none) []
theorem sp_check_standing (dvs : List DV) (R : DV → List DV → Prop) (hl : dvs.length = [false, false].length) (h : fs_check_standing dvs R) : w_check_standing fs_is_standing (endsOf [false, false] R) (initE n_check_standing.length dvs) := by
  obtain ⟨ds, s, rfl, h1, h2, h⟩ := h
  unfold w_check_standing
  walk_at "wp"
  refine ⟨ds, s, rfl, h1, ?_⟩
  rw [h2]
  exact h
def fs_check_day : FS := fun dvs R => ∃ ds d, dvs = [.data (.tuple ds), .data d] ∧ isYardD (.tuple ds) = true ∧ isDayD ds.length d = true ∧ Shrt d ∧ R (.data .none) []
theorem sp_check_day (dvs : List DV) (R : DV → List DV → Prop) (hl : dvs.length = [false, false].length) (h : fs_check_day dvs R) : w_check_day fs_is_day (endsOf [false, false] R) (initE n_check_day.length dvs) := by
  obtain ⟨ds, d, rfl, h1, h2, h3, h⟩ := h
  unfold w_check_day
  walk_at "wp"
  refine ⟨ds, d, rfl, h1, h3, ?_⟩
  rw [h2]
  exact h
def fs_check_day_from : FS := fun dvs R => ∃ ds s d, dvs = [.data (.tuple ds), .data s, .data d] ∧ isYardD (.tuple ds) = true ∧ isStandD ds s = true ∧ isDayD ds.length d = true ∧ Shrt d ∧ R (.data .none) []
theorem sp_check_day_from (dvs : List DV) (R : DV → List DV → Prop) (hl : dvs.length = [false, false, false].length) (h : fs_check_day_from dvs R) : w_check_day_from fs_check_yard fs_check_standing fs_check_day (endsOf [false, false, false] R) (initE n_check_day_from.length dvs) := by
  obtain ⟨ds, s, d, rfl, h1, h2, h3, h4, h⟩ := h
  unfold w_check_day_from
  walk_at "wp"
  exact ⟨.tuple ds, rfl, h1, ds, s, rfl, h1, h2, ds, d, rfl, h1, h3, h4, h⟩
def fs_has_room : FS := fun dvs R => ∃ y now p L, dvs = [.data (encY y), L, .data (encN p)] ∧ seqOf L = some (now.map .int) ∧ p < y.length ∧ now.length = y.length ∧ R (.data (.bool (roomB y now p))) [L]
theorem sp_has_room (dvs : List DV) (R : DV → List DV → Prop) (hl : dvs.length = [false, true, false].length) (h : fs_has_room dvs R) : w_has_room (endsOf [false, true, false] R) (initE n_has_room.length dvs) := by
  obtain ⟨y, now, p, L, rfl, hL, hp, hn, h⟩ := h
  have i1 := atI_room hp
  have i2 := atI_now (now := now) (p := p) (by omega)
  unfold w_has_room
  unfold encN at *
  unfold encY at *
  unfold roomB at h
  rcases seq_cases hL with rfl | rfl | rfl
  all_goals
    walk_at "wp"
    simp only [i1]
    cases e : y.getD p none <;> simp only [e, encR] at h ⊢ <;> walk_at "wp" <;> first | exact h | (simp only [i2]; exact h)
def fs_first_with_thing : FS := fun dvs R => ∃ now ws L, dvs = [L, .data (encP ws)] ∧ seqOf L = some (now.map .int) ∧ (∀ p ∈ ws, p < now.length) ∧ R (.data (encO (firstT now ws))) [L]
theorem sp_first_with_thing (dvs : List DV) (R : DV → List DV → Prop) (hl : dvs.length = [true, false].length) (h : fs_first_with_thing dvs R) : w_first_with_thing (endsOf [true, false] R) (initE n_first_with_thing.length dvs) := by
  obtain ⟨now, ws, L, rfl, hL, hw, h⟩ := h
  unfold w_first_with_thing encP
  walk_at "wp"
  refine forGo_by (fun ds env => ∃ us, ds = us.map encN ∧ (∀ p ∈ us, p < now.length) ∧ firstT now us = firstT now ws ∧ (∃ z, env = [some L, some (.data (.tuple (ws.map encN))), z])) ?_ ?_ _ _ ⟨ws, rfl, hw, rfl, none, rfl⟩
  · rintro d ds env X hX ⟨us, e, hu, hf, z, rfl⟩
    cases us with
    | nil => cases e
    | cons p us =>
      rw [List.map_cons, List.cons.injEq] at e
      obtain ⟨rfl, rfl⟩ := e
      have i2 := atI_now (now := now) (p := p) (hu p List.mem_cons_self)
      unfold encN
      rcases seq_cases hL with rfl | rfl | rfl
      all_goals
        walk_at "wp"
        simp only [i2]
        by_cases hz : 0 < now.getD p 0
        · have hc : firstT now (p :: us) = some p := by unfold firstT; rw [List.find?_cons]; simp only [hz, decide_true]
          rw [← hf, hc] at h
          simp only [gt_iff_lt, hz, decide_true, if_true]
          first | exact h | (walk_at "wp"; exact h)
        · have hc : firstT now (p :: us) = firstT now us := by unfold firstT; rw [List.find?_cons]; simp only [hz, decide_false]
          simp only [gt_iff_lt, hz, decide_false, Bool.false_eq_true, if_false]
          exact hX _ ⟨us, rfl, fun q hq => hu q (List.mem_cons_of_mem _ hq), by rw [← hf, hc], _, rfl⟩
  · rintro env ⟨us, e, hu, hf, z, rfl⟩
    cases us with
    | nil =>
      rw [← hf] at h
      first | exact h | (walk_at "wp"; exact h)
    | cons p us => cases e
def fs_first_with_room : FS := fun dvs R => ∃ y now ws L, dvs = [.data (encY y), L, .data (encP ws)] ∧ seqOf L = some (now.map .int) ∧ now.length = y.length ∧ (∀ p ∈ ws, p < y.length) ∧ R (.data (encO (firstR y now ws))) [L]
theorem sp_first_with_room (dvs : List DV) (R : DV → List DV → Prop) (hl : dvs.length = [false, true, false].length) (h : fs_first_with_room dvs R) : w_first_with_room fs_has_room (endsOf [false, true, false] R) (initE n_first_with_room.length dvs) := by
  obtain ⟨y, now, ws, L, rfl, hL, hn, hw, h⟩ := h
  unfold w_first_with_room encP
  walk_at "wp"
  refine forGo_by (fun ds env => ∃ us, ds = us.map encN ∧ (∀ p ∈ us, p < y.length) ∧ firstR y now us = firstR y now ws ∧ (∃ z, env = [some (.data (encY y)), some L, some (.data (.tuple (ws.map encN))), z])) ?_ ?_ _ _ ⟨ws, rfl, hw, rfl, none, rfl⟩
  · rintro d ds env X hX ⟨us, e, hu, hf, z, rfl⟩
    cases us with
    | nil => cases e
    | cons p us =>
      rw [List.map_cons, List.cons.injEq] at e
      obtain ⟨rfl, rfl⟩ := e
      walk_at "wp"
      refine ⟨y, now, p, L, rfl, hL, hu p List.mem_cons_self, hn, ?_⟩
      walk_at "wp"
      by_cases hz : roomB y now p = true
      · have hc : firstR y now (p :: us) = some p := by unfold firstR; rw [List.find?_cons]; simp only [hz]
        rw [← hf, hc] at h
        simp only [hz, if_true]
        first | exact h | (walk_at "wp"; exact h)
      · simp only [Bool.not_eq_true] at hz
        have hc : firstR y now (p :: us) = firstR y now us := by unfold firstR; rw [List.find?_cons]; simp only [hz]
        simp only [hz, Bool.false_eq_true, if_false]
        exact hX _ ⟨us, rfl, fun q hq => hu q (List.mem_cons_of_mem _ hq), by rw [← hf, hc], _, rfl⟩
  · rintro env ⟨us, e, hu, hf, z, rfl⟩
    cases us with
    | nil =>
      rw [← hf] at h
      first | exact h | (walk_at "wp"; exact h)
    | cons p us => cases e
def fs_serve : FS := fun dvs R => ∃ y now a, dvs = [.data (encY y), .olist (now.map .int), .data (encA a)] ∧ y.length ≤ 9 ∧ now.length = y.length ∧ AskOk y.length a ∧ R (.data (encRow (serveM y now a).1)) [.olist ((serveM y now a).2.map .int)]
theorem sp_serve (dvs : List DV) (R : DV → List DV → Prop) (hl : dvs.length = [false, true, false].length) (h : fs_serve dvs R) : w_serve fs_first_with_thing fs_first_with_room (endsOf [false, true, false] R) (initE n_serve.length dvs) := by
  obtain ⟨y, now, a, rfl, h9, hn, ha, h⟩ := h
  unfold w_serve encA
  refine seq_i ?_
  walk_at "ws"
  refine seq_i ?_
  walk_at "ws"
  refine ⟨now, a.1, _, rfl, rfl, fun p hp => by have := ha.1.2 p hp; omega, ?_⟩
  unfold serveM at h
  cases e : firstT now a.1 with
  | none =>
    simp only [e] at h
    simp only [encO]
    walk_at "ws"
    refine seq_i ?_
    walk_at "ws"
    exact h
  | some p =>
    obtain ⟨mp, pos⟩ := firstT_some e
    have hp : p < now.length := by have := ha.1.2 p mp; omega
    simp only [e] at h
    simp only [encO, encN]
    walk_at "ws"
    have g1 : (now.map PyData.int)[(p : Int).toNat]? = some (.int (now.getD p 0)) := get_now hp
    have g2 : ((now.map PyData.int).set (p : Int).toNat (.int (now.getD p 0 - 1))) = (add now p (-1)).map .int := set_now p
    refine seq_i ?_
    walk_at "ws"
    refine seq_i ?_
    walk_at "ws"
    simp only [g1, g2]
    refine ⟨by omega, by omega, by rw [List.length_map]; exact hp, ?_⟩
    refine seq_i ?_
    walk_at "ws"
    refine ⟨y, add now p (-1), a.2, _, rfl, rfl, by rw [add_len]; exact hn, fun q hq => ha.2.2 q hq, ?_⟩
    cases e2 : firstR y (add now p (-1)) a.2 with
    | none =>
      simp only [e2] at h
      simp only [encO]
      walk_at "ws"
      refine seq_i ?_
      walk_at "ws"
      exact h
    | some o =>
      have ho : o < (add now p (-1)).length := by rw [add_len, hn]; exact ha.2.2 o (List.mem_of_find?_eq_some e2)
      simp only [e2] at h
      simp only [encO, encN]
      have g3 : ((add now p (-1)).map PyData.int)[(o : Int).toNat]? = some (.int ((add now p (-1)).getD o 0)) := get_now ho
      have g4 : (((add now p (-1)).map PyData.int).set (o : Int).toNat (.int ((add now p (-1)).getD o 0 + 1))) = (add (add now p (-1)) o 1).map .int := set_now o
      walk_at "ws"
      refine seq_i ?_
      walk_at "ws"
      simp only [g3, g4]
      exact ⟨by omega, by rw [add_len] at ho; omega, by rw [List.length_map]; exact ho, h⟩

def fs_gone : FS := fun dvs R => ∃ y s d, dvs = [.data (encY y), .data (encS s), .data (encDay d)] ∧ YardOk y ∧ Fine y s ∧ DayOk y.length d ∧ R (.otup [.olist ((goM y s d).1.map encRow), .data (encS (goM y s d).2)]) []
theorem sp_gone (dvs : List DV) (R : DV → List DV → Prop) (hl : dvs.length = [false, false, false].length) (h : fs_gone dvs R) : w_gone fs_serve (endsOf [false, false, false] R) (initE n_gone.length dvs) := by
  obtain ⟨y, s, d, rfl, hy, hf, hd, h⟩ := h
  unfold w_gone
  unfold encDay encS
  walk_at "wp"
  refine forGo_by (fun ds env => ∃ us now log z, ds = us.map encA ∧ Fine y now ∧ DayOk y.length us ∧ log.length + us.length ≤ 200 ∧ (log ++ (goM y now us).1, (goM y now us).2) = goM y s d ∧ env = [some (.data (encY y)), some (.data (.tuple (s.map .int))), some (.data (.list (d.map encA))), some (.olist (now.map .int)), some (.olist (log.map encRow)), z]) ?_ ?_ _ _ ⟨d, s, [], none, rfl, hf, hd, by have := hd.1; simpa using this, rfl, rfl⟩
  · rintro x ds env X hX ⟨us, now, log, z, e, f1, d1, l1, g1, rfl⟩
    cases us with
    | nil => cases e
    | cons a us =>
      rw [List.map_cons, List.cons.injEq] at e
      obtain ⟨rfl, rfl⟩ := e
      have ha := d1.2 a List.mem_cons_self
      rw [List.length_cons] at l1
      walk_at "wp"
      refine ⟨y, now, a, rfl, hy.2.1, f1.1, ha, ?_⟩
      walk_at "wp"
      refine ⟨by rw [List.length_map]; omega, hX _ ⟨us, (serveM y now a).2, log ++ [(serveM y now a).1], some (.data (encA a)), rfl, fine_serve f1 ha, ⟨by have := d1.1; rw [List.length_cons] at this; omega, fun b hb => d1.2 b (List.mem_cons_of_mem _ hb)⟩, by rw [List.length_append]; simp only [List.length_cons, List.length_nil]; omega, ?_, ?_⟩⟩
      · rw [← g1]
        simp [goM]
      · simp [DV.dat]
  · rintro env ⟨us, now, log, z, e, f1, d1, l1, g1, rfl⟩
    cases us with
    | cons a us => cases e
    | nil =>
      have e1 : (goM y s d).1 = log := by rw [← g1]; simp [goM]
      have e2 : (goM y s d).2 = now := by rw [← g1]; simp [goM]
      rw [e1, e2] at h
      walk_at "wp"
      exact h
def fs_go : FS := fun dvs R => ∃ y s d D, dvs = [.data (encY y), .data (encS s), D] ∧ (D = .data (encDay d) ∨ D = .olist (d.map encA)) ∧ YardOk y ∧ Fine y s ∧ DayOk y.length d ∧ R (.otup [.olist ((goM y s d).1.map encRow), .data (encS (goM y s d).2)]) []
theorem sp_go (dvs : List DV) (R : DV → List DV → Prop) (hl : dvs.length = [false, false, false].length) (h : fs_go dvs R) : w_go fs_check_day_from fs_gone (endsOf [false, false, false] R) (initE n_go.length dvs) := by
  obtain ⟨y, s, d, D, rfl, hD, hy, hf, hd, h⟩ := h
  unfold w_go
  rcases hD with rfl | rfl
  all_goals
    walk_at "wp"
    refine ⟨y.map encR, _, _, rfl, yard_enc hy, stand_enc hf, by rw [List.length_map]; exact day_enc hd.2, shrt_day hy.2.1 hd, ?_⟩
    exact ⟨y, s, d, rfl, hy, hf, hd, h⟩
def fs_served : FS := fun dvs R => ∃ y s d D, dvs = [.data (encY y), .data (encS s), D] ∧ (D = .data (encDay d) ∨ D = .olist (d.map encA)) ∧ YardOk y ∧ Fine y s ∧ DayOk y.length d ∧ R (.olist ((servedIx (goM y s d).1).map encN)) []
theorem sp_served (dvs : List DV) (R : DV → List DV → Prop) (hl : dvs.length = [false, false, false].length) (h : fs_served dvs R) : w_served fs_go (endsOf [false, false, false] R) (initE n_served.length dvs) := by
  obtain ⟨y, s, d, D, rfl, hD, hy, hf, hd, h⟩ := h
  unfold w_served
  rcases hD with rfl | rfl
  all_goals
    walk_at "wp"
    refine ⟨y, s, d, _, rfl, .inl rfl, hy, hf, hd, ?_⟩
    walk_at "wp"
    rw [← served_eq] at h
    refine compGo_pure [some (.data (encY y)), some (.data (encS s)), some (.data (encDay d)), none, some (.data (encS (goM y s d).2)), none, none] keepRow numRow _ [] _ rfl ?_ (fun x hx Z U hZ hU => ?_) h
    · have : (enumD ((goM y s d).1.map encRow)).length = d.length := by unfold enumD; rw [List.length_map, List.length_range, List.length_map, goM_len]
      rw [this]
      have := hd.1
      show 0 + d.length ≤ 16000000
      omega
    · obtain ⟨i, rfl⟩ := enum_mem hx
      walk_at "wp"
      cases e : ((goM y s d).1.map encRow).getD i .none
      all_goals
        simp only [e, keepRow, numRow, isN] at hZ hU
        first
          | exact hU rfl _ rfl
          | exact hZ rfl _ _ rfl rfl

def Cart (N : Nat) (c : DV) : Prop := ∃ a b n : Int, c = .olist [.int a, .int b, .int n] ∧ 0 ≤ b ∧ b < 10 ^ 38 ∧ 0 ≤ n ∧ n ≤ (N : Int)
theorem Cart.up {N M : Nat} {c : DV} (h : Cart N c) (l : N ≤ M) : Cart M c := by
  obtain ⟨a, b, n, e, h1, h2, h3, h4⟩ := h
  exact ⟨a, b, n, e, h1, h2, h3, by omega⟩
def fs__law_cart : FS := fun dvs R => ∃ (ns : List Int) (k : Int), dvs = [.data (.list (ns.map .int)), .data (.int k)] ∧ 0 ≤ k ∧ k ≤ 100 ∧ ∀ c, Cart 0 c → R c []
theorem sp__law_cart (dvs : List DV) (R : DV → List DV → Prop) (hl : dvs.length = [false, false].length) (h : fs__law_cart dvs R) : w__law_cart (endsOf [false, false] R) (initE n__law_cart.length dvs) := by
  obtain ⟨ns, k, rfl, h0, h1, h⟩ := h
  unfold w__law_cart
  walk_at "wp"
  by_cases hk : k < ((ns.map PyData.int).length : Int)
  · obtain ⟨n, rfl⟩ := Int.eq_ofNat_of_zero_le h0
    have hk' : n < ns.length := by rw [List.length_map] at hk; omega
    have e : atI (ns.map PyData.int) (n : Int) = some (.int (ns.getD n 0)) := atI_now hk'
    simp only [hk, decide_true, if_true, e]
    have t10 : Int.natAbs 10 < 2 ^ 400 := b400 (by decide)
    have p37 : (10 : Int) ^ Int.toNat 37 + 43 = 10 ^ 37 + 43 := rfl
    have u1 := Int.emod_nonneg (ns.getD n 0) (show (10 : Int) ^ 37 + 43 ≠ 0 by decide)
    have u2 := Int.emod_lt_of_pos (ns.getD n 0) (show (0 : Int) < 10 ^ 37 + 43 by decide)
    rw [p37]
    exact ⟨⟨t10, by decide, by decide⟩, ⟨t10, by decide, by decide⟩, by decide, ⟨b400 (by decide), b400 (by omega)⟩, h _ ⟨_, _, 0, rfl, by omega, by omega, by omega, by omega⟩⟩
  · simp only [hk, decide_false, Bool.false_eq_true, if_false]
    have t10 : Int.natAbs 10 < 2 ^ 400 := b400 (by decide)
    have p37 : (10 : Int) ^ Int.toNat 37 + 43 = 10 ^ 37 + 43 := rfl
    have u1 := Int.emod_nonneg (0) (show (10 : Int) ^ 37 + 43 ≠ 0 by decide)
    have u2 := Int.emod_lt_of_pos (0) (show (0 : Int) < 10 ^ 37 + 43 by decide)
    rw [p37]
    exact ⟨⟨t10, by decide, by decide⟩, ⟨t10, by decide, by decide⟩, by decide, ⟨b400 (by decide), b400 (by omega)⟩, h _ ⟨_, _, 0, rfl, by omega, by omega, by omega, by omega⟩⟩
def fs__law_pull : FS := fun dvs R => ∃ m c N, dvs = [c, .data (.int m)] ∧ Cart N c ∧ N ≤ 1000000 ∧ 0 < m ∧ m < 10 ^ 40 ∧ ∀ r c', 0 ≤ r → r < m → Cart (N + 1) c' → R (.data (.int r)) [c']
theorem sp__law_pull (dvs : List DV) (R : DV → List DV → Prop) (hl : dvs.length = [true, false].length) (h : fs__law_pull dvs R) : w__law_pull (endsOf [true, false] R) (initE n__law_pull.length dvs) := by
  obtain ⟨m, c, N, rfl, ⟨a, b, n, rfl, b0, b1, n0, n1⟩, hN, m0, m1, h⟩ := h
  unfold w__law_pull
  walk_at "wp"
  by_cases ha : 0 < a
  · simp only [ha, decide_true, if_true]
    exact ⟨m0, ⟨m0, b400 (by omega)⟩, h _ _ (Int.emod_nonneg _ (by omega)) (Int.emod_lt_of_pos _ m0) ⟨_, b, n, rfl, b0, b1, n0, by omega⟩⟩
  · simp only [ha, decide_false, Bool.false_eq_true, if_false]
    have p38 : (0 : Int) < 10 ^ Int.toNat 38 + 133 := by decide
    have p35 : (0 : Int) < 10 ^ Int.toNat 35 + 69 := by decide
    have q38 : (10 : Int) ^ Int.toNat 38 + 133 ≤ 10 ^ 39 := by decide
    have u1 := Int.emod_nonneg ((b + 32452843 * (n + 1)) ^ Int.toNat 3) (show (10 : Int) ^ Int.toNat 38 + 133 ≠ 0 by omega)
    have u2 := Int.emod_lt_of_pos ((b + 32452843 * (n + 1)) ^ Int.toNat 3) p38
    have t10 : Int.natAbs 10 < 2 ^ 400 := b400 (by decide)
    refine ⟨⟨b400 (by decide), b400 (by omega)⟩, ⟨b400 (by omega), by decide, by decide⟩, ⟨t10, by decide, by decide⟩, p38, ⟨b400 (by decide), b400 (by omega)⟩, ⟨b400 ?_, by decide, by decide⟩, ⟨t10, by decide, by decide⟩, p35, ⟨by decide, b400 (by decide)⟩, m0, h _ _ (Int.emod_nonneg _ (by omega)) (Int.emod_lt_of_pos _ m0) ⟨_, b, _, rfl, b0, b1, by omega, by omega⟩⟩
    generalize (b + 32452843 * (n + 1)) ^ Int.toNat 3 % (10 ^ Int.toNat 38 + 133) = z at u1 u2 ⊢
    omega

def fs__law_rooms : FS := fun dvs R => ∃ m c N, dvs = [c, .data (.int m)] ∧ Cart N c ∧ N ≤ 500000 ∧ 1 ≤ m ∧ m ≤ 9 ∧ ∀ y c', YardB y → Cart (N + 40) c' → R (.data (encY y)) [c']
theorem sp__law_rooms (dvs : List DV) (R : DV → List DV → Prop) (hl : dvs.length = [true, false].length) (h : fs__law_rooms dvs R) : w__law_rooms fs__law_pull (endsOf [true, false] R) (initE n__law_rooms.length dvs) := by
  obtain ⟨m, c, N, rfl, hc, hN, m1, m9, h⟩ := h
  have t10 : Int.natAbs 10 < 2 ^ 400 := b400 (by decide)
  have t12 : (10 : Int) ^ Int.toNat 12 = 1000000000000 := rfl
  unfold w__law_rooms
  walk_at "wp"
  refine ⟨3, c, N, rfl, hc, by omega, by omega, by omega, fun lean c1 l0 l1 hc1 => ?_⟩
  walk_at "wp"
  refine ⟨m, c1, N + 1, rfl, hc1, by omega, by omega, by omega, fun cnt c2 k0 k1 hc2 => ?_⟩
  walk_at "wp"
  refine ⟨by omega, ?_⟩
  refine forGo_by (fun ds env => ∃ y c' z, y.length + ds.length = (1 + cnt).toNat ∧ (∀ r ∈ y, ∀ i, r = some i → 0 ≤ i ∧ i ≤ 1000000000000) ∧ Cart (N + 2 + 3 * y.length) c' ∧ env = [some c', some (.data (.int m)), some (.data (.int lean)), some (.olist (y.map encR)), z]) ?_ ?_ _ _ ⟨[], c2, none, by simp [intsD], by simp, by simpa using hc2, rfl⟩
  · rintro d ds env X hX ⟨y, c', z, q1, q2, q3, rfl⟩
    rw [List.length_cons] at q1
    walk_at "wp"
    refine ⟨4, c', _, rfl, q3, by omega, by omega, by omega, fun r1 c3 a0 a1 hc3 => ?_⟩
    walk_at "wp"
    simp only [t12]
    refine ⟨⟨t10, by decide, by decide⟩, _, c3, _, rfl, hc3, by omega, by decide, by decide, fun r2 c4 b0 b1 hc4 => ?_⟩
    walk_at "wp"
    refine ⟨_, c4, _, rfl, hc4, by omega, by omega, by omega, fun r3 c5 d0 d1 hc5 => ?_⟩
    walk_at "wp"
    have key : ∀ r : Rm, (∀ i, r = some i → 0 ≤ i ∧ i ≤ 1000000000000) → X [some c5, some (.data (.int m)), some (.data (.int lean)), some (.olist ((y ++ [r]).map encR)), some (.data d)] := fun r hr => hX _ ⟨y ++ [r], c5, _, by rw [List.length_append]; simp only [List.length_cons, List.length_nil]; omega, fun r' h' => (List.mem_append.1 h').elim (q2 r') (fun z => by rw [List.mem_singleton] at z; rw [z]; exact hr), hc5.up (by rw [List.length_append]; simp only [List.length_cons, List.length_nil]; omega), rfl⟩
    simp only [List.map_append, List.map_cons, List.map_nil] at key
    have hlen : (y.map encR).length < 16000000 := by rw [List.length_map]; omega
    have hr : r3 = 0 ∨ r3 = 1 ∨ r3 = 2 := by omega
    rcases hr with rfl | rfl | rfl
    · walk_at "wp"
      exact ⟨hlen, key none fun i e => by cases e⟩
    · walk_at "wp"
      exact ⟨hlen, key (some r1) fun i e => by cases e; exact ⟨a0, by omega⟩⟩
    · walk_at "wp"
      exact ⟨hlen, key (some r2) fun i e => by cases e; exact ⟨b0, by omega⟩⟩
  · rintro env ⟨y, c', z, q1, q2, q3, rfl⟩
    walk_at "wp"
    simp only [List.length_nil] at q1
    exact h y c' ⟨⟨by omega, by omega, fun r hr i e => (q2 r hr i e).1⟩, fun r hr i e => (q2 r hr i e).2⟩ (q3.up (by omega))
def fs__law_things : FS := fun dvs R => ∃ y c N, dvs = [c, .data (encY y)] ∧ Cart N c ∧ N ≤ 500000 ∧ YardB y ∧ ∀ s c', Fine y s → Upto 1000000000000 s → Cart (N + 40) c' → R (.data (encS s)) [c']
theorem sp__law_things (dvs : List DV) (R : DV → List DV → Prop) (hl : dvs.length = [true, false].length) (h : fs__law_things dvs R) : w__law_things fs__law_pull (endsOf [true, false] R) (initE n__law_things.length dvs) := by
  obtain ⟨y, c, N, rfl, hc, hN, hy, h⟩ := h
  have t10 : Int.natAbs 10 < 2 ^ 400 := b400 (by decide)
  have t12 : (10 : Int) ^ Int.toNat 12 = 1000000000000 := rfl
  unfold w__law_things
  unfold encY
  walk_at "wq"
  refine forGo_by (fun ds env => ∃ (done left : List Rm) (s : List Int) (c' : DV) (z z' : Option DV), done ++ left = y ∧ ds = left.map encR ∧ Fine done s ∧ Upto 1000000000000 s ∧ Cart (N + 4 * done.length) c' ∧ env = [some c', some (.data (.tuple (y.map encR))), some (.olist (s.map .int)), z, z']) ?_ ?_ _ _ ⟨[], y, [], c, none, none, rfl, rfl, ⟨rfl, fun p hp => by simp at hp⟩, fun p hp => by simp at hp, by simpa using hc, rfl⟩
  · rintro d ds env X hX ⟨done, left, s, c', z, z', q1, q2, q3, q4, q5, rfl⟩
    cases left with
    | nil => cases q2
    | cons r left =>
      rw [List.map_cons, List.cons.injEq] at q2
      obtain ⟨rfl, rfl⟩ := q2
      have hd9 : done.length + 1 ≤ 9 := by
        have := hy.1.2.1
        rw [← q1, List.length_append, List.length_cons] at this
        omega
      have hr := hy.1.2.2 r (by rw [← q1]; simp)
      have key : ∀ x (c9 : DV), Fits r x → x ≤ 1000000000000 → Cart (N + 4 * (done.length + 1)) c9 → X [some c9, some (.data (.tuple (y.map encR))), some (.olist (s.map .int ++ [.int x])), some (.data (encR r)), some (.data (.int x))] := fun x c9 f1 f2 f3 => hX _ ⟨done ++ [r], left, s ++ [x], c9, some (.data (encR r)), some (.data (.int x)), by rw [List.append_assoc]; exact q1, rfl, fine_snoc q3 f1, upto_snoc q4 f2, by rw [List.length_append]; exact f3, by simp⟩
      have hlen : (s.map PyData.int).length < 16000000 := by rw [List.length_map, q3.1]; omega
      walk_at "wq"
      refine ⟨4, c', _, rfl, q5, by omega, by omega, by omega, fun r1 c1 a0 a1 hc1 => ?_⟩
      walk_at "wq"
      simp only [t12]
      refine ⟨⟨t10, by decide, by decide⟩, _, c1, _, rfl, hc1, by omega, by decide, by decide, fun r2 c2 b0 b1 hc2 => ?_⟩
      walk_at "wq"
      refine ⟨5, c2, _, rfl, hc2, by omega, by omega, by omega, fun r3 c3 d0 d1 hc3 => ?_⟩
      obtain ⟨x, hx, hx0, hx1⟩ : ∃ x : Int, atI [PyData.int 0, .int 0, .int 1, .int r1, .int r2] r3 = some (.int x) ∧ 0 ≤ x ∧ x ≤ 1000000000000 := by
        have : r3 = 0 ∨ r3 = 1 ∨ r3 = 2 ∨ r3 = 3 ∨ r3 = 4 := by omega
        rcases this with rfl | rfl | rfl | rfl | rfl
        · exact ⟨_, atI0, by omega, by omega⟩
        · exact ⟨_, atI1, by omega, by omega⟩
        · exact ⟨_, atI2, by omega, by omega⟩
        · exact ⟨_, atI3, by omega, by omega⟩
        · exact ⟨_, atI4, by omega, by omega⟩
      cases r with
      | none =>
        simp only [encR] at key ⊢
        walk_at "wq"
        simp only [hx]
        walk_at "wq"
        exact ⟨hlen, key x c3 ⟨hx0, fun i e => by cases e⟩ hx1 (hc3.up (by omega))⟩
      | some i =>
        have hi := hr i rfl
        simp only [encR] at key ⊢
        walk_at "wq"
        simp only [hx]
        walk_at "wq"
        refine ⟨4, c3, _, rfl, hc3, by omega, by omega, by omega, fun r4 c4 e0 e1 hc4 => ?_⟩
        obtain ⟨v, hv, hv0, hv1, hv2⟩ : ∃ v : Int, atI [PyData.int (if i < x then i else x), .int i] (r4 / 3) = some (.int v) ∧ 0 ≤ v ∧ v ≤ i ∧ v ≤ i := by
          have : r4 / 3 = 0 ∨ r4 / 3 = 1 := by omega
          rcases this with e | e
          · rw [e]; exact ⟨_, atI0, by split <;> omega, by split <;> omega, by split <;> omega⟩
          · rw [e]; exact ⟨_, atI1, by omega, by omega, by omega⟩
        walk_at "wq"
        simp only [hv]
        walk_at "wq"
        have hi2 := hy.2 (some i) (by rw [← q1]; simp) i rfl
        exact ⟨⟨by decide, b400 (by decide)⟩, hlen, key v c4 ⟨hv0, fun j e => by cases e; exact hv1⟩ (by omega) (hc4.up (by omega))⟩
  · rintro env ⟨done, left, s, c', z, z', q1, q2, q3, q4, q5, rfl⟩
    cases left with
    | cons r left => cases q2
    | nil =>
      rw [List.append_nil] at q1
      subst q1
      walk_at "wq"
      exact h s c' q3 q4 (q5.up (by have := hy.1.2.1; omega))
def fs__law_some : FS := fun dvs R => ∃ (n : Nat) (c : DV) (N : Nat), dvs = [c, .data (.int n)] ∧ Cart N c ∧ N ≤ 500000 ∧ 1 ≤ n ∧ n ≤ 9 ∧ ∀ ps c', PlacesOk n ps → Cart (N + 20) c' → R (.data (encP ps)) [c']
theorem sp__law_some (dvs : List DV) (R : DV → List DV → Prop) (hl : dvs.length = [true, false].length) (h : fs__law_some dvs R) : w__law_some fs__law_pull (endsOf [true, false] R) (initE n__law_some.length dvs) := by
  obtain ⟨n, c, N, rfl, hc, hN, n1, n9, h⟩ := h
  unfold w__law_some
  walk_at "wq"
  refine ⟨by omega, 4, c, N, rfl, hc, by omega, by omega, by omega, fun r1 c1 a0 a1 hc1 => ?_⟩
  obtain ⟨v, hv, hv0, hv1⟩ : ∃ v : Int, atI [PyData.int (if (n : Int) < 3 then (n : Int) else 3), .int (n : Int)] (r1 / 3) = some (.int v) ∧ 0 ≤ v ∧ v ≤ (n : Int) := by
    have : r1 / 3 = 0 ∨ r1 / 3 = 1 := by omega
    rcases this with e | e
    · rw [e]; exact ⟨_, atI0, by split <;> omega, by split <;> omega⟩
    · rw [e]; exact ⟨_, atI1, by omega, by omega⟩
  walk_at "wq"
  refine ⟨⟨by decide, b400 (by decide)⟩, ?_⟩
  simp only [hv]
  walk_at "wq"
  refine ⟨1 + v, c1, _, rfl, hc1, by omega, by omega, by omega, fun many c2 b0 b1 hc2 => ?_⟩
  walk_at "wq"
  refine ⟨by omega, ?_⟩
  have e0 : intsD (n : Int).toNat = (List.range n).map encN := by rw [Int.toNat_natCast]; rfl
  rw [e0]
  refine compGo_by (fun ds acc env => ∃ ps ls c', ds.length + ps.length = many.toNat ∧ acc = ps.map encN ∧ ls.length + ps.length = n ∧ (ps ++ ls).Nodup ∧ (∀ p ∈ ps ++ ls, p < n) ∧ Cart (N + 2 + ps.length) c' ∧ env = [some c', some (.data (.int n)), some (.olist (ls.map encN)), none, none]) _ [] _ ⟨[], List.range n, c2, by simp [intsD], rfl, by simp, by simpa using List.nodup_range, by simp, by simpa using hc2, rfl⟩ (by simp [intsD]; omega) ?_ ?_
  · rintro d ds acc env Z U ⟨ps, ls, c', q1, q2, q3, q4, q5, q6, rfl⟩ hZ hU
    rw [List.length_cons] at q1
    walk_at "wq"
    refine ⟨_, c', _, rfl, q6, by omega, by rw [List.length_map]; omega, by rw [List.length_map]; omega, fun r3 c3 d0 d1 hc3 => ?_⟩
    obtain ⟨j, rfl⟩ := Int.eq_ofNat_of_zero_le d0
    rw [List.length_map] at d1
    have hj : j < ls.length := by omega
    have e1 : (ls.map encN)[(j : Int).toNat]? = some (encN ls[j]) := by
      rw [Int.toNat_natCast, List.getElem?_map, List.getElem?_eq_getElem hj]; rfl
    have e2 : (ls.map encN).eraseIdx (j : Int).toNat = (ls.eraseIdx j).map encN := by
      rw [Int.toNat_natCast, erase_map]
    walk_at "wq"
    simp only [e1, e2]
    have pm := pop_perm (ps := ps) hj
    refine ⟨⟨by omega, by omega⟩, hZ _ _ ⟨ps ++ [ls[j]], ls.eraseIdx j, c3, ?_, ?_, ?_, pm.nodup_iff.2 q4, fun p hp => q5 p (pm.mem_iff.1 hp), ?_, rfl⟩⟩
    · rw [List.length_append]; simp only [List.length_cons, List.length_nil]; omega
    · rw [q2, List.map_append]; rfl
    · rw [List.length_append, List.length_eraseIdx_of_lt hj]; simp only [List.length_cons, List.length_nil]; omega
    · refine hc3.up ?_
      rw [List.length_append]; simp only [List.length_cons, List.length_nil]; omega
  · rintro acc env ⟨ps, ls, c', q1, q2, q3, q4, q5, q6, rfl⟩
    subst q2
    rw [List.length_nil] at q1
    exact h ps c' ⟨(List.nodup_append.1 q4).1, fun p hp => q5 p (List.mem_append_left _ hp)⟩ (q6.up (by omega))
def fs__law_asks : FS := fun dvs R => ∃ (n : Nat) (m : Int) (c : DV) (N : Nat), dvs = [c, .data (.int n), .data (.int m)] ∧ Cart N c ∧ N ≤ 400000 ∧ 1 ≤ n ∧ n ≤ 9 ∧ 0 ≤ m ∧ m ≤ 60 ∧ ∀ d c', DayOk n d → d.length ≤ m → Cart (N + 3000) c' → R (.olist (d.map encA)) [c']
theorem sp__law_asks (dvs : List DV) (R : DV → List DV → Prop) (hl : dvs.length = [true, false, false].length) (h : fs__law_asks dvs R) : w__law_asks fs__law_some fs__law_pull (endsOf [true, false, false] R) (initE n__law_asks.length dvs) := by
  obtain ⟨n, m, c, N, rfl, hc, hN, n1, n9, m0, m1, h⟩ := h
  unfold w__law_asks
  walk_at "wq"
  refine ⟨m + 1, c, N, rfl, hc, by omega, by omega, by omega, fun cnt c1 a0 a1 hc1 => ?_⟩
  walk_at "wq"
  refine ⟨by omega, ?_⟩
  refine compGo_by (fun ds acc env => ∃ (d : List Ask) (c' : DV), ds.length + d.length = cnt.toNat ∧ acc = d.map encA ∧ (∀ a ∈ d, AskOk n a) ∧ Cart (N + 1 + 40 * d.length) c' ∧ env = [some c', some (.data (.int n)), some (.data (.int m)), none]) _ [] _ ⟨[], c1, by simp [intsD], rfl, by simp, by simpa using hc1, rfl⟩ (by simp [intsD]; omega) ?_ ?_
  · rintro x ds acc env Z U ⟨d, c', q1, q2, q3, q4, rfl⟩ hZ hU
    rw [List.length_cons] at q1
    walk_at "wq"
    refine ⟨n, c', _, rfl, q4, by omega, n1, n9, fun p1 c2 o1 hc2 => ?_⟩
    walk_at "wq"
    refine ⟨n, c2, _, rfl, hc2, by omega, n1, n9, fun p2 c3 o2 hc3 => ?_⟩
    walk_at "wq"
    refine hZ _ _ ⟨d ++ [(p1, p2)], c3, ?_, ?_, fun a ha => ?_, ?_, rfl⟩
    · rw [List.length_append]; simp only [List.length_cons, List.length_nil]; omega
    · rw [q2, List.map_append]; rfl
    · rcases List.mem_append.1 ha with ha | ha
      · exact q3 a ha
      · rw [List.mem_singleton] at ha
        rw [ha]
        exact ⟨o1, o2⟩
    · refine hc3.up ?_
      rw [List.length_append]; simp only [List.length_cons, List.length_nil]; omega
  · rintro acc env ⟨d, c', q1, q2, q3, q4, rfl⟩
    subst q2
    rw [List.length_nil] at q1
    walk_at "wq"
    exact h d c' ⟨by omega, q3⟩ (by omega) (q4.up (by omega))

def fs_check_pair : FS := fun dvs R => ∃ y s t, dvs = [.data (encY y), .data (encS s), .data (encS t)] ∧ YardOk y ∧ Fine y s ∧ Fine y t ∧ R (.data .none) []
theorem sp_check_pair (dvs : List DV) (R : DV → List DV → Prop) (hl : dvs.length = [false, false, false].length) (h : fs_check_pair dvs R) : w_check_pair fs_check_yard fs_check_standing (endsOf [false, false, false] R) (initE n_check_pair.length dvs) := by
  obtain ⟨y, s, t, rfl, hy, hf, hg, h⟩ := h
  unfold w_check_pair
  walk_at "wp"
  exact ⟨encY y, rfl, yard_enc hy, y.map encR, encS s, rfl, yard_enc hy, stand_enc hf, y.map encR, encS t, rfl, yard_enc hy, stand_enc hg, h⟩
def fs_distance : FS := fun dvs R => ∃ a b : List Int, dvs = [.data (encS a), .data (encS b)] ∧ a.length ≤ 1000 ∧ R (.data (.int (distL a b))) []
theorem sp_distance (dvs : List DV) (R : DV → List DV → Prop) (hl : dvs.length = [false, false].length) (h : fs_distance dvs R) : w_distance (endsOf [false, false] R) (initE n_distance.length dvs) := by
  obtain ⟨a, b, rfl, ha, h⟩ := h
  unfold w_distance encS
  walk_at "ws"
  refine compGo_map [none, none, none, none] absPair _ [] _ rfl ?_ (fun x hx Z hZ => ?_) ?_
  · rw [zipD_len, List.length_map, List.length_map]; show 0 + _ ≤ 16000000; omega
  · obtain ⟨u, v, rfl⟩ := zip_ints hx
    have e : (if u - v < 0 then -(u - v) else u - v) = absI (u - v) := rfl
    walk_at "ws"
    exact hZ _ _ rfl rfl
  · rw [List.nil_append, dists_eq]
    walk_at "ws"
    simp only [intsOf_map, dists_sum]
    exact h
def fs_moments : FS := fun dvs R => ∃ y s d, dvs = [.data (encY y), .data (encS s), .data (encDay d)] ∧ YardOk y ∧ Fine y s ∧ DayOk y.length d ∧ R (.olist (momsD y s d)) []
theorem sp_moments (dvs : List DV) (R : DV → List DV → Prop) (hl : dvs.length = [false, false, false].length) (h : fs_moments dvs R) : w_moments fs_serve (endsOf [false, false, false] R) (initE n_moments.length dvs) := by
  obtain ⟨y, s, d, rfl, hy, hf, hd, h⟩ := h
  have h200 := hd.1
  unfold w_moments
  have eD : encDay d = .list (d.map encA) := rfl
  have eS : ∀ s, encS s = .tuple (s.map .int) := fun _ => rfl
  rw [eD, eS s]
  refine seq_i ?_
  walk_at "ws"
  refine seq_i ?_
  walk_at "ws"
  refine seq_i ?_
  walk_at "ws"
  refine forGo_by (fun ds env => ∃ (d1 us : List Ask) (z5 : Option DV), d1 ++ us = d ∧ ds = us.map encA ∧ env = [some (.data (encY y)), some (.data (.tuple (s.map .int))), some (.data (.list (d.map encA))), some (.olist ((goM y s d1).2.map .int)), some (.olist (momsD y s d1)), z5]) ?_ ?_ _ _ ⟨[], d, none, rfl, rfl, rfl⟩
  · rintro x ds env X hX ⟨d1, us, z5, q1, q2, rfl⟩
    cases us with
    | nil => cases q2
    | cons a us =>
      rw [List.map_cons, List.cons.injEq] at q2
      obtain ⟨rfl, rfl⟩ := q2
      have hmem : a ∈ d := by rw [← q1]; exact List.mem_append_right _ List.mem_cons_self
      have ha := hd.2 _ hmem
      have ho1 : ∀ b ∈ d1, AskOk y.length b := fun b hb => hd.2 b (by rw [← q1]; exact List.mem_append_left _ hb)
      have hl1 : d1.length < d.length := by rw [← q1, List.length_append, List.length_cons]; omega
      have f1 := fine_go hf ho1
      have eapp := go_app y d1 [a] s
      have msnoc := momsD_snoc y s d1 a
      have mlen : (momsD y s d1).length < 16000000 := by unfold momsD; rw [List.length_map, List.length_range]; omega
      have e2 : (goM y s (d1 ++ [a])).2 = (serveM y (goM y s d1).2 a).2 := by rw [eapp]; rfl
      walk_at "ws"
      refine seq_i ?_
      walk_at "ws"
      refine ⟨y, (goM y s d1).2, a, rfl, hy.2.1, f1.1, ha, ?_⟩
      walk_at "ws"
      refine ⟨mlen, ?_⟩
      refine hX _ ⟨d1 ++ [a], us, some (.data (encA a)), by rw [List.append_assoc]; exact q1, rfl, ?_⟩
      rw [msnoc, e2]
      rfl
  · rintro env ⟨d1, us, z5, q1, q2, rfl⟩
    cases us with
    | cons a us => cases q2
    | nil =>
      rw [List.append_nil] at q1
      subst q1
      walk_at "ws"
      exact h
def fs_far_apart : FS := fun dvs R => ∃ y s t, dvs = [.data (encY y), .data (encS s), .data (encS t)] ∧ YardOk y ∧ Fine y s ∧ Fine y t ∧ R (.data (.int (distL s t))) []
theorem sp_far_apart (dvs : List DV) (R : DV → List DV → Prop) (hl : dvs.length = [false, false, false].length) (h : fs_far_apart dvs R) : w_far_apart fs_check_pair fs_distance (endsOf [false, false, false] R) (initE n_far_apart.length dvs) := by
  obtain ⟨y, s, t, rfl, hy, hf, hg, h⟩ := h
  have h9 := hy.2.1
  unfold w_far_apart
  refine seq_i ?_
  walk_at "ws"
  refine ⟨y, s, t, rfl, hy, hf, hg, ?_⟩
  walk_at "ws"
  refine ⟨s, t, rfl, by rw [hf.1]; omega, ?_⟩
  walk_at "ws"
  exact h

def fs_is_number_of_ask : FS := fun dvs R => ∃ (d : List Ask) (x : PyData), dvs = [.data (encDay d), .data x] ∧ R (.data (.bool (isPlaceD d.length x))) []
theorem sp_is_number_of_ask (dvs : List DV) (R : DV → List DV → Prop) (hl : dvs.length = [false, false].length) (h : fs_is_number_of_ask dvs R) : w_is_number_of_ask fs_is_count_below (endsOf [false, false] R) (initE n_is_number_of_ask.length dvs) := by
  obtain ⟨d, x, rfl, h⟩ := h
  unfold w_is_number_of_ask encDay
  walk_at "ws"
  exact ⟨d.length, x, by rw [List.length_map], h⟩

def fs_distances : FS := fun dvs R => ∃ y s t d e, dvs = [.olist (momsD y s d), .olist (momsD y t e)] ∧ y.length ≤ 9 ∧ Fine y s ∧ DayOk y.length d ∧ e.length = d.length ∧ R (.olist ((farL2 y s t d e).map .int)) []
theorem sp_distances (dvs : List DV) (R : DV → List DV → Prop) (hl : dvs.length = [false, false].length) (h : fs_distances dvs R) : w_distances fs_distance (endsOf [false, false] R) (initE n_distances.length dvs) := by
  obtain ⟨y, s, t, d, e, rfl, h9, hf, hd, he, h⟩ := h
  have h200 := hd.1
  unfold w_distances
  walk_at "ws"
  have eZ : zipD (momsD y s d) (momsD y t e) = (List.range (d.length + 1)).map fun n => PyData.tuple [encS (goM y s (d.take n)).2, encS (goM y t (e.take n)).2] := by
    unfold momsD
    rw [he, zip_maps]
  refine compGo_map [none, none, none, none] distD _ [] _ rfl ?_ (fun x hx Z hZ => ?_) ?_
  · rw [eZ, List.length_map, List.length_range]; show 0 + _ ≤ 16000000; omega
  · rw [eZ] at hx
    obtain ⟨n, _, rfl⟩ := List.mem_map.1 hx
    rw [distD_enc] at hZ
    walk_at "ws"
    refine ⟨_, _, rfl, by rw [(fine_go hf (day_take hd n).2).1]; omega, ?_⟩
    walk_at "ws"
    exact hZ _ _ rfl rfl
  · rw [List.nil_append, far_map2 _ _ _ _ _ he]
    walk_at "ws"
    exact h
def fs_together : FS := fun dvs R => ∃ y s t d, dvs = [.data (encY y), .data (encS s), .data (encS t), .data (encDay d)] ∧ YardOk y ∧ Fine y s ∧ Fine y t ∧ DayOk y.length d ∧ R (.olist ((farL y s t d).map .int)) []
theorem sp_together (dvs : List DV) (R : DV → List DV → Prop) (hl : dvs.length = [false, false, false, false].length) (h : fs_together dvs R) : w_together fs_check_pair fs_check_day fs_distances fs_moments (endsOf [false, false, false, false] R) (initE n_together.length dvs) := by
  obtain ⟨y, s, t, d, rfl, hy, hf, hg, hd, h⟩ := h
  unfold w_together
  refine seq_i ?_
  walk_at "ws"
  refine ⟨y, s, t, rfl, hy, hf, hg, ?_⟩
  refine seq_k (fun e => e = [some (.data (encY y)), some (.data (encS s)), some (.data (encS t)), some (.data (encDay d))]) (fun X hX => ?_) ?_
  · walk_at "ws"
    exact ⟨y.map encR, encDay d, rfl, yard_enc hy, by rw [List.length_map]; exact day_enc hd.2, shrt_day hy.2.1 hd, hX _ rfl⟩
  rintro e rfl
  walk_at "ws"
  refine ⟨y, s, d, rfl, hy, hf, hd, ?_⟩
  walk_at "ws"
  refine ⟨y, t, d, rfl, hy, hg, hd, ?_⟩
  walk_at "ws"
  refine ⟨y, s, t, d, d, rfl, hy.2.1, hf, hd, rfl, ?_⟩
  rw [farL2_same]
  walk_at "ws"
  exact h
def fs_left_out : FS := fun dvs R => ∃ (y : List Rm) (s : List Int) (d : List Ask) (k : Nat), dvs = [.data (encY y), .data (encS s), .data (encDay d), .data (.int (k : Int))] ∧ YardOk y ∧ Fine y s ∧ DayOk y.length d ∧ k < d.length ∧ R (.olist ((farL2 y s s d (idleD d k)).map .int)) []
set_option maxHeartbeats 4000000 in
theorem sp_left_out (dvs : List DV) (R : DV → List DV → Prop) (hl : dvs.length = [false, false, false, false].length) (h : fs_left_out dvs R) : w_left_out fs_check_day_from fs_distances fs_is_number_of_ask fs_moments (endsOf [false, false, false, false] R) (initE n_left_out.length dvs) := by
  obtain ⟨y, s, d, k, rfl, hy, hf, hd, hk, h⟩ := h
  have h200 := hd.1
  have eD : encDay d = .list (d.map encA) := rfl
  unfold w_left_out
  refine seq_i ?_
  walk_at "ws"
  refine ⟨y.map encR, encS s, encDay d, rfl, yard_enc hy, stand_enc hf, by rw [List.length_map]; exact day_enc hd.2, shrt_day hy.2.1 hd, ?_⟩
  refine seq_i ?_
  walk_at "ws"
  refine ⟨d, .int (k : Int), rfl, ?_⟩
  have e1 : isPlaceD d.length (.int (k : Int)) = true := by
    unfold isPlaceD
    simp
    omega
  simp only [e1]
  walk_at "ws"
  rw [eD]
  refine seq_k (fun e => e = [some (.data (encY y)), some (.data (encS s)), some (.data (.list (d.map encA))), some (.data (.int ((k : Int)))), some (.data (.list ((idleD d k).map encA)))]) (fun X hX => ?_) ?_
  · walk_at "ws"
    have f1 := cut_to (d.map encA) k
    have f2 : cutL (d.map encA) (some ((k : Int) + 1)) none = (d.map encA).drop (k + 1) := cut_from (d.map encA) (k + 1)
    simp only [f1, f2]
    have eW : (d.map encA).take k ++ [PyData.tuple [.tuple [], .tuple []]] ++ (d.map encA).drop (k + 1) = (idleD d k).map encA := by
      unfold idleD
      rw [List.map_append, List.map_append, List.map_take, List.map_drop]
      rfl
    rw [eW]
    refine ⟨?_, ?_, hX _ rfl⟩
    · simp only [List.length_take, List.length_map, List.length_cons, List.length_nil]; omega
    · simp only [List.length_append, List.length_take, List.length_drop, List.length_map, List.length_cons, List.length_nil]; omega
  rintro e rfl
  walk_at "ws"
  refine ⟨y, s, d, rfl, hy, hf, hd, ?_⟩
  walk_at "ws"
  refine ⟨y, s, idleD d k, rfl, hy, hf, idle_ok hd hk, ?_⟩
  walk_at "ws"
  refine ⟨y, s, s, d, idleD d k, rfl, hy.2.1, hf, hd, idle_len hk, ?_⟩
  walk_at "ws"
  exact h

theorem eqv_nilL (l : List PyData) : (PyData.list l).eqv (.list []) = l.isEmpty := by cases l <;> rfl
def fs__law_exchanged_right : FS := fun dvs R => ∃ (y : List Rm) (s : List Int) (d : List Ask) (k : Nat), dvs = [.data (encY y), .data (encS s), .data (encDay d), .data (.int (k : Int))] ∧ YardOk y ∧ Fine y s ∧ DayOk y.length d ∧ k + 1 < d.length ∧ R (.data (.bool true)) []
set_option maxHeartbeats 8000000 in
theorem sp__law_exchanged_right (dvs : List DV) (R : DV → List DV → Prop) (hl : dvs.length = [false, false, false, false].length) (h : fs__law_exchanged_right dvs R) : w__law_exchanged_right fs_far_apart fs_together fs_go (endsOf [false, false, false, false] R) (initE n__law_exchanged_right.length dvs) := by
  obtain ⟨y, s, d, k, rfl, hy, hf, hd, hk, h⟩ := h
  have h200 := hd.1
  have h9 := hy.2.1
  have eD : encDay d = .list (d.map encA) := rfl
  unfold w__law_exchanged_right
  rw [eD]
  have hb : (d.take (k + 2)).drop k = [d[k], d[k + 1]] := by
    rw [List.take_succ, List.take_succ, List.getElem?_eq_getElem (show k < d.length by omega), List.getElem?_eq_getElem hk, List.drop_append_of_le_length (by simp; omega), List.drop_append_of_le_length (by simp; omega)]
    simp
  have ha1 := hd.2 _ (List.getElem_mem (show k < d.length by omega))
  have hb1 := hd.2 _ (List.getElem_mem hk)
  generalize d[k] = a at hb ha1
  generalize d[k + 1] = b at hb hb1
  have h2 : DayOk y.length [a, b] := ⟨by show 2 ≤ 200; omega, fun x hx => by
    simp only [List.mem_cons, List.not_mem_nil, or_false] at hx
    rcases hx with rfl | rfl
    · exact ha1
    · exact hb1⟩
  have h2' : DayOk y.length [b, a] := ⟨by show 2 ≤ 200; omega, fun x hx => by
    simp only [List.mem_cons, List.not_mem_nil, or_false] at hx
    rcases hx with rfl | rfl
    · exact hb1
    · exact ha1⟩
  refine seq_k (fun e => e = [some (.data (encY y)), some (.data (encS s)), some (.data (.list (d.map encA))), some (.data (.int ((k : Int)))), some (.data (.list [encA a, encA b])), none, none, none, none, none, none, none, none, none]) (fun X hX => ?_) ?_
  · walk_at "ws"
    have f1 : cutL (d.map encA) (some (k : Int)) (some ((k : Int) + 2)) = ((d.map encA).take (k + 2)).drop k := cut_both (d.map encA) k (k + 2) (by omega)
    rw [f1, ← List.map_take, ← List.map_drop, hb]
    exact hX _ rfl
  rintro e rfl
  refine seq_k (fun e => e = [some (.data (encY y)), some (.data (encS s)), some (.data (.list (d.map encA))), some (.data (.int ((k : Int)))), some (.data (.list [encA a, encA b])), some (.data (encS (goM y s (d.take k)).2)), none, none, none, none, none, none, none, none]) (fun X hX => ?_) ?_
  · walk_at "ws"
    rw [cut_to, ← List.map_take]
    refine ⟨y, s, d.take k, _, rfl, .inr rfl, hy, hf, day_take hd k, ?_⟩
    walk_at "ws"
    exact hX _ rfl
  rintro e rfl
  have fh : Fine y (goM y s (d.take k)).2 := fine_go hf (day_take hd k).2
  generalize (goM y s (d.take k)).2 = w at fh
  have fe1 : Fine y (goM y w [a, b]).2 := fine_go fh h2.2
  have fe2 : Fine y (goM y w [b, a]).2 := fine_go fh h2'.2
  have far4 := swap_four fh ha1 hb1
  have far0 := swap_apart fh ha1 hb1
  refine seq_k (fun e => e = [some (.data (encY y)), some (.data (encS s)), some (.data (.list (d.map encA))), some (.data (.int ((k : Int)))), some (.data (.list [encA a, encA b])), some (.data (encS w)), some (.data (.list [encS (goM y w [a, b]).2, encS (goM y w [b, a]).2])), none, none, none, none, none, none, none]) (fun X hX => ?_) ?_
  · walk_at "ws"
    refine ⟨y, w, [a, b], _, rfl, .inl rfl, hy, fh, h2, ?_⟩
    walk_at "ws"
    refine ⟨y, w, [b, a], _, rfl, .inr rfl, hy, fh, h2', ?_⟩
    walk_at "ws"
    exact hX _ rfl
  rintro e rfl
  generalize (goM y w [a, b]).2 = u1 at *
  generalize (goM y w [b, a]).2 = u2 at *
  refine seq_k (fun e => ∃ l1 l2 : List Int, l1.Perm ((a.1 ++ a.2).map Int.ofNat) ∧ l2.Perm ((b.1 ++ b.2).map Int.ofNat) ∧ e = [some (.data (encY y)), some (.data (encS s)), some (.data (.list (d.map encA))), some (.data (.int ((k : Int)))), some (.data (.list [encA a, encA b])), some (.data (encS w)), some (.data (.list [encS u1, encS u2])), some (.data (.list [.list (l1.map .int), .list (l2.map .int)])), none, none, none, none, none, none]) (fun X hX => ?_) ?_
  · walk_at "ws"
    refine compGo_encs encA [a, b] (fun p acc e => e = [some (.data (encY y)), some (.data (encS s)), some (.data (.list (d.map encA))), some (.data (.int ((k : Int)))), some (.data (.list [encA a, encA b])), some (.data (encS w)), some (.data (.list [encS u1, encS u2])), none, none, none, none, none, none, none] ∧ ((p = [] ∧ acc = []) ∨ (∃ l1 : List Int, p = [a] ∧ l1.Perm ((a.1 ++ a.2).map Int.ofNat) ∧ acc = [PyData.list (l1.map .int)]) ∨ (∃ l1 l2 : List Int, p = [a, b] ∧ l1.Perm ((a.1 ++ a.2).map Int.ofNat) ∧ l2.Perm ((b.1 ++ b.2).map Int.ofNat) ∧ acc = [PyData.list (l1.map .int), .list (l2.map .int)]))) ⟨rfl, .inl ⟨rfl, rfl⟩⟩ (by show 2 ≤ 16000000; omega) (fun p x q hp acc e Z U hI hZ hU => ?_) (fun acc e hI => ?_)
    · have step : ∀ (x : Ask) (Q : List Int → Prop), AskOk y.length x → (∀ l : List Int, l.Perm ((x.1 ++ x.2).map Int.ofNat) → Q l) → ((x.1.map encN).length + (x.2.map encN).length ≤ 16000000 ∧ ∃ ns, intsOf ((x.1.map encN) ++ (x.2.map encN)) = some ns ∧ ∀ l : List Int, l.Perm ns → Q l) := fun x Q hx hQ => by
        have := places_len hx.1
        have := places_len hx.2
        refine ⟨by simp only [List.length_map]; omega, _, by rw [← List.map_append]; exact intsOf_enc _, hQ⟩
      rcases hI with ⟨rfl, ⟨rfl, rfl⟩ | ⟨l1, rfl, hl1, rfl⟩ | ⟨l1, l2, rfl, _⟩⟩
      · have hx : x = a := by simpa using (List.cons.inj hp).1
        subst hx
        have eA : encA x = .tuple [.tuple (x.1.map encN), .tuple (x.2.map encN)] := rfl
        rw [eA] at hZ ⊢
        walk_at "ws"
        obtain ⟨s1, ns, s2, s3⟩ := step x (fun l => Z (.olist (l.map .int)) [some (.data (encY y)), some (.data (encS s)), some (.data (.list (d.map encA))), some (.data (.int ((k : Int)))), some (.data (.list [.tuple [.tuple (x.1.map encN), .tuple (x.2.map encN)], encA b])), some (.data (encS w)), some (.data (.list [encS u1, encS u2])), none, none, none, none, some (.data (.tuple (x.1.map encN))), some (.data (.tuple (x.2.map encN))), none]) ha1 (fun l hl => hZ _ _ ⟨rfl, .inr (.inl ⟨l, rfl, hl, rfl⟩)⟩)
        refine ⟨s1, ?_⟩
        simp only [s2]
        exact fun l hl _ => s3 l hl
      · have hx : x = b := by
          have := (List.cons.inj hp).2
          simpa using (List.cons.inj this).1
        subst hx
        have eA : encA x = .tuple [.tuple (x.1.map encN), .tuple (x.2.map encN)] := rfl
        rw [eA] at hZ ⊢
        walk_at "ws"
        obtain ⟨s1, ns, s2, s3⟩ := step x (fun l => Z (.olist (l.map .int)) [some (.data (encY y)), some (.data (encS s)), some (.data (.list (d.map encA))), some (.data (.int ((k : Int)))), some (.data (.list [encA a, .tuple [.tuple (x.1.map encN), .tuple (x.2.map encN)]])), some (.data (encS w)), some (.data (.list [encS u1, encS u2])), none, none, none, none, some (.data (.tuple (x.1.map encN))), some (.data (.tuple (x.2.map encN))), none]) hb1 (fun l hl => hZ _ _ ⟨rfl, .inr (.inr ⟨l1, l, rfl, hl1, hl, rfl⟩)⟩)
        refine ⟨s1, ?_⟩
        simp only [s2]
        exact fun l hl _ => s3 l hl
      · cases hp
    · rcases hI with ⟨rfl, ⟨h0, _⟩ | ⟨l1, h0, _⟩ | ⟨l1, l2, _, hl1, hl2, rfl⟩⟩
      · cases h0
      · cases h0
      · walk_at "ws"
        exact hX _ ⟨l1, l2, hl1, hl2, rfl⟩
  rintro e ⟨l1, l2, hl1, hl2, rfl⟩
  have hln : l1.length ≤ 18 := by
    rw [hl1.length_eq, List.length_map, List.length_append]
    have := places_len ha1.1
    have := places_len ha1.2
    omega
  refine seq_k (fun e => e = [some (.data (encY y)), some (.data (encS s)), some (.data (.list (d.map encA))), some (.data (.int ((k : Int)))), some (.data (.list [encA a, encA b])), some (.data (encS w)), some (.data (.list [encS u1, encS u2])), some (.data (.list [.list (l1.map .int), .list (l2.map .int)])), some (.data (.bool (l1.filter fun q => decide (q ∈ l2)).isEmpty)), none, none, none, none, none]) (fun X hX => ?_) ?_
  · walk_at "ws"
    refine compGo_enc [some (.data (encY y)), some (.data (encS s)), some (.data (.list (d.map encA))), some (.data (.int ((k : Int)))), some (.data (.list [encA a, encA b])), some (.data (encS w)), some (.data (.list [encS u1, encS u2])), some (.data (.list [.list (l1.map .int), .list (l2.map .int)])), none, none, none, none, none, none] PyData.int (fun q => decide (q ∈ l2)) PyData.int l1 [] _ rfl (by show 0 + _ ≤ 16000000; omega) (fun q _ Z U hZ hU => ?_) ?_
    · walk_at "ws"
      rw [intsOf_ints]
      exact ifB (fun hb => hZ hb _ _ rfl rfl) fun hb => hU hb _ rfl
    · rw [List.nil_append]
      walk_at "ws"
      refine ⟨ints_small _, rfl, ?_⟩
      rw [eqv_nilL, List.isEmpty_map]
      exact hX _ rfl
  rintro e rfl
  have hap : (l1.filter fun q => decide (q ∈ l2)).isEmpty = true → u1 = u2 := fun z => far0 fun q hq hq2 => by
    rw [List.isEmpty_iff, List.filter_eq_nil_iff] at z
    refine z (q : Int) (hl1.mem_iff.2 (List.mem_map.2 ⟨q, List.mem_append.2 hq, rfl⟩)) (decide_eq_true (hl2.mem_iff.2 (List.mem_map.2 ⟨q, List.mem_append.2 hq2, rfl⟩)))
  generalize (l1.filter fun q => decide (q ∈ l2)).isEmpty = ap at *
  refine seq_k (fun e => e = [some (.data (encY y)), some (.data (encS s)), some (.data (.list (d.map encA))), some (.data (.int ((k : Int)))), some (.data (.list [encA a, encA b])), some (.data (encS w)), some (.data (.list [encS u1, encS u2])), some (.data (.list [.list (l1.map .int), .list (l2.map .int)])), some (.data (.bool ap)), some (.data (.int ((distL u1 u2)))), none, none, none, none]) (fun X hX => ?_) ?_
  · walk_at "ws"
    refine ⟨y, u1, u2, rfl, hy, fe1, fe2, ?_⟩
    walk_at "ws"
    exact hX _ rfl
  rintro e rfl
  refine seq_k (fun e => e = [some (.data (encY y)), some (.data (encS s)), some (.data (.list (d.map encA))), some (.data (.int ((k : Int)))), some (.data (.list [encA a, encA b])), some (.data (encS w)), some (.data (.list [encS u1, encS u2])), some (.data (.list [.list (l1.map .int), .list (l2.map .int)])), some (.data (.bool ap)), some (.data (.int ((distL u1 u2)))), none, none, none, none]) (fun X hX => ?_) ?_
  · walk_at "ws"
    refine ifT (fun z => absurd z (by omega)) fun _ => ?_
    cases ap with
    | false =>
      walk_at "ws"
      exact hX _ rfl
    | true =>
      have e0 : (PyData.int (distL u1 u2)).eqv (.int 0) = true := eqvI_eq (by rw [hap rfl, dist_self])
      walk_at "ws"
      refine ⟨rfl, rfl, ?_⟩
      simp only [e0]
      walk_at "ws"
      exact hX _ rfl
  rintro e rfl
  refine seq_k (fun e => e = [some (.data (encY y)), some (.data (encS s)), some (.data (.list (d.map encA))), some (.data (.int ((k : Int)))), some (.data (.list [encA a, encA b])), some (.data (encS w)), some (.data (.list [encS u1, encS u2])), some (.data (.list [.list (l1.map .int), .list (l2.map .int)])), some (.data (.bool ap)), some (.data (.int ((distL u1 u2)))), some (.data (.list ((farL y u1 u2 (d.drop (k + 2))).map .int))), none, none, none]) (fun X hX => ?_) ?_
  · walk_at "ws"
    have f2 : cutL (d.map encA) (some ((k : Int) + 2)) none = (d.map encA).drop (k + 2) := cut_from (d.map encA) (k + 2)
    rw [f2, ← List.map_drop]
    refine ⟨y, u1, u2, d.drop (k + 2), rfl, hy, fe1, fe2, ⟨by rw [List.length_drop]; omega, fun x hx => hd.2 x (List.mem_of_mem_drop hx)⟩, ?_⟩
    walk_at "ws"
    exact hX _ rfl
  rintro e rfl
  have hdn := far_down (d := d.drop (k + 2)) fe1 fe2 fun x hx => hd.2 x (List.mem_of_mem_drop hx)
  obtain ⟨l, el⟩ := far_cons y u1 u2 (d.drop (k + 2))
  walk_at "ws"
  rw [intsOf_ints]
  simp only
  intro ns' hp ho
  have ens := perm_desc hp ho hdn
  subst ens
  refine ⟨ints_small _, ints_small _, ?_⟩
  simp only [DV.dat, ints_eqv]
  walk_at "ws"
  rw [el]
  have a0 : atI ((distL u1 u2 :: l).map PyData.int) 0 = some (.int (distL u1 u2)) := atI0
  simp only [a0]
  refine ⟨rfl, rfl, ?_⟩
  have e1 : (PyData.int (distL u1 u2)).eqv (.int (distL u1 u2)) = true := eqvI_eq rfl
  simp only [DV.dat, e1]
  exact h

def fs__law_left_right : FS := fun dvs R => ∃ (y : List Rm) (s : List Int) (d : List Ask) (k : Nat), dvs = [.data (encY y), .data (encS s), .data (encDay d), .data (.int (k : Int))] ∧ YardOk y ∧ Fine y s ∧ DayOk y.length d ∧ k < d.length ∧ R (.data (.bool true)) []
theorem rep_zero : ∀ n : Nat, (List.replicate n [PyData.int 0]).flatten = (List.replicate n (0 : Int)).map .int
  | 0 => rfl
  | n + 1 => by rw [List.replicate_succ, List.flatten_cons, rep_zero n, List.replicate_succ, List.map_cons]; rfl
theorem eqv_encS (a b : List Int) : (encS a).eqv (encS b) = decide (a = b) := by
  have go : ∀ a b : List Int, PyData.eqvAll (a.map .int) (b.map .int) = decide (a = b) := fun a => by
    induction a with
    | nil => intro b; cases b <;> rfl
    | cons x a ih =>
      intro b
      cases b with
      | nil => rfl
      | cons z b =>
        rw [List.map_cons, List.map_cons, PyData.eqvAll, ih b]
        by_cases e : x = z
        · subst e
          rw [eqvI_eq rfl]
          simp
        · rw [eqvI_ne e]
          simp [e]
  unfold encS
  rw [PyData.eqv, go]
theorem small_encS {s : List Int} (h : s.length ≤ 100) : Small (encS s) := by
  have t : Tame 1 (encS s) := tame_tuple (fun x hx => by
    obtain ⟨i, _, rfl⟩ := List.mem_map.1 hx
    exact tame_int _) (by rw [List.length_map]; omega)
  exact t.small (by decide)
theorem eqv_bb (a b : Bool) : (PyData.bool a).eqv (.bool b) = (a == b) := by cases a <;> cases b <;> rfl
set_option maxHeartbeats 8000000 in
theorem sp__law_left_right (dvs : List DV) (R : DV → List DV → Prop) (hl : dvs.length = [false, false, false, false].length) (h : fs__law_left_right dvs R) : w__law_left_right fs_left_out fs_far_apart fs_go (endsOf [false, false, false, false] R) (initE n__law_left_right.length dvs) := by
  obtain ⟨y, s, d, k, rfl, hy, hf, hd, hk, h⟩ := h
  have h200 := hd.1
  have h9 := hy.2.1
  have eD : encDay d = .list (d.map encA) := rfl
  have hah := left_ahead (y := y) (s := s) hk
  have hbe := left_behind (y := y) (s := s) hk
  have hlen : (farL2 y s s d (idleD d k)).length = d.length + 1 := by unfold farL2; rw [List.length_map, List.length_range]
  have hlast : (farL2 y s s d (idleD d k))[d.length]? = some (distL (goM y s d).2 (goM y s (idleD d k)).2) := by
    unfold farL2
    rw [List.getElem?_map, List.getElem?_range (Nat.lt_succ_self _)]
    show some (distL (goM y s (d.take d.length)).2 (goM y s ((idleD d k).take d.length)).2) = _
    rw [List.take_length, ← idle_len hk, List.take_length]
  have hfw : Fine y (goM y s (d.take k)).2 := fine_go hf (day_take hd k).2
  have hak := hd.2 _ (List.getElem_mem hk)
  have hfr := fine_serve hfw hak
  have hdr : ∀ a ∈ d.drop (k + 1), AskOk y.length a := fun a ha => hd.2 a (List.mem_of_mem_drop ha)
  have hdn := far_down (d := d.drop (k + 1)) hfr hfw hdr
  obtain ⟨l, el⟩ := far_cons y (serveM y (goM y s (d.take k)).2 d[k]).2 (goM y s (d.take k)).2 (d.drop (k + 1))
  have hm2 := (serve_moves hfw hak).1
  rw [dist_sym] at hm2
  have e1 : (goM y s (d.take (k + 1))).2 = (serveM y (goM y s (d.take k)).2 d[k]).2 := by
    rw [take_at hk, go_app]; rfl
  have e2 : (goM y s (idleD d k)).2 = (goM y s (d.take k ++ d.drop (k + 1))).2 := by
    unfold idleD
    rw [go_skip, go_app]
  rw [hbe.symm] at hdn el
  rw [e2] at hlast
  have hless : DayOk y.length (d.take k ++ d.drop (k + 1)) := ⟨by rw [List.length_append, List.length_take, List.length_drop]; omega, fun a ha => by
    rcases List.mem_append.1 ha with ha | ha
    · exact hd.2 a (List.mem_of_mem_take ha)
    · exact hd.2 a (List.mem_of_mem_drop ha)⟩
  unfold w__law_left_right
  rw [eD]
  generalize hL : farL2 y s s d (idleD d k) = L at *
  refine seq_k (fun e => e = [some (.data (encY y)), some (.data (encS s)), some (.data (.list (d.map encA))), some (.data (.int ((k : Int)))), some (.data (.list (L.map .int))), none, none]) (fun X hX => ?_) ?_
  · walk_at "ws"
    refine ⟨y, s, d, k, rfl, hy, hf, hd, hk, ?_⟩
    rw [hL]
    walk_at "ws"
    exact hX _ rfl
  rintro e rfl
  refine seq_k (fun e => e = [some (.data (encY y)), some (.data (encS s)), some (.data (.list (d.map encA))), some (.data (.int ((k : Int)))), some (.data (.list (L.map .int))), some (.data (.list ((d.take k ++ d.drop (k + 1)).map encA))), none]) (fun X hX => ?_) ?_
  · walk_at "ws"
    have f1 := cut_to (d.map encA) k
    have f2 : cutL (d.map encA) (some ((k : Int) + 1)) none = (d.map encA).drop (k + 1) := cut_from (d.map encA) (k + 1)
    rw [f1, f2, ← List.map_take, ← List.map_drop, ← List.map_append]
    refine ⟨?_, hX _ rfl⟩
    simp only [List.length_take, List.length_drop, List.length_map]; omega
  rintro e rfl
  generalize hM : L.drop (k + 1) = M at *
  refine seq_k (fun e => e = [some (.data (encY y)), some (.data (encS s)), some (.data (.list (d.map encA))), some (.data (.int ((k : Int)))), some (.data (.list (L.map .int))), some (.data (.list ((d.take k ++ d.drop (k + 1)).map encA))), some (.data (.list (M.map .int)))]) (fun X hX => ?_) ?_
  · walk_at "ws"
    have f2 : cutL (L.map PyData.int) (some ((k : Int) + 1)) none = (L.map PyData.int).drop (k + 1) := cut_from _ (k + 1)
    rw [f2, ← List.map_drop, hM]
    exact hX _ rfl
  rintro e rfl
  refine seq_k (fun e => e = [some (.data (encY y)), some (.data (encS s)), some (.data (.list (d.map encA))), some (.data (.int ((k : Int)))), some (.data (.list (L.map .int))), some (.data (.list ((d.take k ++ d.drop (k + 1)).map encA))), some (.data (.list (M.map .int)))]) (fun X hX => ?_) ?_
  · walk_at "ws"
    have f1 : cutL (L.map PyData.int) none (some ((k : Int) + 1)) = (L.map PyData.int).take (k + 1) := cut_to _ (k + 1)
    have f3 : ((k : Int) + 1).toNat = k + 1 := by omega
    rw [f1, ← List.map_take, hah, f3, rep_zero]
    refine ⟨⟨by omega, by omega, by omega⟩, ints_small _, ints_small _, ?_⟩
    simp only [ints_eqv]
    walk_at "ws"
    rw [intsOf_ints]
    simp only
    intro ns' hp ho
    have ens := perm_desc hp ho hdn
    subst ens
    refine ⟨ints_small _, ints_small _, ?_⟩
    simp only [DV.dat, ints_eqv]
    walk_at "ws"
    refine ⟨by rw [el]; simp, fun m hm hb => ?_⟩
    rw [el] at hm hb
    have hmh := max_head (el ▸ hdn) hm hb
    refine ifT (fun z => absurd z (by omega)) fun _ => hX _ rfl
  rintro e rfl
  refine seq_k (fun e => e = [some (.data (encY y)), some (.data (encS s)), some (.data (.list (d.map encA))), some (.data (.int ((k : Int)))), some (.data (.list (L.map .int))), some (.data (.list ((d.take k ++ d.drop (k + 1)).map encA))), some (.data (.list (M.map .int)))]) (fun X hX => ?_) ?_
  · walk_at "ws"
    rw [intsOf_ints]
    simp only
    refine ⟨by rw [el]; simp, fun m hm hb => ?_⟩
    rw [el] at hm hb
    have hmh := max_head (el ▸ hdn) hm hb
    have f1 : cutL (d.map encA) none (some ((k : Int) + 1)) = (d.map encA).take (k + 1) := cut_to _ (k + 1)
    rw [f1, ← List.map_take]
    refine ⟨rfl, rfl, ?_⟩
    refine ⟨y, s, d.take (k + 1), _, rfl, .inr rfl, hy, hf, day_take hd _, ?_⟩
    walk_at "ws"
    rw [cut_to, ← List.map_take]
    refine ⟨y, s, d.take k, _, rfl, .inr rfl, hy, hf, day_take hd _, ?_⟩
    walk_at "ws"
    rw [e1]
    refine ⟨small_encS (by rw [hfr.1]; omega), small_encS (by rw [hfw.1]; omega), rfl, rfl, ?_⟩
    have eb : (PyData.int m).eqv (.int 0) = decide ((serveM y (goM y s (d.take k)).2 d[k]).2 = (goM y s (d.take k)).2) := by
      rw [hmh]
      by_cases z : (serveM y (goM y s (d.take k)).2 d[k]).2 = (goM y s (d.take k)).2
      · rw [decide_eq_true z, eqvI_eq (by rw [z, dist_self])]
      · rw [decide_eq_false z, eqvI_ne fun w => z (dist_zero (by rw [hfr.1, hfw.1]) w)]
    simp only [DV.dat, eqv_encS, eb, eqv_bb, beq_self_eq_true, Bool.not_true]
    walk_at "ws"
    exact hX _ rfl
  rintro e rfl
  have a0 : atI (L.map PyData.int) (-1) = some (.int (distL (goM y s d).2 (goM y s (d.take k ++ d.drop (k + 1))).2)) := atI_last (n := d.length) (by rw [List.length_map, hlen]) (by rw [List.getElem?_map, hlast]; rfl)
  walk_at "ws"
  simp only [a0]
  refine ⟨y, s, d, _, rfl, .inl rfl, hy, hf, hd, ?_⟩
  walk_at "ws"
  refine ⟨y, s, d.take k ++ d.drop (k + 1), _, rfl, .inl rfl, hy, hf, hless, ?_⟩
  walk_at "ws"
  refine ⟨y, _, _, rfl, hy, fine_go hf hd.2, fine_go hf hless.2, ?_⟩
  walk_at "ws"
  refine ⟨rfl, rfl, ?_⟩
  rw [eqvI_eq rfl]
  exact h

def fs_law : FS := fun dvs R => ∃ ns : List Int, dvs = [.data (.list (ns.map .int))] ∧ ns.length ≤ 63 ∧ R (.data (.bool true)) []
set_option maxHeartbeats 8000000 in
theorem sp_law (dvs : List DV) (R : DV → List DV → Prop) (hl : dvs.length = [false].length) (h : fs_law dvs R) : w_law fs__law_cart fs__law_rooms fs__law_things fs__law_asks fs__law_pull fs_far_apart fs__law_some fs__law_exchanged_right fs__law_left_right fs_go fs_served (endsOf [false] R) (initE n_law.length dvs) := by
  obtain ⟨ns, rfl, h63, h⟩ := h
  unfold w_law
  refine seq_k (fun e => ∃ (z1 z2 z3 z4 z5 z6 z7 : Option DV), e = [some (.data (.list (ns.map .int))), z1, z2, z3, z4, z5, z6, z7]) (fun X hX => ?_) ?_
  case refine_2 =>
    rintro e ⟨z1, z2, z3, z4, z5, z6, z7, rfl⟩
    walk_at "ws"
    exact h
  walk_at "ws"
  have hlen : (ns.map PyData.int).length = ns.length := List.length_map _
  rw [hlen]
  refine ⟨by constructor <;> (split <;> (try split) <;> omega), ?_⟩
  refine forGo_by (fun ds e => (∀ d ∈ ds, ∃ k : Int, d = .int k ∧ 0 ≤ k ∧ k ≤ 100) ∧ ∃ w6 : Option DV, (w6 = none ∨ ∃ q, w6 = some (.data q)) ∧ ∃ (z1 z2 z3 z4 z5 z7 : Option DV), e = [some (.data (.list (ns.map .int))), z1, z2, z3, z4, z5, w6, z7]) ?_ ?_ _ _ ⟨?_, none, .inl rfl, _, _, _, _, _, _, rfl⟩
  case refine_3 =>
    intro d hd
    unfold intsD at hd
    obtain ⟨i, hi, rfl⟩ := List.mem_map.1 hd
    rw [List.mem_range] at hi
    refine ⟨_, rfl, by omega, ?_⟩
    have : ((if 1 < if (ns.length : Int) < 4 then (ns.length : Int) else 4 then if (ns.length : Int) < 4 then (ns.length : Int) else 4 else 1) : Int) ≤ 5 := by
      split <;> (try split) <;> omega
    omega
  case refine_2 =>
    rintro e ⟨_, w6, _, z1, z2, z3, z4, z5, z7, rfl⟩
    exact hX _ ⟨_, _, _, _, _, _, _, rfl⟩
  clear hX
  rintro x ds env X hX ⟨hd, w6, h6, z1, z2, z3, z4, z5, z7, rfl⟩
  obtain ⟨kk, rfl, k0, k1⟩ := hd _ List.mem_cons_self
  have key : ∀ w6 : Option DV, (w6 = none ∨ ∃ q, w6 = some (.data q)) → ∀ (z1 z2 z3 z4 z5 z7 : Option DV), X [some (.data (.list (ns.map .int))), z1, z2, z3, z4, z5, w6, z7] := fun w6 h6 (z1 z2 z3 z4 z5 z7 : Option DV) => hX _ ⟨fun d hd' => hd d (List.mem_cons_of_mem _ hd'), w6, h6, _, _, _, _, _, _, rfl⟩
  clear hX hd
  refine seq_k (fun e => ∃ c, Cart 0 c ∧ e = [some (.data (.list (ns.map .int))), some (.data (.int (kk))), some (c), z3, z4, z5, w6, z7]) (fun X1 hX1 => ?_) ?_
  · walk_at "ws"
    refine ⟨ns, kk, rfl, k0, k1, fun c hc => ?_⟩
    walk_at "ws"
    exact hX1 _ ⟨c, hc, rfl⟩
  rintro e ⟨c, hc, rfl⟩
  refine seq_k (fun e => ∃ (y : List Rm) (c : DV), YardB y ∧ Cart 40 c ∧ e = [some (.data (.list (ns.map .int))), some (.data (.int (kk))), some (c), some (.data (encY y)), z4, z5, w6, z7]) (fun X1 hX1 => ?_) ?_
  · walk_at "ws"
    refine ⟨9, c, _, rfl, hc, by omega, by omega, by omega, fun y c1 hy hc1 => ?_⟩
    walk_at "ws"
    exact hX1 _ ⟨y, c1, hy, hc1.up (by omega), rfl⟩
  clear hc
  rintro e ⟨y, c, hyb, hc, rfl⟩
  have hy := hyb.1
  have hy1 := hy.1
  have hy9 := hy.2.1
  have eY : encY y = .tuple (y.map encR) := rfl
  refine seq_k (fun e => ∃ (s : List Int) (c : DV), Fine y s ∧ Cart 80 c ∧ e = [some (.data (.list (ns.map .int))), some (.data (.int (kk))), some (c), some (.data (encY y)), some (.data (encS s)), z5, w6, z7]) (fun X1 hX1 => ?_) ?_
  · walk_at "ws"
    refine ⟨y, c, _, rfl, hc, by omega, hyb, fun s c1 hs _ hc1 => ?_⟩
    walk_at "ws"
    exact hX1 _ ⟨s, c1, hs, hc1.up (by omega), rfl⟩
  clear hc
  rintro e ⟨s, c, hf, hc, rfl⟩
  refine seq_k (fun e => ∃ (d : List Ask) (c : DV), DayOk y.length d ∧ d.length ≤ 58 ∧ Cart 4000 c ∧ e = [some (.data (.list (ns.map .int))), some (.data (.int (kk))), some (c), some (.data (encY y)), some (.data (encS s)), some (.data (.list (d.map encA))), w6, z7]) (fun X1 hX1 => ?_) ?_
  · rw [eY]
    walk_at "ws"
    rw [List.length_map]
    refine ⟨2, c, _, rfl, hc, by omega, by omega, by omega, fun r c1 a0 a1 hc1 => ?_⟩
    obtain ⟨u, hu, u0, u1⟩ : ∃ v : Int, atI [PyData.int 8, .int 58] r = some (.int v) ∧ 0 ≤ v ∧ v ≤ 58 := by
      have : r = 0 ∨ r = 1 := by omega
      rcases this with e | e
      · rw [e]; exact ⟨_, atI0, by omega, by omega⟩
      · rw [e]; exact ⟨_, atI1, by omega, by omega⟩
    walk_at "ws"
    simp only [hu]
    walk_at "ws"
    refine ⟨y.length, u, c1, _, rfl, hc1, by omega, hy1, hy9, u0, by omega, fun d c2 hd hdl hc2 => ?_⟩
    walk_at "ws"
    exact hX1 _ ⟨d, c2, hd, by omega, hc2.up (by omega), rfl⟩
  clear hc
  rintro e ⟨d0, c, hd0, hdl0, hc, rfl⟩
  refine seq_k (fun e => ∃ (d : List Ask) (c : DV), DayOk y.length d ∧ 2 ≤ d.length ∧ d.length ≤ 60 ∧ Cart 5000 c ∧ e = [some (.data (.list (ns.map .int))), some (.data (.int (kk))), some (c), some (.data (encY y)), some (.data (encS s)), some (.data (.list (d.map encA))), w6, z7]) (fun X1 hX1 => ?_) ?_
  · rcases h6 with rfl | ⟨q, rfl⟩
    all_goals
      rw [eY]
      walk_at "ws"
      refine ⟨by decide, ?_⟩
      have e5 : intsD (Int.toNat 2) = intsD 2 := rfl
      rw [e5]
      refine compGo_rngs 2 (fun i acc e => ∃ (ds : List Ask) (c' : DV), acc = ds.map encA ∧ ds.length = i ∧ (∀ a ∈ ds, AskOk y.length a) ∧ Cart (4000 + 40 * i) c' ∧ e = [some (.data (.list (ns.map .int))), some (.data (.int (kk))), some (c'), some (.data (.tuple (y.map encR))), some (.data (encS s)), some (.data (.list (d0.map encA))), none, z7]) ⟨[], c, rfl, rfl, (fun a ha => (List.not_mem_nil ha).elim), hc, rfl⟩ (by show 2 ≤ 16000000; omega) (fun i hi acc e Z U hI hZ hU => ?_) (fun acc e hI => ?_)
      · obtain ⟨ds, c', rfl, hdl, hds, hc', rfl⟩ := hI
        walk_at "ws"
        rw [List.length_map]
        refine ⟨y.length, c', _, rfl, hc', by omega, hy1, hy9, fun ps c1 hp hc1 => ?_⟩
        walk_at "ws"
        refine ⟨y.length, c1, _, by rw [List.length_map], hc1, by omega, hy1, hy9, fun qs c2 hq hc2 => ?_⟩
        walk_at "ws"
        refine hZ _ _ ⟨ds ++ [(ps, qs)], c2, by rw [List.map_append]; rfl, by rw [List.length_append, hdl]; rfl, fun a ha => ?_, hc2.up (by omega), rfl⟩
        rcases List.mem_append.1 ha with ha | ha
        · exact hds a ha
        · rw [List.mem_singleton.1 ha]; exact ⟨hp, hq⟩
      · obtain ⟨ds, c', rfl, hdl, hds, hc', rfl⟩ := hI
        walk_at "ws"
        rw [← List.map_append]
        refine ⟨by simp only [List.length_map]; omega, hX1 _ ⟨d0 ++ ds, c', ⟨by rw [List.length_append]; omega, fun a ha => ?_⟩, by rw [List.length_append]; omega, by rw [List.length_append]; omega, hc'.up (by omega), rfl⟩⟩
        rcases List.mem_append.1 ha with ha | ha
        · exact hd0.2 a ha
        · exact hds a ha
  clear hc
  rintro e ⟨d, c, hd, hd2, hd60, hc, rfl⟩
  have h200 := hd.1
  have eD : encDay d = .list (d.map encA) := rfl
  refine seq_k (fun e => ∃ (w6 : Option DV) (c : DV) (z7 : Option DV), (w6 = none ∨ ∃ q, w6 = some (.data q)) ∧ e = [some (.data (.list (ns.map .int))), some (.data (.int (kk))), some (c), some (.data (encY y)), some (.data (encS s)), some (.data (.list (d.map encA))), w6, z7]) (fun X1 hX1 => ?_) ?_
  · walk_at "ws"
    refine ⟨by decide, ?_⟩
    have e5 : intsD (Int.toNat 5) = intsD 5 := rfl
    rw [e5]
    refine forGo_rng 5 (fun i e => ∃ (w6 : Option DV) (c : DV) (z7 : Option DV), (w6 = none ∨ ∃ q, w6 = some (.data q)) ∧ Cart (5000 + i) c ∧ e = [some (.data (.list (ns.map .int))), some (.data (.int (kk))), some (c), some (.data (encY y)), some (.data (encS s)), some (.data (.list (d.map encA))), w6, z7]) ⟨_, _, _, h6, hc, rfl⟩ ?_ ?_
    case refine_2 =>
      rintro e ⟨w6, c, z7, h6, _, rfl⟩
      exact hX1 _ ⟨_, _, _, h6, rfl⟩
    rintro i hi e X2 ⟨w6, c, z7, h6, hc, rfl⟩ hX2
    walk_at "ws"
    refine seq_k (fun e => ∃ (k : Nat) (c : DV), k + 1 < d.length ∧ Cart (5000 + (i + 1)) c ∧ e = [some (.data (.list (ns.map .int))), some (.data (.int (kk))), some (c), some (.data (encY y)), some (.data (encS s)), some (.data (.list (d.map encA))), some (.data (.int ((i : Int)))), some (.data (.int ((k : Int))))]) (fun X3 hX3 => ?_) ?_
    · walk_at "ws"
      rw [List.length_map]
      refine ⟨_, c, _, rfl, hc, by omega, by omega, by omega, fun r c1 a0 a1 hc1 => ?_⟩
      obtain ⟨k, rfl⟩ := Int.eq_ofNat_of_zero_le a0
      walk_at "ws"
      exact hX3 _ ⟨k, c1, by omega, hc1.up (by omega), rfl⟩
    rintro e ⟨k, c, hk, hc, rfl⟩
    walk_at "ws"
    refine ⟨y, s, d, k, rfl, hy, hf, hd, hk, ?_⟩
    walk_at "ws"
    refine ⟨y, s, d, k, rfl, hy, hf, hd, by omega, ?_⟩
    walk_at "ws"
    exact hX2 _ ⟨_, _, _, .inr ⟨_, rfl⟩, hc, rfl⟩
  clear hc h6
  rintro e ⟨w6, c, z7, h6, rfl⟩
  have hfar := go_far hf hd.2
  have hsl := served_len (goM y s d).1
  rw [goM_len] at hsl
  walk_at "ws"
  refine ⟨y, s, d, _, rfl, .inl rfl, hy, hf, hd, ?_⟩
  walk_at "ws"
  refine ⟨y, s, (goM y s d).2, rfl, hy, hf, fine_go hf hd.2, ?_⟩
  walk_at "ws"
  refine ⟨y, s, d, _, rfl, .inl rfl, hy, hf, hd, ?_⟩
  walk_at "ws"
  rw [List.length_map]
  refine ⟨⟨b400 (by omega), b400 (by omega)⟩, ?_⟩
  refine ifT (fun z => absurd z (by omega)) fun _ => ?_
  walk_at "ws"
  exact key _ h6 _ _ _ _ _ _
set_option maxHeartbeats 8000000 in
theorem all_mk {l : PySem.W.OpenLaw} {w : World} {K : PySem.W.Frag} {h : Heap} {mg : Str → Option Value} {fa : Addr} (X : K.In h) (G : h.Ns mainGlobals mg) (hfa : mg "law" = some (.ref fa))
    {od_is_whole an_is_whole : Option Addr} {sl_is_whole : Array (Option Value)} {oc_is_whole kV_is_whole dc_is_whole pm_is_whole cd_is_whole ct_is_whole : Value} {p_is_whole : Addr}
    {od_is_count an_is_count : Option Addr} {sl_is_count : Array (Option Value)} {oc_is_count kV_is_count dc_is_count pm_is_count cd_is_count ct_is_count : Value} {p_is_count : Addr}
    {od_is_count_below an_is_count_below : Option Addr} {sl_is_count_below : Array (Option Value)} {oc_is_count_below kV_is_count_below dc_is_count_below pm_is_count_below cd_is_count_below ct_is_count_below : Value} {p_is_count_below : Addr}
    {od_is_place an_is_place : Option Addr} {sl_is_place : Array (Option Value)} {oc_is_place kV_is_place dc_is_place pm_is_place cd_is_place ct_is_place : Value} {p_is_place : Addr}
    {od_is_number_of_ask an_is_number_of_ask : Option Addr} {sl_is_number_of_ask : Array (Option Value)} {oc_is_number_of_ask kV_is_number_of_ask dc_is_number_of_ask pm_is_number_of_ask cd_is_number_of_ask ct_is_number_of_ask : Value} {p_is_number_of_ask : Addr}
    {od_is_yard an_is_yard : Option Addr} {sl_is_yard : Array (Option Value)} {oc_is_yard kV_is_yard dc_is_yard pm_is_yard cd_is_yard ct_is_yard : Value} {p_is_yard : Addr}
    {od_fits an_fits : Option Addr} {sl_fits : Array (Option Value)} {oc_fits kV_fits dc_fits pm_fits cd_fits ct_fits : Value} {p_fits : Addr}
    {od_is_standing an_is_standing : Option Addr} {sl_is_standing : Array (Option Value)} {oc_is_standing kV_is_standing dc_is_standing pm_is_standing cd_is_standing ct_is_standing : Value} {p_is_standing : Addr}
    {od_are_unlike_places an_are_unlike_places : Option Addr} {sl_are_unlike_places : Array (Option Value)} {oc_are_unlike_places kV_are_unlike_places dc_are_unlike_places pm_are_unlike_places cd_are_unlike_places ct_are_unlike_places : Value} {p_are_unlike_places : Addr}
    {od_is_ask an_is_ask : Option Addr} {sl_is_ask : Array (Option Value)} {oc_is_ask kV_is_ask dc_is_ask pm_is_ask cd_is_ask ct_is_ask : Value} {p_is_ask : Addr}
    {od_is_day an_is_day : Option Addr} {sl_is_day : Array (Option Value)} {oc_is_day kV_is_day dc_is_day pm_is_day cd_is_day ct_is_day : Value} {p_is_day : Addr}
    {od_check_yard an_check_yard : Option Addr} {sl_check_yard : Array (Option Value)} {oc_check_yard kV_check_yard dc_check_yard pm_check_yard cd_check_yard ct_check_yard : Value} {p_check_yard : Addr}
    {od_check_standing an_check_standing : Option Addr} {sl_check_standing : Array (Option Value)} {oc_check_standing kV_check_standing dc_check_standing pm_check_standing cd_check_standing ct_check_standing : Value} {p_check_standing : Addr}
    {od_check_day an_check_day : Option Addr} {sl_check_day : Array (Option Value)} {oc_check_day kV_check_day dc_check_day pm_check_day cd_check_day ct_check_day : Value} {p_check_day : Addr}
    {od_check_day_from an_check_day_from : Option Addr} {sl_check_day_from : Array (Option Value)} {oc_check_day_from kV_check_day_from dc_check_day_from pm_check_day_from cd_check_day_from ct_check_day_from : Value} {p_check_day_from : Addr}
    {od_has_room an_has_room : Option Addr} {sl_has_room : Array (Option Value)} {oc_has_room kV_has_room dc_has_room pm_has_room cd_has_room ct_has_room : Value} {p_has_room : Addr}
    {od_first_with_thing an_first_with_thing : Option Addr} {sl_first_with_thing : Array (Option Value)} {oc_first_with_thing kV_first_with_thing dc_first_with_thing pm_first_with_thing cd_first_with_thing ct_first_with_thing : Value} {p_first_with_thing : Addr}
    {od_first_with_room an_first_with_room : Option Addr} {sl_first_with_room : Array (Option Value)} {oc_first_with_room kV_first_with_room dc_first_with_room pm_first_with_room cd_first_with_room ct_first_with_room : Value} {p_first_with_room : Addr}
    {od_serve an_serve : Option Addr} {sl_serve : Array (Option Value)} {oc_serve kV_serve dc_serve pm_serve cd_serve ct_serve : Value} {p_serve : Addr}
    {od_gone an_gone : Option Addr} {sl_gone : Array (Option Value)} {oc_gone kV_gone dc_gone pm_gone cd_gone ct_gone : Value} {p_gone : Addr}
    {od_go an_go : Option Addr} {sl_go : Array (Option Value)} {oc_go kV_go dc_go pm_go cd_go ct_go : Value} {p_go : Addr}
    {od_served an_served : Option Addr} {sl_served : Array (Option Value)} {oc_served kV_served dc_served pm_served cd_served ct_served : Value} {p_served : Addr}
    {od_check_pair an_check_pair : Option Addr} {sl_check_pair : Array (Option Value)} {oc_check_pair kV_check_pair dc_check_pair pm_check_pair cd_check_pair ct_check_pair : Value} {p_check_pair : Addr}
    {od_distance an_distance : Option Addr} {sl_distance : Array (Option Value)} {oc_distance kV_distance dc_distance pm_distance cd_distance ct_distance : Value} {p_distance : Addr}
    {od_moments an_moments : Option Addr} {sl_moments : Array (Option Value)} {oc_moments kV_moments dc_moments pm_moments cd_moments ct_moments : Value} {p_moments : Addr}
    {od_distances an_distances : Option Addr} {sl_distances : Array (Option Value)} {oc_distances kV_distances dc_distances pm_distances cd_distances ct_distances : Value} {p_distances : Addr}
    {od_far_apart an_far_apart : Option Addr} {sl_far_apart : Array (Option Value)} {oc_far_apart kV_far_apart dc_far_apart pm_far_apart cd_far_apart ct_far_apart : Value} {p_far_apart : Addr}
    {od_together an_together : Option Addr} {sl_together : Array (Option Value)} {oc_together kV_together dc_together pm_together cd_together ct_together : Value} {p_together : Addr}
    {od_left_out an_left_out : Option Addr} {sl_left_out : Array (Option Value)} {oc_left_out kV_left_out dc_left_out pm_left_out cd_left_out ct_left_out : Value} {p_left_out : Addr}
    {od__law_cart an__law_cart : Option Addr} {sl__law_cart : Array (Option Value)} {oc__law_cart kV__law_cart dc__law_cart pm__law_cart cd__law_cart ct__law_cart : Value} {p__law_cart : Addr}
    {od__law_pull an__law_pull : Option Addr} {sl__law_pull : Array (Option Value)} {oc__law_pull kV__law_pull dc__law_pull pm__law_pull cd__law_pull ct__law_pull : Value} {p__law_pull : Addr}
    {od__law_rooms an__law_rooms : Option Addr} {sl__law_rooms : Array (Option Value)} {oc__law_rooms kV__law_rooms dc__law_rooms pm__law_rooms cd__law_rooms ct__law_rooms : Value} {p__law_rooms : Addr}
    {od__law_things an__law_things : Option Addr} {sl__law_things : Array (Option Value)} {oc__law_things kV__law_things dc__law_things pm__law_things cd__law_things ct__law_things : Value} {p__law_things : Addr}
    {od__law_some an__law_some : Option Addr} {sl__law_some : Array (Option Value)} {oc__law_some kV__law_some dc__law_some pm__law_some cd__law_some ct__law_some : Value} {p__law_some : Addr}
    {od__law_asks an__law_asks : Option Addr} {sl__law_asks : Array (Option Value)} {oc__law_asks kV__law_asks dc__law_asks pm__law_asks cd__law_asks ct__law_asks : Value} {p__law_asks : Addr}
    {od__law_exchanged_right an__law_exchanged_right : Option Addr} {sl__law_exchanged_right : Array (Option Value)} {oc__law_exchanged_right kV__law_exchanged_right dc__law_exchanged_right pm__law_exchanged_right cd__law_exchanged_right ct__law_exchanged_right : Value} {p__law_exchanged_right : Addr}
    {od__law_left_right an__law_left_right : Option Addr} {sl__law_left_right : Array (Option Value)} {oc__law_left_right kV__law_left_right dc__law_left_right pm__law_left_right cd__law_left_right ct__law_left_right : Value} {p__law_left_right : Addr}
    {od_law an_law : Option Addr} {sl_law : Array (Option Value)} {oc_law kV_law dc_law pm_law cd_law ct_law : Value} {p_law : Addr}
    {t_IDLE : Addr}
    {b1_IDLE b2_IDLE : Addr} {e0_IDLE e1_IDLE e2_IDLE : Option Addr} {n0_IDLE n1_IDLE n2_IDLE : Nat} {s0_IDLE s1_IDLE s2_IDLE : Array (Option Value)}
    {t_MOST_PLACES : Tok}
    (a_is_whole : PySem.W.nsIn K mainGlobals "is_whole" = some (some (.ref p_is_whole)))
    (l_is_whole : K.lookup p_is_whole = some ⟨oc_is_whole, od_is_whole, .func (PySem.W.fnOf "is_whole" "is_whole" (defArgs s_is_whole) (defBody s_is_whole) (defScope s_is_whole) .none kV_is_whole dc_is_whole pm_is_whole an_is_whole cd_is_whole ct_is_whole), sl_is_whole⟩)
    (c_is_whole : PySem.W.codeIn K cd_is_whole "is_whole" = true)
    (k_is_whole : PySem.W.keepIn K (.ref p_is_whole) = true)
    (a_is_count : PySem.W.nsIn K mainGlobals "is_count" = some (some (.ref p_is_count)))
    (l_is_count : K.lookup p_is_count = some ⟨oc_is_count, od_is_count, .func (PySem.W.fnOf "is_count" "is_count" (defArgs s_is_count) (defBody s_is_count) (defScope s_is_count) .none kV_is_count dc_is_count pm_is_count an_is_count cd_is_count ct_is_count), sl_is_count⟩)
    (c_is_count : PySem.W.codeIn K cd_is_count "is_count" = true)
    (k_is_count : PySem.W.keepIn K (.ref p_is_count) = true)
    (a_is_count_below : PySem.W.nsIn K mainGlobals "is_count_below" = some (some (.ref p_is_count_below)))
    (l_is_count_below : K.lookup p_is_count_below = some ⟨oc_is_count_below, od_is_count_below, .func (PySem.W.fnOf "is_count_below" "is_count_below" (defArgs s_is_count_below) (defBody s_is_count_below) (defScope s_is_count_below) .none kV_is_count_below dc_is_count_below pm_is_count_below an_is_count_below cd_is_count_below ct_is_count_below), sl_is_count_below⟩)
    (c_is_count_below : PySem.W.codeIn K cd_is_count_below "is_count_below" = true)
    (k_is_count_below : PySem.W.keepIn K (.ref p_is_count_below) = true)
    (a_is_place : PySem.W.nsIn K mainGlobals "is_place" = some (some (.ref p_is_place)))
    (l_is_place : K.lookup p_is_place = some ⟨oc_is_place, od_is_place, .func (PySem.W.fnOf "is_place" "is_place" (defArgs s_is_place) (defBody s_is_place) (defScope s_is_place) .none kV_is_place dc_is_place pm_is_place an_is_place cd_is_place ct_is_place), sl_is_place⟩)
    (c_is_place : PySem.W.codeIn K cd_is_place "is_place" = true)
    (k_is_place : PySem.W.keepIn K (.ref p_is_place) = true)
    (a_is_number_of_ask : PySem.W.nsIn K mainGlobals "is_number_of_ask" = some (some (.ref p_is_number_of_ask)))
    (l_is_number_of_ask : K.lookup p_is_number_of_ask = some ⟨oc_is_number_of_ask, od_is_number_of_ask, .func (PySem.W.fnOf "is_number_of_ask" "is_number_of_ask" (defArgs s_is_number_of_ask) (defBody s_is_number_of_ask) (defScope s_is_number_of_ask) .none kV_is_number_of_ask dc_is_number_of_ask pm_is_number_of_ask an_is_number_of_ask cd_is_number_of_ask ct_is_number_of_ask), sl_is_number_of_ask⟩)
    (c_is_number_of_ask : PySem.W.codeIn K cd_is_number_of_ask "is_number_of_ask" = true)
    (k_is_number_of_ask : PySem.W.keepIn K (.ref p_is_number_of_ask) = true)
    (a_is_yard : PySem.W.nsIn K mainGlobals "is_yard" = some (some (.ref p_is_yard)))
    (l_is_yard : K.lookup p_is_yard = some ⟨oc_is_yard, od_is_yard, .func (PySem.W.fnOf "is_yard" "is_yard" (defArgs s_is_yard) (defBody s_is_yard) (defScope s_is_yard) .none kV_is_yard dc_is_yard pm_is_yard an_is_yard cd_is_yard ct_is_yard), sl_is_yard⟩)
    (c_is_yard : PySem.W.codeIn K cd_is_yard "is_yard" = true)
    (k_is_yard : PySem.W.keepIn K (.ref p_is_yard) = true)
    (a_fits : PySem.W.nsIn K mainGlobals "fits" = some (some (.ref p_fits)))
    (l_fits : K.lookup p_fits = some ⟨oc_fits, od_fits, .func (PySem.W.fnOf "fits" "fits" (defArgs s_fits) (defBody s_fits) (defScope s_fits) .none kV_fits dc_fits pm_fits an_fits cd_fits ct_fits), sl_fits⟩)
    (c_fits : PySem.W.codeIn K cd_fits "fits" = true)
    (k_fits : PySem.W.keepIn K (.ref p_fits) = true)
    (a_is_standing : PySem.W.nsIn K mainGlobals "is_standing" = some (some (.ref p_is_standing)))
    (l_is_standing : K.lookup p_is_standing = some ⟨oc_is_standing, od_is_standing, .func (PySem.W.fnOf "is_standing" "is_standing" (defArgs s_is_standing) (defBody s_is_standing) (defScope s_is_standing) .none kV_is_standing dc_is_standing pm_is_standing an_is_standing cd_is_standing ct_is_standing), sl_is_standing⟩)
    (c_is_standing : PySem.W.codeIn K cd_is_standing "is_standing" = true)
    (k_is_standing : PySem.W.keepIn K (.ref p_is_standing) = true)
    (a_are_unlike_places : PySem.W.nsIn K mainGlobals "are_unlike_places" = some (some (.ref p_are_unlike_places)))
    (l_are_unlike_places : K.lookup p_are_unlike_places = some ⟨oc_are_unlike_places, od_are_unlike_places, .func (PySem.W.fnOf "are_unlike_places" "are_unlike_places" (defArgs s_are_unlike_places) (defBody s_are_unlike_places) (defScope s_are_unlike_places) .none kV_are_unlike_places dc_are_unlike_places pm_are_unlike_places an_are_unlike_places cd_are_unlike_places ct_are_unlike_places), sl_are_unlike_places⟩)
    (c_are_unlike_places : PySem.W.codeIn K cd_are_unlike_places "are_unlike_places" = true)
    (k_are_unlike_places : PySem.W.keepIn K (.ref p_are_unlike_places) = true)
    (a_is_ask : PySem.W.nsIn K mainGlobals "is_ask" = some (some (.ref p_is_ask)))
    (l_is_ask : K.lookup p_is_ask = some ⟨oc_is_ask, od_is_ask, .func (PySem.W.fnOf "is_ask" "is_ask" (defArgs s_is_ask) (defBody s_is_ask) (defScope s_is_ask) .none kV_is_ask dc_is_ask pm_is_ask an_is_ask cd_is_ask ct_is_ask), sl_is_ask⟩)
    (c_is_ask : PySem.W.codeIn K cd_is_ask "is_ask" = true)
    (k_is_ask : PySem.W.keepIn K (.ref p_is_ask) = true)
    (a_is_day : PySem.W.nsIn K mainGlobals "is_day" = some (some (.ref p_is_day)))
    (l_is_day : K.lookup p_is_day = some ⟨oc_is_day, od_is_day, .func (PySem.W.fnOf "is_day" "is_day" (defArgs s_is_day) (defBody s_is_day) (defScope s_is_day) .none kV_is_day dc_is_day pm_is_day an_is_day cd_is_day ct_is_day), sl_is_day⟩)
    (c_is_day : PySem.W.codeIn K cd_is_day "is_day" = true)
    (k_is_day : PySem.W.keepIn K (.ref p_is_day) = true)
    (a_check_yard : PySem.W.nsIn K mainGlobals "check_yard" = some (some (.ref p_check_yard)))
    (l_check_yard : K.lookup p_check_yard = some ⟨oc_check_yard, od_check_yard, .func (PySem.W.fnOf "check_yard" "check_yard" (defArgs s_check_yard) (defBody s_check_yard) (defScope s_check_yard) .none kV_check_yard dc_check_yard pm_check_yard an_check_yard cd_check_yard ct_check_yard), sl_check_yard⟩)
    (c_check_yard : PySem.W.codeIn K cd_check_yard "check_yard" = true)
    (k_check_yard : PySem.W.keepIn K (.ref p_check_yard) = true)
    (a_check_standing : PySem.W.nsIn K mainGlobals "check_standing" = some (some (.ref p_check_standing)))
    (l_check_standing : K.lookup p_check_standing = some ⟨oc_check_standing, od_check_standing, .func (PySem.W.fnOf "check_standing" "check_standing" (defArgs s_check_standing) (defBody s_check_standing) (defScope s_check_standing) .none kV_check_standing dc_check_standing pm_check_standing an_check_standing cd_check_standing ct_check_standing), sl_check_standing⟩)
    (c_check_standing : PySem.W.codeIn K cd_check_standing "check_standing" = true)
    (k_check_standing : PySem.W.keepIn K (.ref p_check_standing) = true)
    (a_check_day : PySem.W.nsIn K mainGlobals "check_day" = some (some (.ref p_check_day)))
    (l_check_day : K.lookup p_check_day = some ⟨oc_check_day, od_check_day, .func (PySem.W.fnOf "check_day" "check_day" (defArgs s_check_day) (defBody s_check_day) (defScope s_check_day) .none kV_check_day dc_check_day pm_check_day an_check_day cd_check_day ct_check_day), sl_check_day⟩)
    (c_check_day : PySem.W.codeIn K cd_check_day "check_day" = true)
    (k_check_day : PySem.W.keepIn K (.ref p_check_day) = true)
    (a_check_day_from : PySem.W.nsIn K mainGlobals "check_day_from" = some (some (.ref p_check_day_from)))
    (l_check_day_from : K.lookup p_check_day_from = some ⟨oc_check_day_from, od_check_day_from, .func (PySem.W.fnOf "check_day_from" "check_day_from" (defArgs s_check_day_from) (defBody s_check_day_from) (defScope s_check_day_from) .none kV_check_day_from dc_check_day_from pm_check_day_from an_check_day_from cd_check_day_from ct_check_day_from), sl_check_day_from⟩)
    (c_check_day_from : PySem.W.codeIn K cd_check_day_from "check_day_from" = true)
    (k_check_day_from : PySem.W.keepIn K (.ref p_check_day_from) = true)
    (a_has_room : PySem.W.nsIn K mainGlobals "has_room" = some (some (.ref p_has_room)))
    (l_has_room : K.lookup p_has_room = some ⟨oc_has_room, od_has_room, .func (PySem.W.fnOf "has_room" "has_room" (defArgs s_has_room) (defBody s_has_room) (defScope s_has_room) .none kV_has_room dc_has_room pm_has_room an_has_room cd_has_room ct_has_room), sl_has_room⟩)
    (c_has_room : PySem.W.codeIn K cd_has_room "has_room" = true)
    (k_has_room : PySem.W.keepIn K (.ref p_has_room) = true)
    (a_first_with_thing : PySem.W.nsIn K mainGlobals "first_with_thing" = some (some (.ref p_first_with_thing)))
    (l_first_with_thing : K.lookup p_first_with_thing = some ⟨oc_first_with_thing, od_first_with_thing, .func (PySem.W.fnOf "first_with_thing" "first_with_thing" (defArgs s_first_with_thing) (defBody s_first_with_thing) (defScope s_first_with_thing) .none kV_first_with_thing dc_first_with_thing pm_first_with_thing an_first_with_thing cd_first_with_thing ct_first_with_thing), sl_first_with_thing⟩)
    (c_first_with_thing : PySem.W.codeIn K cd_first_with_thing "first_with_thing" = true)
    (k_first_with_thing : PySem.W.keepIn K (.ref p_first_with_thing) = true)
    (a_first_with_room : PySem.W.nsIn K mainGlobals "first_with_room" = some (some (.ref p_first_with_room)))
    (l_first_with_room : K.lookup p_first_with_room = some ⟨oc_first_with_room, od_first_with_room, .func (PySem.W.fnOf "first_with_room" "first_with_room" (defArgs s_first_with_room) (defBody s_first_with_room) (defScope s_first_with_room) .none kV_first_with_room dc_first_with_room pm_first_with_room an_first_with_room cd_first_with_room ct_first_with_room), sl_first_with_room⟩)
    (c_first_with_room : PySem.W.codeIn K cd_first_with_room "first_with_room" = true)
    (k_first_with_room : PySem.W.keepIn K (.ref p_first_with_room) = true)
    (a_serve : PySem.W.nsIn K mainGlobals "serve" = some (some (.ref p_serve)))
    (l_serve : K.lookup p_serve = some ⟨oc_serve, od_serve, .func (PySem.W.fnOf "serve" "serve" (defArgs s_serve) (defBody s_serve) (defScope s_serve) .none kV_serve dc_serve pm_serve an_serve cd_serve ct_serve), sl_serve⟩)
    (c_serve : PySem.W.codeIn K cd_serve "serve" = true)
    (k_serve : PySem.W.keepIn K (.ref p_serve) = true)
    (a_gone : PySem.W.nsIn K mainGlobals "gone" = some (some (.ref p_gone)))
    (l_gone : K.lookup p_gone = some ⟨oc_gone, od_gone, .func (PySem.W.fnOf "gone" "gone" (defArgs s_gone) (defBody s_gone) (defScope s_gone) .none kV_gone dc_gone pm_gone an_gone cd_gone ct_gone), sl_gone⟩)
    (c_gone : PySem.W.codeIn K cd_gone "gone" = true)
    (k_gone : PySem.W.keepIn K (.ref p_gone) = true)
    (a_go : PySem.W.nsIn K mainGlobals "go" = some (some (.ref p_go)))
    (l_go : K.lookup p_go = some ⟨oc_go, od_go, .func (PySem.W.fnOf "go" "go" (defArgs s_go) (defBody s_go) (defScope s_go) .none kV_go dc_go pm_go an_go cd_go ct_go), sl_go⟩)
    (c_go : PySem.W.codeIn K cd_go "go" = true)
    (k_go : PySem.W.keepIn K (.ref p_go) = true)
    (a_served : PySem.W.nsIn K mainGlobals "served" = some (some (.ref p_served)))
    (l_served : K.lookup p_served = some ⟨oc_served, od_served, .func (PySem.W.fnOf "served" "served" (defArgs s_served) (defBody s_served) (defScope s_served) .none kV_served dc_served pm_served an_served cd_served ct_served), sl_served⟩)
    (c_served : PySem.W.codeIn K cd_served "served" = true)
    (k_served : PySem.W.keepIn K (.ref p_served) = true)
    (a_check_pair : PySem.W.nsIn K mainGlobals "check_pair" = some (some (.ref p_check_pair)))
    (l_check_pair : K.lookup p_check_pair = some ⟨oc_check_pair, od_check_pair, .func (PySem.W.fnOf "check_pair" "check_pair" (defArgs s_check_pair) (defBody s_check_pair) (defScope s_check_pair) .none kV_check_pair dc_check_pair pm_check_pair an_check_pair cd_check_pair ct_check_pair), sl_check_pair⟩)
    (c_check_pair : PySem.W.codeIn K cd_check_pair "check_pair" = true)
    (k_check_pair : PySem.W.keepIn K (.ref p_check_pair) = true)
    (a_distance : PySem.W.nsIn K mainGlobals "distance" = some (some (.ref p_distance)))
    (l_distance : K.lookup p_distance = some ⟨oc_distance, od_distance, .func (PySem.W.fnOf "distance" "distance" (defArgs s_distance) (defBody s_distance) (defScope s_distance) .none kV_distance dc_distance pm_distance an_distance cd_distance ct_distance), sl_distance⟩)
    (c_distance : PySem.W.codeIn K cd_distance "distance" = true)
    (k_distance : PySem.W.keepIn K (.ref p_distance) = true)
    (a_moments : PySem.W.nsIn K mainGlobals "moments" = some (some (.ref p_moments)))
    (l_moments : K.lookup p_moments = some ⟨oc_moments, od_moments, .func (PySem.W.fnOf "moments" "moments" (defArgs s_moments) (defBody s_moments) (defScope s_moments) .none kV_moments dc_moments pm_moments an_moments cd_moments ct_moments), sl_moments⟩)
    (c_moments : PySem.W.codeIn K cd_moments "moments" = true)
    (k_moments : PySem.W.keepIn K (.ref p_moments) = true)
    (a_distances : PySem.W.nsIn K mainGlobals "distances" = some (some (.ref p_distances)))
    (l_distances : K.lookup p_distances = some ⟨oc_distances, od_distances, .func (PySem.W.fnOf "distances" "distances" (defArgs s_distances) (defBody s_distances) (defScope s_distances) .none kV_distances dc_distances pm_distances an_distances cd_distances ct_distances), sl_distances⟩)
    (c_distances : PySem.W.codeIn K cd_distances "distances" = true)
    (k_distances : PySem.W.keepIn K (.ref p_distances) = true)
    (a_far_apart : PySem.W.nsIn K mainGlobals "far_apart" = some (some (.ref p_far_apart)))
    (l_far_apart : K.lookup p_far_apart = some ⟨oc_far_apart, od_far_apart, .func (PySem.W.fnOf "far_apart" "far_apart" (defArgs s_far_apart) (defBody s_far_apart) (defScope s_far_apart) .none kV_far_apart dc_far_apart pm_far_apart an_far_apart cd_far_apart ct_far_apart), sl_far_apart⟩)
    (c_far_apart : PySem.W.codeIn K cd_far_apart "far_apart" = true)
    (k_far_apart : PySem.W.keepIn K (.ref p_far_apart) = true)
    (a_together : PySem.W.nsIn K mainGlobals "together" = some (some (.ref p_together)))
    (l_together : K.lookup p_together = some ⟨oc_together, od_together, .func (PySem.W.fnOf "together" "together" (defArgs s_together) (defBody s_together) (defScope s_together) .none kV_together dc_together pm_together an_together cd_together ct_together), sl_together⟩)
    (c_together : PySem.W.codeIn K cd_together "together" = true)
    (k_together : PySem.W.keepIn K (.ref p_together) = true)
    (a_left_out : PySem.W.nsIn K mainGlobals "left_out" = some (some (.ref p_left_out)))
    (l_left_out : K.lookup p_left_out = some ⟨oc_left_out, od_left_out, .func (PySem.W.fnOf "left_out" "left_out" (defArgs s_left_out) (defBody s_left_out) (defScope s_left_out) .none kV_left_out dc_left_out pm_left_out an_left_out cd_left_out ct_left_out), sl_left_out⟩)
    (c_left_out : PySem.W.codeIn K cd_left_out "left_out" = true)
    (k_left_out : PySem.W.keepIn K (.ref p_left_out) = true)
    (a__law_cart : PySem.W.nsIn K mainGlobals "_law_cart" = some (some (.ref p__law_cart)))
    (l__law_cart : K.lookup p__law_cart = some ⟨oc__law_cart, od__law_cart, .func (PySem.W.fnOf "_law_cart" "_law_cart" (defArgs s__law_cart) (defBody s__law_cart) (defScope s__law_cart) .none kV__law_cart dc__law_cart pm__law_cart an__law_cart cd__law_cart ct__law_cart), sl__law_cart⟩)
    (c__law_cart : PySem.W.codeIn K cd__law_cart "_law_cart" = true)
    (k__law_cart : PySem.W.keepIn K (.ref p__law_cart) = true)
    (a__law_pull : PySem.W.nsIn K mainGlobals "_law_pull" = some (some (.ref p__law_pull)))
    (l__law_pull : K.lookup p__law_pull = some ⟨oc__law_pull, od__law_pull, .func (PySem.W.fnOf "_law_pull" "_law_pull" (defArgs s__law_pull) (defBody s__law_pull) (defScope s__law_pull) .none kV__law_pull dc__law_pull pm__law_pull an__law_pull cd__law_pull ct__law_pull), sl__law_pull⟩)
    (c__law_pull : PySem.W.codeIn K cd__law_pull "_law_pull" = true)
    (k__law_pull : PySem.W.keepIn K (.ref p__law_pull) = true)
    (a__law_rooms : PySem.W.nsIn K mainGlobals "_law_rooms" = some (some (.ref p__law_rooms)))
    (l__law_rooms : K.lookup p__law_rooms = some ⟨oc__law_rooms, od__law_rooms, .func (PySem.W.fnOf "_law_rooms" "_law_rooms" (defArgs s__law_rooms) (defBody s__law_rooms) (defScope s__law_rooms) .none kV__law_rooms dc__law_rooms pm__law_rooms an__law_rooms cd__law_rooms ct__law_rooms), sl__law_rooms⟩)
    (c__law_rooms : PySem.W.codeIn K cd__law_rooms "_law_rooms" = true)
    (k__law_rooms : PySem.W.keepIn K (.ref p__law_rooms) = true)
    (a__law_things : PySem.W.nsIn K mainGlobals "_law_things" = some (some (.ref p__law_things)))
    (l__law_things : K.lookup p__law_things = some ⟨oc__law_things, od__law_things, .func (PySem.W.fnOf "_law_things" "_law_things" (defArgs s__law_things) (defBody s__law_things) (defScope s__law_things) .none kV__law_things dc__law_things pm__law_things an__law_things cd__law_things ct__law_things), sl__law_things⟩)
    (c__law_things : PySem.W.codeIn K cd__law_things "_law_things" = true)
    (k__law_things : PySem.W.keepIn K (.ref p__law_things) = true)
    (a__law_some : PySem.W.nsIn K mainGlobals "_law_some" = some (some (.ref p__law_some)))
    (l__law_some : K.lookup p__law_some = some ⟨oc__law_some, od__law_some, .func (PySem.W.fnOf "_law_some" "_law_some" (defArgs s__law_some) (defBody s__law_some) (defScope s__law_some) .none kV__law_some dc__law_some pm__law_some an__law_some cd__law_some ct__law_some), sl__law_some⟩)
    (c__law_some : PySem.W.codeIn K cd__law_some "_law_some" = true)
    (k__law_some : PySem.W.keepIn K (.ref p__law_some) = true)
    (a__law_asks : PySem.W.nsIn K mainGlobals "_law_asks" = some (some (.ref p__law_asks)))
    (l__law_asks : K.lookup p__law_asks = some ⟨oc__law_asks, od__law_asks, .func (PySem.W.fnOf "_law_asks" "_law_asks" (defArgs s__law_asks) (defBody s__law_asks) (defScope s__law_asks) .none kV__law_asks dc__law_asks pm__law_asks an__law_asks cd__law_asks ct__law_asks), sl__law_asks⟩)
    (c__law_asks : PySem.W.codeIn K cd__law_asks "_law_asks" = true)
    (k__law_asks : PySem.W.keepIn K (.ref p__law_asks) = true)
    (a__law_exchanged_right : PySem.W.nsIn K mainGlobals "_law_exchanged_right" = some (some (.ref p__law_exchanged_right)))
    (l__law_exchanged_right : K.lookup p__law_exchanged_right = some ⟨oc__law_exchanged_right, od__law_exchanged_right, .func (PySem.W.fnOf "_law_exchanged_right" "_law_exchanged_right" (defArgs s__law_exchanged_right) (defBody s__law_exchanged_right) (defScope s__law_exchanged_right) .none kV__law_exchanged_right dc__law_exchanged_right pm__law_exchanged_right an__law_exchanged_right cd__law_exchanged_right ct__law_exchanged_right), sl__law_exchanged_right⟩)
    (c__law_exchanged_right : PySem.W.codeIn K cd__law_exchanged_right "_law_exchanged_right" = true)
    (k__law_exchanged_right : PySem.W.keepIn K (.ref p__law_exchanged_right) = true)
    (a__law_left_right : PySem.W.nsIn K mainGlobals "_law_left_right" = some (some (.ref p__law_left_right)))
    (l__law_left_right : K.lookup p__law_left_right = some ⟨oc__law_left_right, od__law_left_right, .func (PySem.W.fnOf "_law_left_right" "_law_left_right" (defArgs s__law_left_right) (defBody s__law_left_right) (defScope s__law_left_right) .none kV__law_left_right dc__law_left_right pm__law_left_right an__law_left_right cd__law_left_right ct__law_left_right), sl__law_left_right⟩)
    (c__law_left_right : PySem.W.codeIn K cd__law_left_right "_law_left_right" = true)
    (k__law_left_right : PySem.W.keepIn K (.ref p__law_left_right) = true)
    (a_law : PySem.W.nsIn K mainGlobals "law" = some (some (.ref p_law)))
    (l_law : K.lookup p_law = some ⟨oc_law, od_law, .func (PySem.W.fnOf "law" "law" (defArgs s_law) (defBody s_law) (defScope s_law) .none kV_law dc_law pm_law an_law cd_law ct_law), sl_law⟩)
    (c_law : PySem.W.codeIn K cd_law "law" = true)
    (k_law : PySem.W.keepIn K (.ref p_law) = true)
    (g_IDLE : PySem.W.nsIn K mainGlobals "IDLE" = some (some (.ref t_IDLE)))
    (t0_IDLE : K.lookup t_IDLE = some ⟨.type "tuple", e0_IDLE, .seq #[.ref b1_IDLE, .ref b2_IDLE] n0_IDLE, s0_IDLE⟩)
    (t1_IDLE : K.lookup b1_IDLE = some ⟨.type "tuple", e1_IDLE, .seq #[] n1_IDLE, s1_IDLE⟩)
    (t2_IDLE : K.lookup b2_IDLE = some ⟨.type "tuple", e2_IDLE, .seq #[] n2_IDLE, s2_IDLE⟩)
    (g_MOST_PLACES : PySem.W.nsIn K mainGlobals "MOST_PLACES" = some (some (.int 9 t_MOST_PLACES)))
    (z_abs : PySem.W.nsIn K mainGlobals "abs" = some none)
    (z_all : PySem.W.nsIn K mainGlobals "all" = some none)
    (z_bool : PySem.W.nsIn K mainGlobals "bool" = some none)
    (z_enumerate : PySem.W.nsIn K mainGlobals "enumerate" = some none)
    (z_int : PySem.W.nsIn K mainGlobals "int" = some none)
    (z_isinstance : PySem.W.nsIn K mainGlobals "isinstance" = some none)
    (z_len : PySem.W.nsIn K mainGlobals "len" = some none)
    (z_list : PySem.W.nsIn K mainGlobals "list" = some none)
    (z_max : PySem.W.nsIn K mainGlobals "max" = some none)
    (z_min : PySem.W.nsIn K mainGlobals "min" = some none)
    (z_range : PySem.W.nsIn K mainGlobals "range" = some none)
    (z_set : PySem.W.nsIn K mainGlobals "set" = some none)
    (z_sorted : PySem.W.nsIn K mainGlobals "sorted" = some none)
    (z_sum : PySem.W.nsIn K mainGlobals "sum" = some none)
    (z_tuple : PySem.W.nsIn K mainGlobals "tuple" = some none)
    (z_zip : PySem.W.nsIn K mainGlobals "zip" = some none) :
    ∃ fd : FuncData, (∀ (s : Shared) (v : Value), BindsTo s fd ⟨[v], []⟩ [("script", v)]) ∧ ∀ base : Heap, K.In base → base.Ns mainGlobals mg → FnG l.prog w K mg base 12 fa fd ["script"] (spOf K [false] fs_law) := by
  have e := hfa.symm.trans (PySem.W.mg_of X G a_law)
  cases e
  refine ⟨PySem.W.fnOf "law" "law" (defArgs s_law) (defBody s_law) (defScope s_law) .none kV_law dc_law pm_law an_law cd_law ct_law, fun s v => .of_eq rfl, fun base _ _ => ?_⟩
  have Z : Blt mg := ⟨PySem.W.mg_none_of X G z_abs, PySem.W.mg_none_of X G z_all, PySem.W.mg_none_of X G z_bool, PySem.W.mg_none_of X G z_enumerate, PySem.W.mg_none_of X G z_int, PySem.W.mg_none_of X G z_isinstance, PySem.W.mg_none_of X G z_len, PySem.W.mg_none_of X G z_list, PySem.W.mg_none_of X G z_max, PySem.W.mg_none_of X G z_min, PySem.W.mg_none_of X G z_range, PySem.W.mg_none_of X G z_set, PySem.W.mg_none_of X G z_sorted, PySem.W.mg_none_of X G z_sum, PySem.W.mg_none_of X G z_tuple, PySem.W.mg_none_of X G z_zip⟩
  have F_is_whole := fun_mk (st := s_is_whole) l_is_whole c_is_whole k_is_whole
  have B_is_whole := F_is_whole.binds (ps := ["thing"]) fun _ _ _ _ _ _ us hl => match us, hl with | [_], _ => rfl
  have C_is_whole : Cal l.prog w K mg base 1 "is_whole" p_is_whole _ ["thing"] [false] fs_is_whole := ⟨def_ok F_is_whole sc_is_whole rfl (den_is_whole Z) sp_is_whole, PySem.W.mg_of X G a_is_whole, k_is_whole, B_is_whole⟩
  have F_has_room := fun_mk (st := s_has_room) l_has_room c_has_room k_has_room
  have B_has_room := F_has_room.binds (ps := ["yard", "lying", "place"]) fun _ _ _ _ _ _ us hl => match us, hl with | [_, _, _], _ => rfl
  have C_has_room : Cal l.prog w K mg base 1 "has_room" p_has_room _ ["yard", "lying", "place"] [false, true, false] fs_has_room := ⟨def_ok F_has_room sc_has_room rfl (den_has_room Z) sp_has_room, PySem.W.mg_of X G a_has_room, k_has_room, B_has_room⟩
  have F_first_with_thing := fun_mk (st := s_first_with_thing) l_first_with_thing c_first_with_thing k_first_with_thing
  have B_first_with_thing := F_first_with_thing.binds (ps := ["lying", "wants"]) fun _ _ _ _ _ _ us hl => match us, hl with | [_, _], _ => rfl
  have C_first_with_thing : Cal l.prog w K mg base 1 "first_with_thing" p_first_with_thing _ ["lying", "wants"] [true, false] fs_first_with_thing := ⟨def_ok F_first_with_thing sc_first_with_thing rfl (den_first_with_thing Z) sp_first_with_thing, PySem.W.mg_of X G a_first_with_thing, k_first_with_thing, B_first_with_thing⟩
  have F_distance := fun_mk (st := s_distance) l_distance c_distance k_distance
  have B_distance := F_distance.binds (ps := ["one", "other"]) fun _ _ _ _ _ _ us hl => match us, hl with | [_, _], _ => rfl
  have C_distance : Cal l.prog w K mg base 1 "distance" p_distance _ ["one", "other"] [false, false] fs_distance := ⟨def_ok F_distance sc_distance rfl (den_distance Z) sp_distance, PySem.W.mg_of X G a_distance, k_distance, B_distance⟩
  have F__law_cart := fun_mk (st := s__law_cart) l__law_cart c__law_cart k__law_cart
  have B__law_cart := F__law_cart.binds (ps := ["script", "k"]) fun _ _ _ _ _ _ us hl => match us, hl with | [_, _], _ => rfl
  have C__law_cart : Cal l.prog w K mg base 1 "_law_cart" p__law_cart _ ["script", "k"] [false, false] fs__law_cart := ⟨def_ok F__law_cart sc__law_cart rfl (den__law_cart Z) sp__law_cart, PySem.W.mg_of X G a__law_cart, k__law_cart, B__law_cart⟩
  have F__law_pull := fun_mk (st := s__law_pull) l__law_pull c__law_pull k__law_pull
  have B__law_pull := F__law_pull.binds (ps := ["cart", "wide"]) fun _ _ _ _ _ _ us hl => match us, hl with | [_, _], _ => rfl
  have C__law_pull : Cal l.prog w K mg base 1 "_law_pull" p__law_pull _ ["cart", "wide"] [true, false] fs__law_pull := ⟨def_ok F__law_pull sc__law_pull rfl (den__law_pull Z) sp__law_pull, PySem.W.mg_of X G a__law_pull, k__law_pull, B__law_pull⟩
  have F_is_count := fun_mk (st := s_is_count) l_is_count c_is_count k_is_count
  have B_is_count := F_is_count.binds (ps := ["thing"]) fun _ _ _ _ _ _ us hl => match us, hl with | [_], _ => rfl
  have C_is_count : Cal l.prog w K mg base 2 "is_count" p_is_count _ ["thing"] [false] fs_is_count := ⟨def_ok F_is_count sc_is_count rfl (den_is_count Z C_is_whole) sp_is_count, PySem.W.mg_of X G a_is_count, k_is_count, B_is_count⟩
  have F_first_with_room := fun_mk (st := s_first_with_room) l_first_with_room c_first_with_room k_first_with_room
  have B_first_with_room := F_first_with_room.binds (ps := ["yard", "lying", "leaves"]) fun _ _ _ _ _ _ us hl => match us, hl with | [_, _, _], _ => rfl
  have C_first_with_room : Cal l.prog w K mg base 2 "first_with_room" p_first_with_room _ ["yard", "lying", "leaves"] [false, true, false] fs_first_with_room := ⟨def_ok F_first_with_room sc_first_with_room rfl (den_first_with_room Z C_has_room) sp_first_with_room, PySem.W.mg_of X G a_first_with_room, k_first_with_room, B_first_with_room⟩
  have F_distances := fun_mk (st := s_distances) l_distances c_distances k_distances
  have B_distances := F_distances.binds (ps := ["first", "second"]) fun _ _ _ _ _ _ us hl => match us, hl with | [_, _], _ => rfl
  have C_distances : Cal l.prog w K mg base 2 "distances" p_distances _ ["first", "second"] [false, false] fs_distances := ⟨def_ok F_distances sc_distances rfl (den_distances Z C_distance) sp_distances, PySem.W.mg_of X G a_distances, k_distances, B_distances⟩
  have F__law_rooms := fun_mk (st := s__law_rooms) l__law_rooms c__law_rooms k__law_rooms
  have B__law_rooms := F__law_rooms.binds (ps := ["cart", "most"]) fun _ _ _ _ _ _ us hl => match us, hl with | [_, _], _ => rfl
  have C__law_rooms : Cal l.prog w K mg base 2 "_law_rooms" p__law_rooms _ ["cart", "most"] [true, false] fs__law_rooms := ⟨def_ok F__law_rooms sc__law_rooms rfl (den__law_rooms Z C__law_pull) sp__law_rooms, PySem.W.mg_of X G a__law_rooms, k__law_rooms, B__law_rooms⟩
  have F__law_things := fun_mk (st := s__law_things) l__law_things c__law_things k__law_things
  have B__law_things := F__law_things.binds (ps := ["cart", "rooms"]) fun _ _ _ _ _ _ us hl => match us, hl with | [_, _], _ => rfl
  have C__law_things : Cal l.prog w K mg base 2 "_law_things" p__law_things _ ["cart", "rooms"] [true, false] fs__law_things := ⟨def_ok F__law_things sc__law_things rfl (den__law_things Z C__law_pull) sp__law_things, PySem.W.mg_of X G a__law_things, k__law_things, B__law_things⟩
  have F__law_some := fun_mk (st := s__law_some) l__law_some c__law_some k__law_some
  have B__law_some := F__law_some.binds (ps := ["cart", "size"]) fun _ _ _ _ _ _ us hl => match us, hl with | [_, _], _ => rfl
  have C__law_some : Cal l.prog w K mg base 2 "_law_some" p__law_some _ ["cart", "size"] [true, false] fs__law_some := ⟨def_ok F__law_some sc__law_some rfl (den__law_some Z C__law_pull) sp__law_some, PySem.W.mg_of X G a__law_some, k__law_some, B__law_some⟩
  have F_is_count_below := fun_mk (st := s_is_count_below) l_is_count_below c_is_count_below k_is_count_below
  have B_is_count_below := F_is_count_below.binds (ps := ["many", "thing"]) fun _ _ _ _ _ _ us hl => match us, hl with | [_, _], _ => rfl
  have C_is_count_below : Cal l.prog w K mg base 3 "is_count_below" p_is_count_below _ ["many", "thing"] [false, false] fs_is_count_below := ⟨def_ok F_is_count_below sc_is_count_below rfl (den_is_count_below Z C_is_count) sp_is_count_below, PySem.W.mg_of X G a_is_count_below, k_is_count_below, B_is_count_below⟩
  have F_is_yard := fun_mk (st := s_is_yard) l_is_yard c_is_yard k_is_yard
  have B_is_yard := F_is_yard.binds (ps := ["thing"]) fun _ _ _ _ _ _ us hl => match us, hl with | [_], _ => rfl
  have C_is_yard : Cal l.prog w K mg base 3 "is_yard" p_is_yard _ ["thing"] [false] fs_is_yard := ⟨def_ok F_is_yard sc_is_yard rfl (den_is_yard Z C_is_count (PySem.W.mg_of X G g_MOST_PLACES)) sp_is_yard, PySem.W.mg_of X G a_is_yard, k_is_yard, B_is_yard⟩
  have F_fits := fun_mk (st := s_fits) l_fits c_fits k_fits
  have B_fits := F_fits.binds (ps := ["room", "many"]) fun _ _ _ _ _ _ us hl => match us, hl with | [_, _], _ => rfl
  have C_fits : Cal l.prog w K mg base 3 "fits" p_fits _ ["room", "many"] [false, false] fs_fits := ⟨def_ok F_fits sc_fits rfl (den_fits Z C_is_count) sp_fits, PySem.W.mg_of X G a_fits, k_fits, B_fits⟩
  have F_serve := fun_mk (st := s_serve) l_serve c_serve k_serve
  have B_serve := F_serve.binds (ps := ["yard", "lying", "ask"]) fun _ _ _ _ _ _ us hl => match us, hl with | [_, _, _], _ => rfl
  have C_serve : Cal l.prog w K mg base 3 "serve" p_serve _ ["yard", "lying", "ask"] [false, true, false] fs_serve := ⟨def_ok F_serve sc_serve rfl (den_serve Z C_first_with_thing C_first_with_room) sp_serve, PySem.W.mg_of X G a_serve, k_serve, B_serve⟩
  have F__law_asks := fun_mk (st := s__law_asks) l__law_asks c__law_asks k__law_asks
  have B__law_asks := F__law_asks.binds (ps := ["cart", "size", "most"]) fun _ _ _ _ _ _ us hl => match us, hl with | [_, _, _], _ => rfl
  have C__law_asks : Cal l.prog w K mg base 3 "_law_asks" p__law_asks _ ["cart", "size", "most"] [true, false, false] fs__law_asks := ⟨def_ok F__law_asks sc__law_asks rfl (den__law_asks Z C__law_some C__law_pull) sp__law_asks, PySem.W.mg_of X G a__law_asks, k__law_asks, B__law_asks⟩
  have F_is_place := fun_mk (st := s_is_place) l_is_place c_is_place k_is_place
  have B_is_place := F_is_place.binds (ps := ["yard", "thing"]) fun _ _ _ _ _ _ us hl => match us, hl with | [_, _], _ => rfl
  have C_is_place : Cal l.prog w K mg base 4 "is_place" p_is_place _ ["yard", "thing"] [false, false] fs_is_place := ⟨def_ok F_is_place sc_is_place rfl (den_is_place Z C_is_count_below) sp_is_place, PySem.W.mg_of X G a_is_place, k_is_place, B_is_place⟩
  have F_is_number_of_ask := fun_mk (st := s_is_number_of_ask) l_is_number_of_ask c_is_number_of_ask k_is_number_of_ask
  have B_is_number_of_ask := F_is_number_of_ask.binds (ps := ["day", "thing"]) fun _ _ _ _ _ _ us hl => match us, hl with | [_, _], _ => rfl
  have C_is_number_of_ask : Cal l.prog w K mg base 4 "is_number_of_ask" p_is_number_of_ask _ ["day", "thing"] [false, false] fs_is_number_of_ask := ⟨def_ok F_is_number_of_ask sc_is_number_of_ask rfl (den_is_number_of_ask Z C_is_count_below) sp_is_number_of_ask, PySem.W.mg_of X G a_is_number_of_ask, k_is_number_of_ask, B_is_number_of_ask⟩
  have F_check_yard := fun_mk (st := s_check_yard) l_check_yard c_check_yard k_check_yard
  have B_check_yard := F_check_yard.binds (ps := ["yard"]) fun _ _ _ _ _ _ us hl => match us, hl with | [_], _ => rfl
  have C_check_yard : Cal l.prog w K mg base 4 "check_yard" p_check_yard _ ["yard"] [false] fs_check_yard := ⟨def_ok F_check_yard sc_check_yard rfl (den_check_yard Z C_is_yard) sp_check_yard, PySem.W.mg_of X G a_check_yard, k_check_yard, B_check_yard⟩
  have F_gone := fun_mk (st := s_gone) l_gone c_gone k_gone
  have B_gone := F_gone.binds (ps := ["yard", "standing", "day"]) fun _ _ _ _ _ _ us hl => match us, hl with | [_, _, _], _ => rfl
  have C_gone : Cal l.prog w K mg base 4 "gone" p_gone _ ["yard", "standing", "day"] [false, false, false] fs_gone := ⟨def_ok F_gone sc_gone rfl (den_gone Z C_serve) sp_gone, PySem.W.mg_of X G a_gone, k_gone, B_gone⟩
  have F_moments := fun_mk (st := s_moments) l_moments c_moments k_moments
  have B_moments := F_moments.binds (ps := ["yard", "standing", "day"]) fun _ _ _ _ _ _ us hl => match us, hl with | [_, _, _], _ => rfl
  have C_moments : Cal l.prog w K mg base 4 "moments" p_moments _ ["yard", "standing", "day"] [false, false, false] fs_moments := ⟨def_ok F_moments sc_moments rfl (den_moments Z C_serve) sp_moments, PySem.W.mg_of X G a_moments, k_moments, B_moments⟩
  have F_is_standing := fun_mk (st := s_is_standing) l_is_standing c_is_standing k_is_standing
  have B_is_standing := F_is_standing.binds (ps := ["yard", "thing"]) fun _ _ _ _ _ _ us hl => match us, hl with | [_, _], _ => rfl
  have C_is_standing : Cal l.prog w K mg base 5 "is_standing" p_is_standing _ ["yard", "thing"] [false, false] fs_is_standing := ⟨def_ok F_is_standing sc_is_standing rfl (den_is_standing Z C_check_yard C_fits) sp_is_standing, PySem.W.mg_of X G a_is_standing, k_is_standing, B_is_standing⟩
  have F_are_unlike_places := fun_mk (st := s_are_unlike_places) l_are_unlike_places c_are_unlike_places k_are_unlike_places
  have B_are_unlike_places := F_are_unlike_places.binds (ps := ["yard", "thing"]) fun _ _ _ _ _ _ us hl => match us, hl with | [_, _], _ => rfl
  have C_are_unlike_places : Cal l.prog w K mg base 5 "are_unlike_places" p_are_unlike_places _ ["yard", "thing"] [false, false] fs_are_unlike_places := ⟨def_ok F_are_unlike_places sc_are_unlike_places rfl (den_are_unlike_places Z C_is_place) sp_are_unlike_places, PySem.W.mg_of X G a_are_unlike_places, k_are_unlike_places, B_are_unlike_places⟩
  have F_is_ask := fun_mk (st := s_is_ask) l_is_ask c_is_ask k_is_ask
  have B_is_ask := F_is_ask.binds (ps := ["yard", "thing"]) fun _ _ _ _ _ _ us hl => match us, hl with | [_, _], _ => rfl
  have C_is_ask : Cal l.prog w K mg base 6 "is_ask" p_is_ask _ ["yard", "thing"] [false, false] fs_is_ask := ⟨def_ok F_is_ask sc_is_ask rfl (den_is_ask Z C_are_unlike_places) sp_is_ask, PySem.W.mg_of X G a_is_ask, k_is_ask, B_is_ask⟩
  have F_check_standing := fun_mk (st := s_check_standing) l_check_standing c_check_standing k_check_standing
  have B_check_standing := F_check_standing.binds (ps := ["yard", "standing"]) fun _ _ _ _ _ _ us hl => match us, hl with | [_, _], _ => rfl
  have C_check_standing : Cal l.prog w K mg base 6 "check_standing" p_check_standing _ ["yard", "standing"] [false, false] fs_check_standing := ⟨def_ok F_check_standing sc_check_standing rfl (den_check_standing Z C_is_standing) sp_check_standing, PySem.W.mg_of X G a_check_standing, k_check_standing, B_check_standing⟩
  have F_is_day := fun_mk (st := s_is_day) l_is_day c_is_day k_is_day
  have B_is_day := F_is_day.binds (ps := ["yard", "thing"]) fun _ _ _ _ _ _ us hl => match us, hl with | [_, _], _ => rfl
  have C_is_day : Cal l.prog w K mg base 7 "is_day" p_is_day _ ["yard", "thing"] [false, false] fs_is_day := ⟨def_ok F_is_day sc_is_day rfl (den_is_day Z C_check_yard C_is_ask) sp_is_day, PySem.W.mg_of X G a_is_day, k_is_day, B_is_day⟩
  have F_check_pair := fun_mk (st := s_check_pair) l_check_pair c_check_pair k_check_pair
  have B_check_pair := F_check_pair.binds (ps := ["yard", "one", "other"]) fun _ _ _ _ _ _ us hl => match us, hl with | [_, _, _], _ => rfl
  have C_check_pair : Cal l.prog w K mg base 7 "check_pair" p_check_pair _ ["yard", "one", "other"] [false, false, false] fs_check_pair := ⟨def_ok F_check_pair sc_check_pair rfl (den_check_pair Z C_check_yard C_check_standing) sp_check_pair, PySem.W.mg_of X G a_check_pair, k_check_pair, B_check_pair⟩
  have F_check_day := fun_mk (st := s_check_day) l_check_day c_check_day k_check_day
  have B_check_day := F_check_day.binds (ps := ["yard", "day"]) fun _ _ _ _ _ _ us hl => match us, hl with | [_, _], _ => rfl
  have C_check_day : Cal l.prog w K mg base 8 "check_day" p_check_day _ ["yard", "day"] [false, false] fs_check_day := ⟨def_ok F_check_day sc_check_day rfl (den_check_day Z C_is_day) sp_check_day, PySem.W.mg_of X G a_check_day, k_check_day, B_check_day⟩
  have F_far_apart := fun_mk (st := s_far_apart) l_far_apart c_far_apart k_far_apart
  have B_far_apart := F_far_apart.binds (ps := ["yard", "one", "other"]) fun _ _ _ _ _ _ us hl => match us, hl with | [_, _, _], _ => rfl
  have C_far_apart : Cal l.prog w K mg base 8 "far_apart" p_far_apart _ ["yard", "one", "other"] [false, false, false] fs_far_apart := ⟨def_ok F_far_apart sc_far_apart rfl (den_far_apart Z C_check_pair C_distance) sp_far_apart, PySem.W.mg_of X G a_far_apart, k_far_apart, B_far_apart⟩
  have F_check_day_from := fun_mk (st := s_check_day_from) l_check_day_from c_check_day_from k_check_day_from
  have B_check_day_from := F_check_day_from.binds (ps := ["yard", "standing", "day"]) fun _ _ _ _ _ _ us hl => match us, hl with | [_, _, _], _ => rfl
  have C_check_day_from : Cal l.prog w K mg base 9 "check_day_from" p_check_day_from _ ["yard", "standing", "day"] [false, false, false] fs_check_day_from := ⟨def_ok F_check_day_from sc_check_day_from rfl (den_check_day_from Z C_check_yard C_check_standing C_check_day) sp_check_day_from, PySem.W.mg_of X G a_check_day_from, k_check_day_from, B_check_day_from⟩
  have F_together := fun_mk (st := s_together) l_together c_together k_together
  have B_together := F_together.binds (ps := ["yard", "one", "other", "day"]) fun _ _ _ _ _ _ us hl => match us, hl with | [_, _, _, _], _ => rfl
  have C_together : Cal l.prog w K mg base 9 "together" p_together _ ["yard", "one", "other", "day"] [false, false, false, false] fs_together := ⟨def_ok F_together sc_together rfl (den_together Z C_check_pair C_check_day C_distances C_moments) sp_together, PySem.W.mg_of X G a_together, k_together, B_together⟩
  have F_go := fun_mk (st := s_go) l_go c_go k_go
  have B_go := F_go.binds (ps := ["yard", "standing", "day"]) fun _ _ _ _ _ _ us hl => match us, hl with | [_, _, _], _ => rfl
  have C_go : Cal l.prog w K mg base 10 "go" p_go _ ["yard", "standing", "day"] [false, false, false] fs_go := ⟨def_ok F_go sc_go rfl (den_go Z C_check_day_from C_gone) sp_go, PySem.W.mg_of X G a_go, k_go, B_go⟩
  have F_left_out := fun_mk (st := s_left_out) l_left_out c_left_out k_left_out
  have B_left_out := F_left_out.binds (ps := ["yard", "standing", "day", "number"]) fun _ _ _ _ _ _ us hl => match us, hl with | [_, _, _, _], _ => rfl
  have C_left_out : Cal l.prog w K mg base 10 "left_out" p_left_out _ ["yard", "standing", "day", "number"] [false, false, false, false] fs_left_out := ⟨def_ok F_left_out sc_left_out rfl (den_left_out Z C_check_day_from C_distances C_is_number_of_ask C_moments (PySem.W.mg_of X G g_IDLE) (dp_idle t0_IDLE t1_IDLE t2_IDLE)) sp_left_out, PySem.W.mg_of X G a_left_out, k_left_out, B_left_out⟩
  have F_served := fun_mk (st := s_served) l_served c_served k_served
  have B_served := F_served.binds (ps := ["yard", "standing", "day"]) fun _ _ _ _ _ _ us hl => match us, hl with | [_, _, _], _ => rfl
  have C_served : Cal l.prog w K mg base 11 "served" p_served _ ["yard", "standing", "day"] [false, false, false] fs_served := ⟨def_ok F_served sc_served rfl (den_served Z C_go) sp_served, PySem.W.mg_of X G a_served, k_served, B_served⟩
  have F__law_exchanged_right := fun_mk (st := s__law_exchanged_right) l__law_exchanged_right c__law_exchanged_right k__law_exchanged_right
  have B__law_exchanged_right := F__law_exchanged_right.binds (ps := ["rooms", "lie", "asks", "spot"]) fun _ _ _ _ _ _ us hl => match us, hl with | [_, _, _, _], _ => rfl
  have C__law_exchanged_right : Cal l.prog w K mg base 11 "_law_exchanged_right" p__law_exchanged_right _ ["rooms", "lie", "asks", "spot"] [false, false, false, false] fs__law_exchanged_right := ⟨def_ok F__law_exchanged_right sc__law_exchanged_right rfl (den__law_exchanged_right Z C_far_apart C_together C_go) sp__law_exchanged_right, PySem.W.mg_of X G a__law_exchanged_right, k__law_exchanged_right, B__law_exchanged_right⟩
  have F__law_left_right := fun_mk (st := s__law_left_right) l__law_left_right c__law_left_right k__law_left_right
  have B__law_left_right := F__law_left_right.binds (ps := ["rooms", "lie", "asks", "spot"]) fun _ _ _ _ _ _ us hl => match us, hl with | [_, _, _, _], _ => rfl
  have C__law_left_right : Cal l.prog w K mg base 11 "_law_left_right" p__law_left_right _ ["rooms", "lie", "asks", "spot"] [false, false, false, false] fs__law_left_right := ⟨def_ok F__law_left_right sc__law_left_right rfl (den__law_left_right Z C_left_out C_far_apart C_go) sp__law_left_right, PySem.W.mg_of X G a__law_left_right, k__law_left_right, B__law_left_right⟩
  have F_law := fun_mk (st := s_law) l_law c_law k_law
  exact def_ok F_law sc_law rfl (den_law Z C__law_cart C__law_rooms C__law_things C__law_asks C__law_pull C_far_apart C__law_some C__law_exchanged_right C__law_left_right C_go C_served) sp_law
end Lw
open PySem PySem.W PyProof.Rows
set_option maxHeartbeats 0 in
theorem PySem.Challenge.cw_onemore_k18_whole_asks_exchanged_holds : PySem.Challenge.rw_onemore_k18_whole_asks_exchanged.Holds := by
  w_on; o_law; k_head; (case hw => w_witness2)
  k_fill
  refine Kb.walk_g (l := PySem.Challenge.rw_onemore_k18_whole_asks_exchanged) (n := 63) (k := 12) (x := "script") (fs := Lw.fs_law) rfl (by decide) rfl ⟨rfl, by decide, by decide⟩ (fun w h Y => PySem.W.kIn_of Y) ?F ?S
  case F =>
    intro w mg fa h KX G hmg
    refine' Lw.all_mk KX G hmg ?a_is_whole ?l_is_whole ?c_is_whole ?k_is_whole ?a_is_count ?l_is_count ?c_is_count ?k_is_count ?a_is_count_below ?l_is_count_below ?c_is_count_below ?k_is_count_below ?a_is_place ?l_is_place ?c_is_place ?k_is_place ?a_is_number_of_ask ?l_is_number_of_ask ?c_is_number_of_ask ?k_is_number_of_ask ?a_is_yard ?l_is_yard ?c_is_yard ?k_is_yard ?a_fits ?l_fits ?c_fits ?k_fits ?a_is_standing ?l_is_standing ?c_is_standing ?k_is_standing ?a_are_unlike_places ?l_are_unlike_places ?c_are_unlike_places ?k_are_unlike_places ?a_is_ask ?l_is_ask ?c_is_ask ?k_is_ask ?a_is_day ?l_is_day ?c_is_day ?k_is_day ?a_check_yard ?l_check_yard ?c_check_yard ?k_check_yard ?a_check_standing ?l_check_standing ?c_check_standing ?k_check_standing ?a_check_day ?l_check_day ?c_check_day ?k_check_day ?a_check_day_from ?l_check_day_from ?c_check_day_from ?k_check_day_from ?a_has_room ?l_has_room ?c_has_room ?k_has_room ?a_first_with_thing ?l_first_with_thing ?c_first_with_thing ?k_first_with_thing ?a_first_with_room ?l_first_with_room ?c_first_with_room ?k_first_with_room ?a_serve ?l_serve ?c_serve ?k_serve ?a_gone ?l_gone ?c_gone ?k_gone ?a_go ?l_go ?c_go ?k_go ?a_served ?l_served ?c_served ?k_served ?a_check_pair ?l_check_pair ?c_check_pair ?k_check_pair ?a_distance ?l_distance ?c_distance ?k_distance ?a_moments ?l_moments ?c_moments ?k_moments ?a_distances ?l_distances ?c_distances ?k_distances ?a_far_apart ?l_far_apart ?c_far_apart ?k_far_apart ?a_together ?l_together ?c_together ?k_together ?a_left_out ?l_left_out ?c_left_out ?k_left_out ?a__law_cart ?l__law_cart ?c__law_cart ?k__law_cart ?a__law_pull ?l__law_pull ?c__law_pull ?k__law_pull ?a__law_rooms ?l__law_rooms ?c__law_rooms ?k__law_rooms ?a__law_things ?l__law_things ?c__law_things ?k__law_things ?a__law_some ?l__law_some ?c__law_some ?k__law_some ?a__law_asks ?l__law_asks ?c__law_asks ?k__law_asks ?a__law_exchanged_right ?l__law_exchanged_right ?c__law_exchanged_right ?k__law_exchanged_right ?a__law_left_right ?l__law_left_right ?c__law_left_right ?k__law_left_right ?a_law ?l_law ?c_law ?k_law ?g_IDLE ?t0_IDLE ?t1_IDLE ?t2_IDLE ?g_MOST_PLACES ?z_abs ?z_all ?z_bool ?z_enumerate ?z_int ?z_isinstance ?z_len ?z_list ?z_max ?z_min ?z_range ?z_set ?z_sorted ?z_sum ?z_tuple ?z_zip
    (case a_is_whole => k_is); (case l_is_whole => k_is); (case c_is_whole => k_is); (case k_is_whole => k_is); (case a_is_count => k_is); (case l_is_count => k_is); (case c_is_count => k_is); (case k_is_count => k_is)
    (case a_is_count_below => k_is); (case l_is_count_below => k_is); (case c_is_count_below => k_is); (case k_is_count_below => k_is); (case a_is_place => k_is); (case l_is_place => k_is); (case c_is_place => k_is); (case k_is_place => k_is)
    (case a_is_number_of_ask => k_is); (case l_is_number_of_ask => k_is); (case c_is_number_of_ask => k_is); (case k_is_number_of_ask => k_is); (case a_is_yard => k_is); (case l_is_yard => k_is); (case c_is_yard => k_is); (case k_is_yard => k_is)
    (case a_fits => k_is); (case l_fits => k_is); (case c_fits => k_is); (case k_fits => k_is); (case a_is_standing => k_is); (case l_is_standing => k_is); (case c_is_standing => k_is); (case k_is_standing => k_is)
    (case a_are_unlike_places => k_is); (case l_are_unlike_places => k_is); (case c_are_unlike_places => k_is); (case k_are_unlike_places => k_is); (case a_is_ask => k_is); (case l_is_ask => k_is); (case c_is_ask => k_is); (case k_is_ask => k_is)
    (case a_is_day => k_is); (case l_is_day => k_is); (case c_is_day => k_is); (case k_is_day => k_is); (case a_check_yard => k_is); (case l_check_yard => k_is); (case c_check_yard => k_is); (case k_check_yard => k_is)
    (case a_check_standing => k_is); (case l_check_standing => k_is); (case c_check_standing => k_is); (case k_check_standing => k_is); (case a_check_day => k_is); (case l_check_day => k_is); (case c_check_day => k_is); (case k_check_day => k_is)
    (case a_check_day_from => k_is); (case l_check_day_from => k_is); (case c_check_day_from => k_is); (case k_check_day_from => k_is); (case a_has_room => k_is); (case l_has_room => k_is); (case c_has_room => k_is); (case k_has_room => k_is)
    (case a_first_with_thing => k_is); (case l_first_with_thing => k_is); (case c_first_with_thing => k_is); (case k_first_with_thing => k_is); (case a_first_with_room => k_is); (case l_first_with_room => k_is); (case c_first_with_room => k_is); (case k_first_with_room => k_is)
    (case a_serve => k_is); (case l_serve => k_is); (case c_serve => k_is); (case k_serve => k_is); (case a_gone => k_is); (case l_gone => k_is); (case c_gone => k_is); (case k_gone => k_is)
    (case a_go => k_is); (case l_go => k_is); (case c_go => k_is); (case k_go => k_is); (case a_served => k_is); (case l_served => k_is); (case c_served => k_is); (case k_served => k_is)
    (case a_check_pair => k_is); (case l_check_pair => k_is); (case c_check_pair => k_is); (case k_check_pair => k_is); (case a_distance => k_is); (case l_distance => k_is); (case c_distance => k_is); (case k_distance => k_is)
    (case a_moments => k_is); (case l_moments => k_is); (case c_moments => k_is); (case k_moments => k_is); (case a_distances => k_is); (case l_distances => k_is); (case c_distances => k_is); (case k_distances => k_is)
    (case a_far_apart => k_is); (case l_far_apart => k_is); (case c_far_apart => k_is); (case k_far_apart => k_is); (case a_together => k_is); (case l_together => k_is); (case c_together => k_is); (case k_together => k_is)
    (case a_left_out => k_is); (case l_left_out => k_is); (case c_left_out => k_is); (case k_left_out => k_is); (case a__law_cart => k_is); (case l__law_cart => k_is); (case c__law_cart => k_is); (case k__law_cart => k_is)
    (case a__law_pull => k_is); (case l__law_pull => k_is); (case c__law_pull => k_is); (case k__law_pull => k_is); (case a__law_rooms => k_is); (case l__law_rooms => k_is); (case c__law_rooms => k_is); (case k__law_rooms => k_is)
    (case a__law_things => k_is); (case l__law_things => k_is); (case c__law_things => k_is); (case k__law_things => k_is); (case a__law_some => k_is); (case l__law_some => k_is); (case c__law_some => k_is); (case k__law_some => k_is)
    (case a__law_asks => k_is); (case l__law_asks => k_is); (case c__law_asks => k_is); (case k__law_asks => k_is); (case a__law_exchanged_right => k_is); (case l__law_exchanged_right => k_is); (case c__law_exchanged_right => k_is); (case k__law_exchanged_right => k_is)
    (case a__law_left_right => k_is); (case l__law_left_right => k_is); (case c__law_left_right => k_is); (case k__law_left_right => k_is); (case a_law => k_is); (case l_law => k_is); (case c_law => k_is); (case k_law => k_is)
    (case g_IDLE => k_is); (case t0_IDLE => k_is); (case t1_IDLE => k_is); (case t2_IDLE => k_is); (case g_MOST_PLACES => k_is); (case z_abs => k_is); (case z_all => k_is); (case z_bool => k_is)
    (case z_enumerate => k_is); (case z_int => k_is); (case z_isinstance => k_is); (case z_len => k_is); (case z_list => k_is); (case z_max => k_is); (case z_min => k_is); (case z_range => k_is)
    (case z_set => k_is); (case z_sorted => k_is); (case z_sum => k_is); (case z_tuple => k_is); (case z_zip => k_is)
  case S => exact fun ns hl => ⟨ns, rfl, hl, rfl⟩
