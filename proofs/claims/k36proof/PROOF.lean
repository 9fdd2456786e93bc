import PyProof.Rows.All
import Wide.All
import OpenK.AllK
import Wide.FinOn
import HandS.ForMost
import HandS.ForExc
import HandS.Wide
import HandS.IsInst
import HandS.ExcIs
import HandS.ExcInit
import HandS.Gcd
import HandS.Defaults
import PyProof.Rows.RegStrFacts
import HandS.Style
import HandS.Zip
import HandS.TupAny
import HandS.TupMul
import KE.GoesEnum
import KE.KMathG
import HandS.Flt
import HandS.TryOnly
import HandS.List
import HandS.Strs
import HandS.SetFor
import KE.SortData
import HandS.DictComp
import KE.KDictZip
import HandS.More
import PySem.Challenge.RW_unsureworks_k36_what_is_a_sign_paper
set_option Elab.async false
set_option maxRecDepth 100000
set_option maxHeartbeats 4000000
set_option exponentiation.threshold 100000
namespace Vw
open PySem PySem.Spec L2
/-! data, as it lies in the abstract heap outside of ex -/
/-- a key as data -/
def kD : Key → PyData
  | .inl i => .int i
  | .inr x => .str x
mutual
def Dn (ex : Addr → Prop) (H : Hp) : PyData → V → Prop
  | .none, v => v = .non
  | .bool b, v => v = .bl b
  | .int i, v => v = .int i
  | .str x, v => v = .str x
  | .list ds, v => ∃ a xs, v = .ref a ∧ H a = some (.lst xs) ∧ ¬ ex a ∧ DnAll ex H ds xs
  | .tuple ds, v => ∃ a xs, v = .ref a ∧ H a = some (.tup xs) ∧ ¬ ex a ∧ DnAll ex H ds xs
  | .dict kvs, v => ∃ a, v = .ref a ∧ ¬ ex a ∧ ((∃ L, H a = some (.dK L) ∧ DnKv ex H kvs L) ∨ ∃ L, H a = some (.dT L) ∧ DnKt ex H kvs L)
def DnAll (ex : Addr → Prop) (H : Hp) : List PyData → List V → Prop
  | [], vs => vs = []
  | d :: ds, vs => ∃ v r, vs = v :: r ∧ Dn ex H d v ∧ DnAll ex H ds r
def DnKv (ex : Addr → Prop) (H : Hp) : List (PyData × PyData) → List (Key × V) → Prop
  | [], L => L = []
  | (k, d) :: ds, L => ∃ key v r, L = (key, v) :: r ∧ kD key = k ∧ Dn ex H d v ∧ DnKv ex H ds r
def DnKt (ex : Addr → Prop) (H : Hp) : List (PyData × PyData) → List (List Key × V) → Prop
  | [], L => L = []
  | (k, d) :: ds, L => ∃ key v r, L = (key, v) :: r ∧ .tuple (key.map kD) = k ∧ Dn ex H d v ∧ DnKt ex H ds r
end
section
variable {ex ex' : Addr → Prop} {H H' : Hp}
mutual
theorem Dn.mono (hx : ∀ x, ex' x → ex x ∨ H x = none) (hh : ∀ x o, H x = some o → ¬ ex x → H' x = some o) : ∀ (d : PyData) (v : V), Dn ex H d v → Dn ex' H' d v
  | .none, v, h => by unfold Dn at h ⊢; exact h
  | .bool b, v, h => by unfold Dn at h ⊢; exact h
  | .int i, v, h => by unfold Dn at h ⊢; exact h
  | .str x, v, h => by unfold Dn at h ⊢; exact h
  | .list ds, v, h => by
    unfold Dn at h ⊢
    obtain ⟨a, xs, e, ha, hn, r⟩ := h
    exact ⟨a, xs, e, hh a _ ha hn, fun z => (hx a z).elim hn fun q => (by rw [ha] at q; cases q), DnAll.mono hx hh ds xs r⟩
  | .tuple ds, v, h => by
    unfold Dn at h ⊢
    obtain ⟨a, xs, e, ha, hn, r⟩ := h
    exact ⟨a, xs, e, hh a _ ha hn, fun z => (hx a z).elim hn fun q => (by rw [ha] at q; cases q), DnAll.mono hx hh ds xs r⟩
  | .dict kvs, v, h => by
    unfold Dn at h ⊢
    obtain ⟨a, e, hn, ⟨L, ha, r⟩ | ⟨L, ha, r⟩⟩ := h
    · exact ⟨a, e, fun z => (hx a z).elim hn fun q => (by rw [ha] at q; cases q), .inl ⟨L, hh a _ ha hn, DnKv.mono hx hh kvs L r⟩⟩
    · exact ⟨a, e, fun z => (hx a z).elim hn fun q => (by rw [ha] at q; cases q), .inr ⟨L, hh a _ ha hn, DnKt.mono hx hh kvs L r⟩⟩
theorem DnAll.mono (hx : ∀ x, ex' x → ex x ∨ H x = none) (hh : ∀ x o, H x = some o → ¬ ex x → H' x = some o) : ∀ (ds : List PyData) (vs : List V), DnAll ex H ds vs → DnAll ex' H' ds vs
  | [], vs, h => by unfold DnAll at h ⊢; exact h
  | d :: ds, vs, h => by
    unfold DnAll at h ⊢
    obtain ⟨v, r, e, h1, h2⟩ := h
    exact ⟨v, r, e, Dn.mono hx hh d v h1, DnAll.mono hx hh ds r h2⟩
theorem DnKv.mono (hx : ∀ x, ex' x → ex x ∨ H x = none) (hh : ∀ x o, H x = some o → ¬ ex x → H' x = some o) : ∀ (ds : List (PyData × PyData)) (L : List (Key × V)), DnKv ex H ds L → DnKv ex' H' ds L
  | [], L, h => by unfold DnKv at h ⊢; exact h
  | (k, d) :: ds, L, h => by
    unfold DnKv at h ⊢
    obtain ⟨key, v, r, e, e2, h1, h2⟩ := h
    exact ⟨key, v, r, e, e2, Dn.mono hx hh d v h1, DnKv.mono hx hh ds r h2⟩
theorem DnKt.mono (hx : ∀ x, ex' x → ex x ∨ H x = none) (hh : ∀ x o, H x = some o → ¬ ex x → H' x = some o) : ∀ (ds : List (PyData × PyData)) (L : List (List Key × V)), DnKt ex H ds L → DnKt ex' H' ds L
  | [], L, h => by unfold DnKt at h ⊢; exact h
  | (k, d) :: ds, L, h => by
    unfold DnKt at h ⊢
    obtain ⟨key, v, r, e, e2, h1, h2⟩ := h
    exact ⟨key, v, r, e, e2, Dn.mono hx hh d v h1, DnKt.mono hx hh ds r h2⟩
end
theorem Dn.int {i : Int} {v : V} : Dn ex H (.int i) v ↔ v = .int i := by unfold Dn; exact Iff.rfl
theorem Dn.bool {i : Bool} {v : V} : Dn ex H (.bool i) v ↔ v = .bl i := by unfold Dn; exact Iff.rfl
theorem Dn.str {i : Str} {v : V} : Dn ex H (.str i) v ↔ v = .str i := by unfold Dn; exact Iff.rfl
theorem Dn.none {v : V} : Dn ex H .none v ↔ v = .non := by unfold Dn; exact Iff.rfl
theorem Dn.list {ds : List PyData} {v : V} : Dn ex H (.list ds) v ↔ ∃ a xs, v = .ref a ∧ H a = some (.lst xs) ∧ ¬ ex a ∧ DnAll ex H ds xs := by constructor <;> (intro h; unfold Dn at *; exact h)
theorem Dn.tuple {ds : List PyData} {v : V} : Dn ex H (.tuple ds) v ↔ ∃ a xs, v = .ref a ∧ H a = some (.tup xs) ∧ ¬ ex a ∧ DnAll ex H ds xs := by constructor <;> (intro h; unfold Dn at *; exact h)
theorem Dn.dict {ds : List (PyData × PyData)} {v : V} : Dn ex H (.dict ds) v ↔ ∃ a, v = .ref a ∧ ¬ ex a ∧ ((∃ L, H a = some (.dK L) ∧ DnKv ex H ds L) ∨ ∃ L, H a = some (.dT L) ∧ DnKt ex H ds L) := by constructor <;> (intro h; unfold Dn at *; exact h)
theorem Dn.dictK {ds : List (PyData × PyData)} {v : V} (h : ∃ a L, v = .ref a ∧ H a = some (.dK L) ∧ ¬ ex a ∧ DnKv ex H ds L) : Dn ex H (.dict ds) v := by
  obtain ⟨a, L, h1, h2, h3, h4⟩ := h
  exact Dn.dict.mpr ⟨a, h1, h3, .inl ⟨L, h2, h4⟩⟩
theorem Dn.dictT {ds : List (PyData × PyData)} {v : V} (h : ∃ a L, v = .ref a ∧ H a = some (.dT L) ∧ ¬ ex a ∧ DnKt ex H ds L) : Dn ex H (.dict ds) v := by
  obtain ⟨a, L, h1, h2, h3, h4⟩ := h
  exact Dn.dict.mpr ⟨a, h1, h3, .inr ⟨L, h2, h4⟩⟩
theorem DnKt.nil {L : List (List Key × V)} : DnKt ex H [] L ↔ L = [] := by unfold DnKt; exact Iff.rfl
theorem DnKt.cons {k d : PyData} {ds : List (PyData × PyData)} {L : List (List Key × V)} : DnKt ex H ((k, d) :: ds) L ↔ ∃ key v r, L = (key, v) :: r ∧ .tuple (key.map kD) = k ∧ Dn ex H d v ∧ DnKt ex H ds r := by rw [DnKt]
theorem DnKv.nil {L : List (Key × V)} : DnKv ex H [] L ↔ L = [] := by unfold DnKv; exact Iff.rfl
theorem DnKv.cons {k d : PyData} {ds : List (PyData × PyData)} {L : List (Key × V)} : DnKv ex H ((k, d) :: ds) L ↔ ∃ key v r, L = (key, v) :: r ∧ kD key = k ∧ Dn ex H d v ∧ DnKv ex H ds r := by rw [DnKv]
theorem DnAll.nil {vs : List V} : DnAll ex H [] vs ↔ vs = [] := by unfold DnAll; exact Iff.rfl
theorem DnAll.cons {d : PyData} {ds : List PyData} {vs : List V} : DnAll ex H (d :: ds) vs ↔ ∃ v r, vs = v :: r ∧ Dn ex H d v ∧ DnAll ex H ds r := by rw [DnAll]
theorem DnAll.length : ∀ {ds : List PyData} {vs : List V}, DnAll ex H ds vs → ds.length = vs.length
  | [], vs, h => by rw [DnAll.nil.mp h]; rfl
  | d :: ds, vs, h => by
    obtain ⟨v, r, rfl, _, h2⟩ := DnAll.cons.mp h
    simp [DnAll.length h2]
theorem DnAll.get : ∀ {ds : List PyData} {vs : List V} {i : Nat} {d : PyData}, DnAll ex H ds vs → ds[i]? = some d → ∃ v, vs[i]? = some v ∧ Dn ex H d v
  | [], _, _, _, _, e => by simp at e
  | d :: ds, vs, 0, d', h, e => by
    obtain ⟨v, r, rfl, h1, h2⟩ := DnAll.cons.mp h
    simp at e; subst e
    exact ⟨v, rfl, h1⟩
  | d :: ds, vs, i + 1, d', h, e => by
    obtain ⟨v, r, rfl, h1, h2⟩ := DnAll.cons.mp h
    obtain ⟨u, e1, h3⟩ := DnAll.get (i := i) h2 (by simpa using e)
    exact ⟨u, by simpa using e1, h3⟩
theorem DnAll.get' {ds : List PyData} {vs : List V} {i : Nat} {v : V} (h : DnAll ex H ds vs) (e : vs[i]? = some v) : ∃ d, ds[i]? = some d ∧ Dn ex H d v := by
  have hl := h.length
  obtain ⟨hi, e1⟩ := List.getElem?_eq_some_iff.mp e
  have hd : ds[i]? = some (ds[i]'(by omega)) := List.getElem?_eq_getElem (by omega)
  obtain ⟨u, e2, h2⟩ := h.get hd
  rw [e] at e2; cases e2
  exact ⟨_, hd, h2⟩
theorem DnAll.append : ∀ {ds es : List PyData} {vs ws : List V}, DnAll ex H ds vs → DnAll ex H es ws → DnAll ex H (ds ++ es) (vs ++ ws)
  | [], _, _, _, h, h' => by rw [DnAll.nil.mp h]; exact h'
  | d :: ds, es, vs, ws, h, h' => by
    obtain ⟨v, r, rfl, h1, h2⟩ := DnAll.cons.mp h
    exact DnAll.cons.mpr ⟨v, r ++ ws, rfl, h1, DnAll.append h2 h'⟩
theorem DnAll.set : ∀ {ds : List PyData} {vs : List V} {d : PyData} {v : V} (i : Nat), DnAll ex H ds vs → Dn ex H d v → DnAll ex H (ds.set i d) (vs.set i v)
  | [], vs, d, v, i, h, _ => by rw [DnAll.nil.mp h]; exact DnAll.nil.mpr rfl
  | e :: ds, vs, d, v, 0, h, h' => by
    obtain ⟨u, r, rfl, h1, h2⟩ := DnAll.cons.mp h
    exact DnAll.cons.mpr ⟨v, r, rfl, h', h2⟩
  | e :: ds, vs, d, v, i + 1, h, h' => by
    obtain ⟨u, r, rfl, h1, h2⟩ := DnAll.cons.mp h
    exact DnAll.cons.mpr ⟨u, r.set i v, rfl, h1, DnAll.set i h2 h'⟩
theorem DnAll.drop : ∀ {ds : List PyData} {vs : List V} (n : Nat), DnAll ex H ds vs → DnAll ex H (ds.drop n) (vs.drop n)
  | _, _, 0, h => h
  | [], vs, n + 1, h => by rw [DnAll.nil.mp h]; exact DnAll.nil.mpr rfl
  | e :: ds, vs, n + 1, h => by
    obtain ⟨u, r, rfl, h1, h2⟩ := DnAll.cons.mp h
    exact DnAll.drop n h2
theorem DnAll.take : ∀ {ds : List PyData} {vs : List V} (n : Nat), DnAll ex H ds vs → DnAll ex H (ds.take n) (vs.take n)
  | _, _, 0, h => DnAll.nil.mpr rfl
  | [], vs, n + 1, h => by rw [DnAll.nil.mp h]; exact DnAll.nil.mpr rfl
  | e :: ds, vs, n + 1, h => by
    obtain ⟨u, r, rfl, h1, h2⟩ := DnAll.cons.mp h
    exact DnAll.cons.mpr ⟨u, r.take n, rfl, h1, DnAll.take n h2⟩
theorem DnAll.ints : ∀ (ns : List Int), DnAll ex H (ns.map PyData.int) (ns.map V.int)
  | [] => DnAll.nil.mpr rfl
  | n :: ns => DnAll.cons.mpr ⟨_, _, rfl, Dn.int.mpr rfl, DnAll.ints ns⟩
theorem hda {d : PyData} {ds : List PyData} (h : PyData.hasDictAll (d :: ds) = false) : d.hasDict = false ∧ PyData.hasDictAll ds = false := by
  simpa only [PyData.hasDictAll, Bool.or_eq_false_iff] using h
mutual
theorem Dn.dp {K : PySem.W.Frag} : ∀ (d : PyData) (v : V), d.hasDict = false → Dn ex H d v → Dp K H v d
  | .none, v, _, h => by rw [Dn.none.mp h]; exact .non
  | .bool b, v, _, h => by rw [Dn.bool.mp h]; exact .bl b
  | .int i, v, _, h => by rw [Dn.int.mp h]; exact .int i
  | .str x, v, _, h => by rw [Dn.str.mp h]; exact .str x
  | .list ds, v, n, h => by
    obtain ⟨a, xs, rfl, ha, _, r⟩ := Dn.list.mp h
    exact .lst (SqL.of ha) (DnAll.dp ds xs (by simpa only [PyData.hasDict] using n) r)
  | .tuple ds, v, n, h => by
    obtain ⟨a, xs, rfl, ha, _, r⟩ := Dn.tuple.mp h
    exact .tup (SqT.of ha) (DnAll.dp ds xs (by simpa only [PyData.hasDict] using n) r)
  | .dict _, v, n, h => by simp only [PyData.hasDict] at n; cases n
theorem DnAll.dp {K : PySem.W.Frag} : ∀ (ds : List PyData) (vs : List V), PyData.hasDictAll ds = false → DnAll ex H ds vs → DpAll K H vs ds
  | [], vs, _, h => by rw [DnAll.nil.mp h]; exact .nil
  | d :: ds, vs, n, h => by
    obtain ⟨v, r, rfl, h1, h2⟩ := DnAll.cons.mp h
    exact .cons (Dn.dp d v (hda n).1 h1) (DnAll.dp ds r (hda n).2 h2)
end
end

/-! the source of draws: a dict at a, its lists at b and c -/
def kFar : Key := .inr "far"
def kCells : Key := .inr "cells"
def kSum : Key := .inr "sum"
def kCount : Key := .inr "count"
def srcD (b c : Addr) (fold turn : Int) : List (Key × V) := [(kFar, .ref b), (kCells, .ref c), (kSum, .int fold), (kCount, .int turn)]
structure SrcS (H : Hp) (a b c : Addr) (deep small : List Int) (fold turn : Int) : Prop where
  da : H a = some (.dK (srcD b c fold turn))
  db : H b = some (.lst (deep.map V.int))
  dc : H c = some (.lst (small.map V.int))
  ne : 0 < small.length
  le : small.length ≤ 100
  ld : deep.length ≤ 100
  bc : b ≠ c
def Src (H : Hp) (a b c : Addr) : Prop := ∃ deep small fold turn, SrcS H a b c deep small fold turn

structure Bs where
  src : Option (Addr × Addr × Addr)
  ex : Addr → Prop
def Bs.S (B : Bs) (x : Addr) : Prop := ∃ a b c, B.src = some (a, b, c) ∧ (x = a ∨ x = b)
structure Bs.Ok (B : Bs) (H : Hp) : Prop where
  live : ∀ x, B.ex x → H x ≠ none
  sr : ∀ a b c, B.src = some (a, b, c) → Src H a b c ∧ B.ex a ∧ B.ex b ∧ B.ex c
theorem Bs.Ok.sx {B : Bs} {H : Hp} (k : B.Ok H) {x : Addr} (h : B.S x) : B.ex x := by
  obtain ⟨a, b, c, e, h⟩ := h
  obtain ⟨_, h1, h2, _⟩ := k.sr a b c e
  rcases h with rfl | rfl
  · exact h1
  · exact h2
def Ext (B : Bs) (H H' : Hp) : Prop := ∀ x o, H x = some o → ¬ B.S x → H' x = some o
theorem Ext.refl {B : Bs} {H : Hp} : Ext B H H := fun _ _ e _ => e
theorem Ext.trans {B : Bs} {H H1 H2 : Hp} (a : Ext B H H1) (b : Ext B H1 H2) : Ext B H H2 := fun x o e n => b x o (a x o e n) n
theorem Ext.new {B : Bs} {H : Hp} {p : Addr} {o : HO} (hp : H p = none) : Ext B H (upd H p o) := fun x u e _ => by rw [upd_ne (ne_of_none e hp)]; exact e
theorem Bs.Ok.new {B : Bs} {H : Hp} {p : Addr} {o : HO} (k : B.Ok H) (hp : H p = none) : B.Ok (upd H p o) := by
  refine ⟨fun x hx => ?_, fun a b c e => ?_⟩
  · by_cases h : x = p
    · subst h; rw [upd_same]; intro z; cases z
    · rw [upd_ne h]; exact k.live x hx
  · obtain ⟨⟨deep, small, fold, turn, s⟩, h⟩ := k.sr a b c e
    exact ⟨⟨deep, small, fold, turn, ⟨by rw [upd_ne (ne_of_none s.da hp)]; exact s.da, by rw [upd_ne (ne_of_none s.db hp)]; exact s.db, by rw [upd_ne (ne_of_none s.dc hp)]; exact s.dc, s.ne, s.le, s.ld, s.bc⟩⟩, h⟩
/-- a heap that agrees on ex -/
theorem Bs.Ok.at {B : Bs} {H H' : Hp} (k : B.Ok H) (h : ∀ x, B.ex x → H' x = H x) : B.Ok H' := by
  refine ⟨fun x hx => ?_, fun a b c e => ?_⟩
  · rw [h x hx]; exact k.live x hx
  · obtain ⟨⟨deep, small, fold, turn, s⟩, ha, hb, hc⟩ := k.sr a b c e
    exact ⟨⟨deep, small, fold, turn, ⟨by rw [h a ha]; exact s.da, by rw [h b hb]; exact s.db, by rw [h c hc]; exact s.dc, s.ne, s.le, s.ld, s.bc⟩⟩, ha, hb, hc⟩

/-- what is free behind was free ahead -/
theorem Ext.none {B : Bs} {H H' : Hp} (x : Ext B H H') (k : B.Ok H') {p : Addr} (h : H' p = none) : H p = none := by
  cases e : H p with
  | none => rfl
  | some o =>
    by_cases n : B.S p
    · exact absurd h (k.live p (k.sx n))
    · rw [x p o e n] at h; cases h
/-! slots -/
inductive Sl where
  | dat (d : PyData)
  | own (ds : List PyData)
  | src
  | raw (v : V)
abbrev Rho := List (Option Sl)
def SlOk (B : Bs) (xo : Addr → Prop) (H : Hp) : Sl → V → Prop
  | .dat d, v => Dn xo H d v
  | .own ds, v => ∃ p vs, v = .ref p ∧ H p = some (.lst vs) ∧ ¬ B.ex p ∧ DnAll xo H ds vs
  | .src, v => ∃ a b c, B.src = some (a, b, c) ∧ v = .ref a
  | .raw u, v => v = u
def Own (ρ : Rho) (σ : St) (x : Addr) : Prop := ∃ (i : Nat) (ds : List PyData), ρ[i]? = some (some (Sl.own ds)) ∧ σ[i]? = some (some (V.ref x))
def exO (B : Bs) (ρ : Rho) (σ : St) (x : Addr) : Prop := B.ex x ∨ Own ρ σ x
structure En (B : Bs) (ρ : Rho) (σ : St) (H : Hp) : Prop where
  ok : B.Ok H
  len : ρ.length = σ.length
  sl : ∀ (i : Nat) (s : Sl), ρ[i]? = some (some s) → ∃ v, σ[i]? = some (some v) ∧ SlOk B (exO B ρ σ) H s v
  sep : ∀ (i j : Nat) (ds es : List PyData) (x : Addr), ρ[i]? = some (some (Sl.own ds)) → ρ[j]? = some (some (Sl.own es)) → σ[i]? = some (some (V.ref x)) → σ[j]? = some (some (V.ref x)) → i = j
section
variable {B : Bs} {ρ ρ' : Rho} {σ σ' : St} {H H' : Hp}
theorem En.ownLive (E : En B ρ σ H) {x : Addr} (h : Own ρ σ x) : ∃ ds vs, H x = some (.lst vs) ∧ ¬ B.ex x ∧ DnAll (exO B ρ σ) H ds vs := by
  obtain ⟨i, ds, e1, e2⟩ := h
  obtain ⟨v, e3, p, vs, rfl, h1, h2, h3⟩ := E.sl i _ e1
  rw [e2] at e3; cases e3
  exact ⟨ds, vs, h1, h2, h3⟩
theorem En.live (E : En B ρ σ H) {x : Addr} (h : exO B ρ σ x) : H x ≠ none := by
  rcases h with h | h
  · exact E.ok.live x h
  · obtain ⟨_, _, e, _⟩ := E.ownLive h
    rw [e]; intro z; cases z
theorem En.sx (E : En B ρ σ H) {x : Addr} (h : B.S x) : exO B ρ σ x := .inl (E.ok.sx h)
theorem En.dn (E : En B ρ σ H) (x : Ext B H H') {d : PyData} {v : V} (h : Dn (exO B ρ σ) H d v) : Dn (exO B ρ σ) H' d v :=
  Dn.mono (fun _ z => .inl z) (fun y o e n => x y o e fun z => n (E.sx z)) d v h
theorem En.dnAll (E : En B ρ σ H) (x : Ext B H H') {d : List PyData} {v : List V} (h : DnAll (exO B ρ σ) H d v) : DnAll (exO B ρ σ) H' d v :=
  DnAll.mono (fun _ z => .inl z) (fun y o e n => x y o e fun z => n (E.sx z)) d v h
/-- the same frame over a heap that is an extension -/
theorem En.ext (E : En B ρ σ H) (x : Ext B H H') (k : B.Ok H') : En B ρ σ H' := by
  refine ⟨k, E.len, fun i s e => ?_, E.sep⟩
  obtain ⟨v, e1, h⟩ := E.sl i s e
  refine ⟨v, e1, ?_⟩
  cases s with
  | dat d => exact E.dn x h
  | own ds =>
    obtain ⟨p, vs, e2, h1, h2, h3⟩ := h
    refine ⟨p, vs, e2, x p _ h1 fun z => h2 (E.ok.sx z), h2, E.dnAll x h3⟩
  | src => exact h
  | raw u => exact h
theorem En.new (E : En B ρ σ H) {p : Addr} {o : HO} (hp : H p = none) : En B ρ σ (upd H p o) := E.ext (Ext.new hp) (E.ok.new hp)
theorem En.nx (E : En B ρ σ H) {p : Addr} (hp : H p = none) : ¬ exO B ρ σ p := fun z => E.live z hp
theorem getset {α : Type} {l : List (Option α)} {i j : Nat} {x : Option α} {y : α} (h : (l.set i x)[j]? = some (some y)) : (j = i ∧ x = some y) ∨ (j ≠ i ∧ l[j]? = some (some y)) := by
  by_cases e : i = j
  · subst e
    by_cases hl : i < l.length
    · rw [List.getElem?_set_self hl] at h
      exact .inl ⟨rfl, Option.some.inj h⟩
    · rw [List.getElem?_eq_none (by simpa using hl)] at h; cases h
  · rw [List.getElem?_set_ne e] at h
    exact .inr ⟨fun z => e z.symm, h⟩
/-- a slot gets data -/
theorem own_set {i : Nat} {s : Option Sl} {v : Option V} (hs : ∀ ds, s ≠ some (.own ds)) {x : Addr} (h : Own (ρ.set i s) (σ.set i v) x) : Own ρ σ x := by
  obtain ⟨j, ds, e1, e2⟩ := h
  rcases getset e1 with ⟨_, e⟩ | ⟨n, e⟩
  · exact absurd e (hs ds)
  · rcases getset e2 with ⟨e', _⟩ | ⟨_, e'⟩
    · exact absurd e' n
    · exact ⟨j, ds, e, e'⟩
theorem En.set (E : En B ρ σ H) {i : Nat} {s : Sl} {v : V} (hs : ∀ ds, s ≠ .own ds) (h : SlOk B (exO B ρ σ) H s v) : En B (ρ.set i (some s)) (σ.set i (some v)) H := by
  have hs' : ∀ ds, some s ≠ some (Sl.own ds) := fun ds e => hs ds (Option.some.inj e)
  have mn : ∀ x, exO B (ρ.set i (some s)) (σ.set i (some v)) x → exO B ρ σ x ∨ H x = none := fun x hx => by
    rcases hx with hx | hx
    · exact .inl (.inl hx)
    · exact .inl (.inr (own_set hs' hx))
  have hsl : ∀ s v, SlOk B (exO B ρ σ) H s v → SlOk B (exO B (ρ.set i (some s)) (σ.set i (some v))) H s v ∨ True := fun _ _ _ => .inr trivial
  have go : ∀ s' v', SlOk B (exO B ρ σ) H s' v' → SlOk B (exO B (ρ.set i (some s)) (σ.set i (some v))) H s' v' := fun s' v' h' => by
    cases s' with
    | dat d => exact Dn.mono mn (fun _ _ e _ => e) d v' h'
    | own ds =>
      obtain ⟨p, vs, e2, h1, h2, h3⟩ := h'
      exact ⟨p, vs, e2, h1, h2, DnAll.mono mn (fun _ _ e _ => e) _ _ h3⟩
    | src => exact h'
    | raw u => exact h'
  refine ⟨E.ok, by simpa using E.len, fun j s' e => ?_, fun j k ds es x e1 e2 e3 e4 => ?_⟩
  · rcases getset e with ⟨ej, e2⟩ | ⟨n, e2⟩
    · subst ej
      cases e2
      have hj : j < σ.length := by
        rw [← E.len]
        have := (List.getElem?_eq_some_iff.mp e).1
        simpa using this
      exact ⟨v, List.getElem?_set_self hj, go _ _ h⟩
    · obtain ⟨v', e', h'⟩ := E.sl j s' e2
      exact ⟨v', by rw [List.getElem?_set_ne (Ne.symm n)]; exact e', go _ _ h'⟩
  · rcases getset e1 with ⟨_, e⟩ | ⟨n1, e1⟩
    · exact absurd e (hs' ds)
    rcases getset e2 with ⟨_, e⟩ | ⟨n2, e2⟩
    · exact absurd e (hs' es)
    rcases getset e3 with ⟨e, _⟩ | ⟨_, e3⟩
    · exact absurd e n1
    rcases getset e4 with ⟨e, _⟩ | ⟨_, e4⟩
    · exact absurd e n2
    exact E.sep j k ds es x e1 e2 e3 e4
/-- a slot is forgotten (its value may be anything) -/
theorem En.forget (E : En B ρ σ H) {i : Nat} {v : Option V} : En B (ρ.set i none) (σ.set i v) H := by
  have hs' : ∀ ds, (none : Option Sl) ≠ some (Sl.own ds) := fun ds e => by cases e
  have mn : ∀ x, exO B (ρ.set i none) (σ.set i v) x → exO B ρ σ x ∨ H x = none := fun x hx => by
    rcases hx with hx | hx
    · exact .inl (.inl hx)
    · exact .inl (.inr (own_set hs' hx))
  have go : ∀ s' v', SlOk B (exO B ρ σ) H s' v' → SlOk B (exO B (ρ.set i none) (σ.set i v)) H s' v' := fun s' v' h' => by
    cases s' with
    | dat d => exact Dn.mono mn (fun _ _ e _ => e) d v' h'
    | own ds =>
      obtain ⟨p, vs, e2, h1, h2, h3⟩ := h'
      exact ⟨p, vs, e2, h1, h2, DnAll.mono mn (fun _ _ e _ => e) _ _ h3⟩
    | src => exact h'
    | raw u => exact h'
  refine ⟨E.ok, by simpa using E.len, fun j s' e => ?_, fun j k ds es x e1 e2 e3 e4 => ?_⟩
  · rcases getset e with ⟨ej, e2⟩ | ⟨n, e2⟩
    · cases e2
    · obtain ⟨v', e', h'⟩ := E.sl j s' e2
      exact ⟨v', by rw [List.getElem?_set_ne (Ne.symm n)]; exact e', go _ _ h'⟩
  · rcases getset e1 with ⟨_, e⟩ | ⟨n1, e1⟩
    · cases e
    rcases getset e2 with ⟨_, e⟩ | ⟨n2, e2⟩
    · cases e
    rcases getset e3 with ⟨e, _⟩ | ⟨_, e3⟩
    · exact absurd e n1
    rcases getset e4 with ⟨e, _⟩ | ⟨_, e4⟩
    · exact absurd e n2
    exact E.sep j k ds es x e1 e2 e3 e4
/-- one address more that is no data's -/
def Bs.add (B : Bs) (p : Addr) : Bs := ⟨B.src, fun x => B.ex x ∨ x = p⟩
theorem Bs.Ok.add (k : B.Ok H) {p : Addr} (hp : H p ≠ none) : (B.add p).Ok H := ⟨fun x hx => by
  rcases hx with hx | rfl
  · exact k.live x hx
  · exact hp, fun a b c e => by
  obtain ⟨h, h1, h2, h3⟩ := k.sr a b c e
  exact ⟨h, .inl h1, .inl h2, .inl h3⟩⟩
theorem En.add (E : En B ρ σ H) {p : Addr} {o : HO} (hp : H p = none) : En (B.add p) ρ σ (upd H p o) := by
  have hx : ∀ x, exO (B.add p) ρ σ x → exO B ρ σ x ∨ H x = none := fun x h => by
    rcases h with (h | h) | h
    · exact .inl (.inl h)
    · exact .inr (h ▸ hp)
    · exact .inl (.inr h)
  have hh : ∀ x u, H x = some u → upd H p o x = some u := fun x u e => by rw [upd_ne (ne_of_none e hp)]; exact e
  refine ⟨(E.ok.new hp).add (by rw [upd_same]; intro z; cases z), E.len, fun i s e => ?_, E.sep⟩
  obtain ⟨v, e1, h⟩ := E.sl i s e
  refine ⟨v, e1, ?_⟩
  cases s with
  | dat d => exact Dn.mono hx (fun x u e _ => hh x u e) d v h
  | own ds =>
    obtain ⟨q, vs, e2, h1, h2, h3⟩ := h
    exact ⟨q, vs, e2, hh _ _ h1, fun z => z.elim h2 fun z => (by rw [z, hp] at h1; cases h1), DnAll.mono hx (fun x u e _ => hh x u e) _ _ h3⟩
  | src => exact h
  | raw u => exact h
theorem En.unadd {p : Addr} (E : En (B.add p) ρ σ H) (k : B.Ok H) : En B ρ σ H := by
  have hx : ∀ x, exO B ρ σ x → exO (B.add p) ρ σ x ∨ H x = none := fun x h => .inl (h.imp .inl id)
  refine ⟨k, E.len, fun i s e => ?_, E.sep⟩
  obtain ⟨v, e1, h⟩ := E.sl i s e
  refine ⟨v, e1, ?_⟩
  cases s with
  | dat d => exact Dn.mono hx (fun x u e _ => e) d v h
  | own ds =>
    obtain ⟨q, vs, e2, h1, h2, h3⟩ := h
    exact ⟨q, vs, e2, h1, fun z => h2 (.inl z), DnAll.mono hx (fun x u e _ => e) _ _ h3⟩
  | src => exact h
  | raw u => exact h
end
end Vw

namespace Vw
open PySem PySem.Spec L2
/-! judgements over data -/
def tE (B : Bs) (ρ : Rho) (Φ : PyData → Prop) : TE := fun σ H Q => En B ρ σ H ∧ ∀ v H' d, Ext B H H' → En B ρ σ H' → Dn (exO B ρ σ) H' d v → Φ d → Q v H'
def tF (B : Bs) (ρ : Rho) (Φ : List PyData → Prop) : TE := fun σ H Q => En B ρ σ H ∧ ∀ p H' ds vs, Ext B H H' → H p = none → B.Ok H' → En (B.add p) ρ σ H' → H' p = some (.lst vs) → ¬ exO B ρ σ p → DnAll (exO (B.add p) ρ σ) H' ds vs → Φ ds → Q (.ref p) H'
def tT (B : Bs) (ρ : Rho) (Φ : Bool → Prop) : TT := fun σ H Q => En B ρ σ H ∧ ∀ b H', Ext B H H' → En B ρ σ H' → Φ b → Q b H'
def SlAll (B : Bs) (xo : Addr → Prop) (H : Hp) : List Sl → List V → Prop
  | [], vs => vs = []
  | s :: ss, vs => ∃ v r, vs = v :: r ∧ SlOk B xo H s v ∧ SlAll B xo H ss r
def tA (B : Bs) (ρ : Rho) (Φ : List Sl → Prop) : TA := fun σ H Q => En B ρ σ H ∧ ∀ vs H' ss, Ext B H H' → En B ρ σ H' → SlAll B (exO B ρ σ) H' ss vs → Φ ss → Q vs H'
def EvE (X : Cx) (B : Bs) (ρ : Rho) (e : Expr) (Φ : PyData → Prop) : Prop := PE X e (tE B ρ Φ)
def EvF (X : Cx) (B : Bs) (ρ : Rho) (e : Expr) (Φ : List PyData → Prop) : Prop := PE X e (tF B ρ Φ)
def EvT (X : Cx) (B : Bs) (ρ : Rho) (e : Expr) (Φ : Bool → Prop) : Prop := PT X e (tT B ρ Φ)
def EvW (X : Cx) (B : Bs) (ρ : Rho) (e : Expr) (Φ : Bool → Prop) : Prop := PW X e (tT B ρ Φ)
def EvA (X : Cx) (B : Bs) (ρ : Rho) (es : List Expr) (Φ : List Sl → Prop) : Prop := PA X es (tA B ρ Φ)
def EvK (X : Cx) (B : Bs) (ρ : Rho) (es : List Keyword) (Φ : List Sl → Prop) : Prop := PK X es (tA B ρ Φ)
def sE (X : Cx) (e : Expr) : TE := fun σ H Q => ∃ t, PE X e t ∧ t σ H Q
def sT (X : Cx) (e : Expr) : TT := fun σ H Q => ∃ t, PT X e t ∧ t σ H Q
def sW (X : Cx) (e : Expr) : TT := fun σ H Q => ∃ t, PW X e t ∧ t σ H Q
def sA (X : Cx) (es : List Expr) : TA := fun σ H Q => ∃ t, PA X es t ∧ t σ H Q
def sK (X : Cx) (es : List Keyword) : TA := fun σ H Q => ∃ t, PK X es t ∧ t σ H Q
section
variable {X : Cx} {e : Expr} {es : List Expr} {kw : List Keyword}
theorem pe_s : PE X e (sE X e) := ⟨fun pins s σ H Q I ⟨t, h, q⟩ => h.run pins s σ H Q I q⟩
theorem pt_s : PT X e (sT X e) := ⟨fun pins s σ H Q I ⟨t, h, q⟩ => h.run pins s σ H Q I q⟩
theorem pw_s : PW X e (sW X e) := ⟨fun wh pins s σ H Q I ⟨t, h, q⟩ => h.run wh pins s σ H Q I q⟩
theorem pa_s : PA X es (sA X es) := ⟨fun pos pins s σ H Q I ⟨t, h, q⟩ => h.run pos pins s σ H Q I q⟩
theorem pk_s : PK X kw (sK X kw) := ⟨fun pos pins s σ H Q I ⟨t, h, q⟩ => h.run pos pins s σ H Q I q⟩
theorem pe_imp {t t' : TE} (h : PE X e t) (hi : ∀ σ H Q, t' σ H Q → t σ H Q) : PE X e t' := ⟨fun pins s σ H Q I q => h.run pins s σ H Q I (hi _ _ _ q)⟩
theorem pt_imp {t t' : TT} (h : PT X e t) (hi : ∀ σ H Q, t' σ H Q → t σ H Q) : PT X e t' := ⟨fun pins s σ H Q I q => h.run pins s σ H Q I (hi _ _ _ q)⟩
theorem pw_imp {t t' : TT} (h : PW X e t) (hi : ∀ σ H Q, t' σ H Q → t σ H Q) : PW X e t' := ⟨fun wh pins s σ H Q I q => h.run wh pins s σ H Q I (hi _ _ _ q)⟩
theorem pa_imp {t t' : TA} (h : PA X es t) (hi : ∀ σ H Q, t' σ H Q → t σ H Q) : PA X es t' := ⟨fun pos pins s σ H Q I q => h.run pos pins s σ H Q I (hi _ _ _ q)⟩
theorem pk_imp {t t' : TA} (h : PK X kw t) (hi : ∀ σ H Q, t' σ H Q → t σ H Q) : PK X kw t' := ⟨fun pos pins s σ H Q I q => h.run pos pins s σ H Q I (hi _ _ _ q)⟩
end
section
variable {B : Bs} {ρ : Rho} {σ : St} {H H' : Hp}
theorem exAdd {p : Addr} (hp : H p = none) : ∀ x, exO (B.add p) ρ σ x → exO B ρ σ x ∨ H x = none := fun x h => by
  rcases h with (h | h) | h
  · exact .inl (.inl h)
  · exact .inr (h ▸ hp)
  · exact .inl (.inr h)
theorem slOk_mono {xo xo' : Addr → Prop} (hx : ∀ x, xo' x → xo x ∨ H x = none) (hh : ∀ x o, H x = some o → ¬ xo x → H' x = some o) (hb : ∀ x, ¬ B.ex x → ∀ o, H x = some o → H' x = some o) :
    ∀ {s : Sl} {v : V}, SlOk B xo H s v → SlOk B xo' H' s v
  | .dat d, v, h => Dn.mono hx hh d v h
  | .own ds, v, h => by
    obtain ⟨p, vs, e, h1, h2, h3⟩ := h
    exact ⟨p, vs, e, hb p h2 _ h1, h2, DnAll.mono hx hh _ _ h3⟩
  | .src, v, h => h
  | .raw u, v, h => h
theorem slAll_mono {xo xo' : Addr → Prop} (hx : ∀ x, xo' x → xo x ∨ H x = none) (hh : ∀ x o, H x = some o → ¬ xo x → H' x = some o) (hb : ∀ x, ¬ B.ex x → ∀ o, H x = some o → H' x = some o) :
    ∀ {ss : List Sl} {vs : List V}, SlAll B xo H ss vs → SlAll B xo' H' ss vs
  | [], vs, h => h
  | s :: ss, vs, h => by
    obtain ⟨v, r, e, h1, h2⟩ := h
    exact ⟨v, r, e, slOk_mono hx hh hb h1, slAll_mono hx hh hb h2⟩
theorem slAll_length {xo : Addr → Prop} : ∀ {ss : List Sl} {vs : List V}, SlAll B xo H ss vs → vs.length = ss.length
  | [], vs, h => by rw [show vs = [] from h]; rfl
  | s :: ss, vs, h => by
    obtain ⟨v, r, e, h1, h2⟩ := h
    rw [e]; simp [slAll_length h2]
theorem En.slOk (E : En B ρ σ H) (x : Ext B H H') {s : Sl} {v : V} (h : SlOk B (exO B ρ σ) H s v) : SlOk B (exO B ρ σ) H' s v :=
  slOk_mono (fun _ z => .inl z) (fun y o e n => x y o e fun z => n (E.sx z)) (fun y n o e => x y o e fun z => n (E.ok.sx z)) h
theorem En.slAll (E : En B ρ σ H) (x : Ext B H H') {s : List Sl} {v : List V} (h : SlAll B (exO B ρ σ) H s v) : SlAll B (exO B ρ σ) H' s v :=
  slAll_mono (fun _ z => .inl z) (fun y o e n => x y o e fun z => n (E.sx z)) (fun y n o e => x y o e fun z => n (E.ok.sx z)) h
end
section
variable {X : Cx} {B : Bs} {ρ : Rho} {e a b : Expr} {es : List Expr} {pos : Pos} {Φ : PyData → Prop} {Ψ : Bool → Prop}
/-! ### names, constants -/
theorem ev_name (i : Nat) {x : Str} {d : PyData} (hr : ρ[i]? = some (some (.dat d))) (hN : X.N[i]? = some x) (hv : Vis X.env.scope x) (h : Φ d) (hd : (x == ("__debug__" : Str)) = false := by decide) (hcd : (x == ("__classdict__" : Str)) = false := by decide) : EvE X B ρ (.Name x pos) Φ :=
  pe_imp (pe_var hN hv hd hcd) fun σ H Q ⟨E, k⟩ => by
    obtain ⟨v, e1, h1⟩ := E.sl i _ hr
    exact ⟨v, e1, k v H d Ext.refl E h1 h⟩
theorem ev_int {i j} (h : Φ (.int i)) : EvE X B ρ (.Constant (.int i) j pos) Φ := pe_imp pe_int fun σ H Q ⟨E, k⟩ => k _ H _ Ext.refl E (Dn.int.mpr rfl) h
theorem ev_bl {i j} (h : Φ (.bool i)) : EvE X B ρ (.Constant (.bool i) j pos) Φ := pe_imp pe_bl fun σ H Q ⟨E, k⟩ => k _ H _ Ext.refl E (Dn.bool.mpr rfl) h
theorem ev_str {i j} (h : Φ (.str i)) : EvE X B ρ (.Constant (.str i) j pos) Φ := pe_imp pe_str fun σ H Q ⟨E, k⟩ => k _ H _ Ext.refl E (Dn.str.mpr rfl) h
theorem ev_non {j} (h : Φ .none) : EvE X B ρ (.Constant .none j pos) Φ := pe_imp pe_non fun σ H Q ⟨E, k⟩ => k _ H _ Ext.refl E (Dn.none.mpr rfl) h
theorem ev_mono {Φ' : PyData → Prop} (h : EvE X B ρ e Φ) (hi : ∀ d, Φ d → Φ' d) : EvE X B ρ e Φ' := pe_imp h fun σ H Q ⟨E, k⟩ => ⟨E, fun v H' d x E' h1 h2 => k v H' d x E' h1 (hi d h2)⟩
/-- a fresh list is a list -/
theorem ev_of_f {Ξ : List PyData → Prop} (h : EvF X B ρ e Ξ) (hi : ∀ ds, Ξ ds → Φ (.list ds)) : EvE X B ρ e Φ :=
  pe_imp h fun σ H Q ⟨E, k⟩ => ⟨E, fun p H' ds vs x _ ok E' hp hn hd hΞ => k _ H' (.list ds) x (E'.unadd ok) (Dn.list.mpr ⟨p, vs, rfl, hp, hn, DnAll.mono (fun y z => .inl (z.imp .inl id)) (fun _ _ e _ => e) _ _ hd⟩) (hi ds hΞ)⟩

/-! ### two-place operations -/
/-- what an operation does to data -/
def OpD (B : Bs) (ρ : Rho) (r : R2) (x y : PyData) (Φ : PyData → Prop) : Prop := ∀ σ H v u Q, En B ρ σ H → Dn (exO B ρ σ) H x v → Dn (exO B ρ σ) H y u →
  (∀ w H' d, Ext B H H' → En B ρ σ H' → Dn (exO B ρ σ) H' d w → Φ d → Q w H') → r v u H Q
theorem ev_op {op : Operator} {r : R2} (ho : OpR X (binaryOp op) r) (h : EvE X B ρ a fun x => EvE X B ρ b fun y => OpD B ρ r x y Φ) : EvE X B ρ (.BinOp a op b pos) Φ :=
  pe_imp (pe_op ho h pe_s) fun σ H Q ⟨E, k⟩ => ⟨E, fun v H1 x e1 E1 d1 hb => ⟨_, hb, E1, fun u H2 y e2 E2 d2 hop =>
    hop σ H2 v u Q E2 (E1.dn e2 d1) d2 fun w H' d e3 E3 d3 hΦ => k w H' d (e1.trans (e2.trans e3)) E3 d3 hΦ⟩⟩
theorem ev_cmp {op : CmpOp} {r : R2} (ho : OpR X (compareOp op) r) (hm : behindInMarks op b = false) (h : EvE X B ρ a fun x => EvE X B ρ b fun y => OpD B ρ r x y Φ) : EvE X B ρ (.Compare a [op] [b] pos) Φ :=
  pe_imp (pe_cmpR ho h pe_s hm) fun σ H Q ⟨E, k⟩ => ⟨E, fun v H1 x e1 E1 d1 hb => ⟨_, hb, E1, fun u H2 y e2 E2 d2 hop =>
    hop σ H2 v u Q E2 (E1.dn e2 d1) d2 fun w H' d e3 E3 d3 hΦ => k w H' d (e1.trans (e2.trans e3)) E3 d3 hΦ⟩⟩
theorem et_cmp {op : CmpOp} {r : R2} (ho : OpR X (compareOp op) r) (hm : behindInMarks op b = false) (h : EvE X B ρ a fun x => EvE X B ρ b fun y => OpD B ρ r x y fun d => ∃ c, d = .bool c ∧ Ψ c) : EvT X B ρ (.Compare a [op] [b] pos) Ψ :=
  pt_imp (pt_cmpR ho h pe_s hm) fun σ H Q ⟨E, k⟩ => ⟨E, fun v H1 x e1 E1 d1 hb => ⟨_, hb, E1, fun u H2 y e2 E2 d2 hop =>
    hop σ H2 v u _ E2 (E1.dn e2 d1) d2 fun w H' d e3 E3 d3 ⟨c, ed, hΨ⟩ => by
      subst ed
      exact ⟨c, Dn.bool.mp d3, k c H' (e1.trans (e2.trans e3)) E3 hΨ⟩⟩⟩
theorem od_i0 {g : Int → Int → Int} {i j : Int} (h : Φ (.int (g i j))) : OpD B ρ (rI0 fun i j => .int (g i j)) (.int i) (.int j) Φ := fun σ H v u Q E d1 d2 k =>
  ⟨i, j, Dn.int.mp d1, Dn.int.mp d2, k _ H _ Ext.refl E (Dn.int.mpr rfl) h⟩
theorem od_ic {C : Int → Int → Prop} {g : Int → Int → Int} {i j : Int} (hc : C i j) (h : Φ (.int (g i j))) : OpD B ρ (rI C fun i j => .int (g i j)) (.int i) (.int j) Φ := fun σ H v u Q E d1 d2 k =>
  ⟨i, j, Dn.int.mp d1, Dn.int.mp d2, hc, k _ H _ Ext.refl E (Dn.int.mpr rfl) h⟩
theorem od_b0 {g : Int → Int → Bool} {i j : Int} (h : Φ (.bool (g i j))) : OpD B ρ (rI0 fun i j => .bl (g i j)) (.int i) (.int j) Φ := fun σ H v u Q E d1 d2 k =>
  ⟨i, j, Dn.int.mp d1, Dn.int.mp d2, k _ H _ Ext.refl E (Dn.bool.mpr rfl) h⟩
/-- == and != of any data -/
theorem od_eq {x y : PyData} (sx : SeqAt.shaped x = true) (sy : SeqAt.shaped y = true) (h : Φ (.bool (PyData.eqv x y))) : OpD B ρ (rEqD X.K) x y Φ := fun σ H v u Q E d1 d2 k =>
  ⟨x, y, Dn.dp x v (PyData.hasDict_of_canLay x (SeqAt.canLay_of_shaped sx)) d1, Dn.dp y u (PyData.hasDict_of_canLay y (SeqAt.canLay_of_shaped sy)) d2, sx, sy, k _ H _ Ext.refl E (Dn.bool.mpr rfl) h⟩
theorem od_ne {x y : PyData} (sx : SeqAt.shaped x = true) (sy : SeqAt.shaped y = true) (h : Φ (.bool (!PyData.eqv x y))) : OpD B ρ (rNeD X.K) x y Φ := fun σ H v u Q E d1 d2 k =>
  ⟨x, y, Dn.dp x v (PyData.hasDict_of_canLay x (SeqAt.canLay_of_shaped sx)) d1, Dn.dp y u (PyData.hasDict_of_canLay y (SeqAt.canLay_of_shaped sy)) d2, sx, sy, k _ H _ Ext.refl E (Dn.bool.mpr rfl) h⟩
/-- xs + ys of lists: as a fresh list -/
theorem ef_cat (h : EvE X B ρ a fun x => EvE X B ρ b fun y => ∃ ds es, x = .list ds ∧ y = .list es ∧ ds.length + es.length ≤ sizeLine ∧ Ξ (ds ++ es)) : EvF X B ρ (.BinOp a .Add b pos) Ξ :=
  pe_imp (pe_op op_cat h pe_s) fun σ H Q ⟨E, k⟩ => ⟨E, fun v H1 x e1 E1 d1 hb => ⟨_, hb, E1, fun u H2 y e2 E2 d2 ⟨ds, es, ex, ey, hl, hΞ⟩ => by
    subst ex ey
    have d1' := E1.dn e2 d1
    obtain ⟨p, xs, rfl, hp, np, r1⟩ := Dn.list.mp d1'
    obtain ⟨q, ys, rfl, hq, nq, r2⟩ := Dn.list.mp d2
    refine ⟨p, q, xs, ys, rfl, rfl, hp, hq, by rw [← r1.length, ← r2.length]; exact hl, fun l hl' => ?_⟩
    refine k l _ (ds ++ es) (xs ++ ys) (e1.trans (e2.trans (Ext.new hl'))) ((e1.trans e2).none E2.ok hl') (E2.ok.new hl') (E2.add hl') upd_same (E2.nx hl') ?_ hΞ
    exact DnAll.append (DnAll.mono (exAdd hl') (fun y o e _ => by rw [upd_ne (ne_of_none e hl')]; exact e) _ _ r1) (DnAll.mono (exAdd hl') (fun y o e _ => by rw [upd_ne (ne_of_none e hl')]; exact e) _ _ r2)⟩⟩
theorem ev_un {op : UnaryOp} {g : Int → Int} (ho : UnR X (unaryOp op) (rU fun i => .int (g i))) (h : EvE X B ρ a fun x => ∃ i, x = .int i ∧ Φ (.int (g i))) : EvE X B ρ (.UnaryOp op a pos) Φ :=
  pe_imp (pe_un ho h) fun σ H Q ⟨E, k⟩ => ⟨E, fun v H1 x e1 E1 d1 ⟨i, ei, hΦ⟩ => by
    subst ei
    exact ⟨i, Dn.int.mp d1, k _ H1 _ e1 E1 (Dn.int.mpr rfl) hΦ⟩⟩

/-! ### tests -/
theorem et_val (h : EvE X B ρ e fun d => ∃ c, d = .bool c ∧ Ψ c) (he : ∀ whole, isTrue e X.env whole = (do let v ← whole; standAt e.pos; holding [v] (truthy v)) := by intro _; rfl) : EvT X B ρ e Ψ :=
  pt_imp (pt_val h he) fun σ H Q ⟨E, k⟩ => ⟨E, fun v H1 x e1 E1 d1 ⟨c, ec, hΨ⟩ => by
    subst ec
    exact ⟨c, Dn.bool.mp d1, k c H1 e1 E1 hΨ⟩⟩
theorem et_mono {Ψ' : Bool → Prop} (h : EvT X B ρ e Ψ) (hi : ∀ c, Ψ c → Ψ' c) : EvT X B ρ e Ψ' := pt_imp h fun σ H Q ⟨E, k⟩ => ⟨E, fun b H' x E' h1 => k b H' x E' (hi b h1)⟩
theorem et_not (h : EvT X B ρ e fun c => Ψ (!c)) : EvT X B ρ (.UnaryOp .Not e pos) Ψ := pt_imp (pt_not h) fun σ H Q ⟨E, k⟩ => ⟨E, fun b H' x E' h1 => k (!b) H' x E' h1⟩
theorem et_w (h : EvW X B ρ e Ψ) : EvT X B ρ e Ψ := PW.pt h
theorem ew_and1 (h : EvT X B ρ a Ψ) : EvW X B ρ (.BoolOp .And [a] pos) Ψ := pw_and1 h
theorem ew_or1 (h : EvT X B ρ a Ψ) : EvW X B ρ (.BoolOp .Or [a] pos) Ψ := pw_or1 h
theorem ew_and (h : EvT X B ρ a fun c => (c = true → EvW X B ρ (.BoolOp .And (b :: es) pos) Ψ) ∧ (c = false → Ψ false)) : EvW X B ρ (.BoolOp .And (a :: b :: es) pos) Ψ :=
  pw_imp (pw_and h pw_s) fun σ H Q ⟨E, k⟩ => ⟨E, fun c H1 e1 E1 h1 => by
    cases c with
    | true => rw [if_pos rfl]; exact ⟨_, h1.1 rfl, E1, fun c H2 e2 E2 h2 => k c H2 (e1.trans e2) E2 h2⟩
    | false => rw [if_neg Bool.false_ne_true]; exact k false H1 e1 E1 (h1.2 rfl)⟩
theorem ew_or (h : EvT X B ρ a fun c => (c = false → EvW X B ρ (.BoolOp .Or (b :: es) pos) Ψ) ∧ (c = true → Ψ true)) : EvW X B ρ (.BoolOp .Or (a :: b :: es) pos) Ψ :=
  pw_imp (pw_or h pw_s) fun σ H Q ⟨E, k⟩ => ⟨E, fun c H1 e1 E1 h1 => by
    cases c with
    | false => rw [if_neg Bool.false_ne_true]; exact ⟨_, h1.1 rfl, E1, fun c H2 e2 E2 h2 => k c H2 (e1.trans e2) E2 h2⟩
    | true => rw [if_pos rfl]; exact k true H1 e1 E1 (h1.2 rfl)⟩
/-- as values: bools -/
theorem ev_one {op} (h : EvE X B ρ a Φ) : EvE X B ρ (.BoolOp op [a] pos) Φ := pe_one h
theorem ev_and (h : EvE X B ρ a fun x => ∃ c, x = .bool c ∧ (c = true → EvE X B ρ (.BoolOp .And (b :: es) pos) Φ) ∧ (c = false → Φ (.bool false))) : EvE X B ρ (.BoolOp .And (a :: b :: es) pos) Φ :=
  pe_imp (pe_and h pe_s) fun σ H Q ⟨E, k⟩ => ⟨E, fun v H1 x e1 E1 d1 ⟨c, ec, h1, h2⟩ => by
    subst ec
    refine ⟨c, Dn.bool.mp d1, ?_⟩
    cases c with
    | true => rw [if_pos rfl]; exact ⟨_, h1 rfl, E1, fun v H2 d e2 E2 d2 h3 => k v H2 d (e1.trans e2) E2 d2 h3⟩
    | false => rw [if_neg Bool.false_ne_true]; exact k _ H1 _ e1 E1 (Dn.bool.mpr rfl) (h2 rfl)⟩
theorem ev_or (h : EvE X B ρ a fun x => ∃ c, x = .bool c ∧ (c = false → EvE X B ρ (.BoolOp .Or (b :: es) pos) Φ) ∧ (c = true → Φ (.bool true))) : EvE X B ρ (.BoolOp .Or (a :: b :: es) pos) Φ :=
  pe_imp (pe_or h pe_s) fun σ H Q ⟨E, k⟩ => ⟨E, fun v H1 x e1 E1 d1 ⟨c, ec, h1, h2⟩ => by
    subst ec
    refine ⟨c, Dn.bool.mp d1, ?_⟩
    cases c with
    | false => rw [if_neg Bool.false_ne_true]; exact ⟨_, h1 rfl, E1, fun v H2 d e2 E2 d2 h3 => k v H2 d (e1.trans e2) E2 d2 h3⟩
    | true => rw [if_pos rfl]; exact k _ H1 _ e1 E1 (Dn.bool.mpr rfl) (h2 rfl)⟩
theorem ev_not (h : EvE X B ρ a fun x => ∃ c, x = .bool c ∧ Φ (.bool (!c))) : EvE X B ρ (.UnaryOp .Not a pos) Φ :=
  pe_imp (pe_not h) fun σ H Q ⟨E, k⟩ => ⟨E, fun v H1 x e1 E1 d1 ⟨c, ec, h1⟩ => by
    subst ec
    exact ⟨c, Dn.bool.mp d1, k _ H1 _ e1 E1 (Dn.bool.mpr rfl) h1⟩⟩
theorem ev_if {c : Expr} (h : EvT X B ρ c fun z => (z = true → EvE X B ρ a Φ) ∧ (z = false → EvE X B ρ b Φ)) : EvE X B ρ (.IfExp c a b pos) Φ :=
  pe_imp (pe_ifExp h pe_s pe_s) fun σ H Q ⟨E, k⟩ => ⟨E, fun z H1 e1 E1 h1 => by
    cases z with
    | true => rw [if_pos rfl]; exact ⟨_, h1.1 rfl, E1, fun v H2 d e2 E2 d2 h3 => k v H2 d (e1.trans e2) E2 d2 h3⟩
    | false => rw [if_neg Bool.false_ne_true]; exact ⟨_, h1.2 rfl, E1, fun v H2 d e2 E2 d2 h3 => k v H2 d (e1.trans e2) E2 d2 h3⟩⟩
theorem ef_if {c : Expr} {Ξ : List PyData → Prop} (h : EvT X B ρ c fun z => (z = true → EvF X B ρ a Ξ) ∧ (z = false → EvF X B ρ b Ξ)) : EvF X B ρ (.IfExp c a b pos) Ξ :=
  pe_imp (pe_ifExp h pe_s pe_s) fun σ H Q ⟨E, k⟩ => ⟨E, fun z H1 e1 E1 h1 => by
    cases z with
    | true => rw [if_pos rfl]; exact ⟨_, h1.1 rfl, E1, fun p H2 ds vs e2 n => k p H2 ds vs (e1.trans e2) (e1.none E1.ok n)⟩
    | false => rw [if_neg Bool.false_ne_true]; exact ⟨_, h1.2 rfl, E1, fun p H2 ds vs e2 n => k p H2 ds vs (e1.trans e2) (e1.none E1.ok n)⟩⟩

/-! ### argument lists, displays -/
theorem ea_nil {Θ : List Sl → Prop} (h : Θ []) : EvA X B ρ [] Θ := pa_imp pa_nil fun σ H Q ⟨E, k⟩ => k [] H [] Ext.refl E rfl h
theorem ea_cons {Θ : List Sl → Prop} (h : EvE X B ρ e fun d => EvA X B ρ es fun ss => Θ (.dat d :: ss)) (hs : starEach (e :: es) X.env = (false, eval e X.env) :: starEach es X.env := by rfl) : EvA X B ρ (e :: es) Θ :=
  pa_imp (pa_cons h pa_s hs) fun σ H Q ⟨E, k⟩ => ⟨E, fun v H1 d e1 E1 d1 h1 => ⟨_, h1, E1, fun vs H2 ss e2 E2 d2 h2 => k (v :: vs) H2 (.dat d :: ss) (e1.trans e2) E2 ⟨v, vs, rfl, E1.slOk e2 (s := .dat d) d1, d2⟩ h2⟩⟩
/-- a slot that is no data: the source, a class -/
theorem ea_raw (i : Nat) {x : Str} {s : Sl} {Θ : List Sl → Prop} (hr : ρ[i]? = some (some s)) (hso : s = .src ∨ ∃ v, s = .raw v) (hN : X.N[i]? = some x) (hv : Vis X.env.scope x) (h : EvA X B ρ es fun ss => Θ (s :: ss))
    (hd : (x == ("__debug__" : Str)) = false := by decide) (hcd : (x == ("__classdict__" : Str)) = false := by decide) (hs : starEach (.Name x pos :: es) X.env = (false, eval (.Name x pos) X.env) :: starEach es X.env := by rfl) : EvA X B ρ (.Name x pos :: es) Θ :=
  pa_imp (pa_cons (pe_var hN hv hd hcd) pa_s hs) fun σ H Q ⟨E, k⟩ => by
    obtain ⟨v, e1, h1⟩ := E.sl i _ hr
    exact ⟨v, e1, _, h, E, fun vs H2 ss e2 E2 d2 h2 => k (v :: vs) H2 (s :: ss) e2 E2 ⟨v, vs, rfl, E.slOk e2 h1, d2⟩ h2⟩
theorem ek_nil {Θ : List Sl → Prop} (h : Θ []) : EvK X B ρ [] Θ := pk_imp pk_nil fun σ H Q ⟨E, k⟩ => k [] H [] Ext.refl E rfl h
theorem ek_cons {Θ : List Sl → Prop} {nm : Option Str} {kws : List Keyword} (h : EvE X B ρ e fun d => EvK X B ρ kws fun ss => Θ (.dat d :: ss)) : EvK X B ρ (⟨nm, e, pos⟩ :: kws) Θ :=
  pk_imp (pk_cons h pk_s) fun σ H Q ⟨E, k⟩ => ⟨E, fun v H1 d e1 E1 d1 h1 => ⟨_, h1, E1, fun vs H2 ss e2 E2 d2 h2 => k (v :: vs) H2 (.dat d :: ss) (e1.trans e2) E2 ⟨v, vs, rfl, E1.slOk e2 (s := .dat d) d1, d2⟩ h2⟩⟩
theorem datAll {xo : Addr → Prop} {H : Hp} : ∀ {ds : List PyData} {vs : List V}, SlAll B xo H (ds.map Sl.dat) vs → DnAll xo H ds vs
  | [], vs, h => DnAll.nil.mpr h
  | d :: ds, vs, h => by
    obtain ⟨v, r, e, h1, h2⟩ := h
    exact DnAll.cons.mpr ⟨v, r, e, h1, datAll h2⟩
/-- the data of a row of slots -/
def datsOf : List Sl → Option (List PyData)
  | [] => some []
  | .dat d :: r => (datsOf r).map (d :: ·)
  | _ :: _ => none
theorem datsOf_eq : ∀ {ss : List Sl} {ds : List PyData}, datsOf ss = some ds → ss = ds.map Sl.dat
  | [], ds, h => by cases h; rfl
  | .dat d :: r, ds, h => by
    unfold datsOf at h
    cases e : datsOf r with
    | none => rw [e] at h; cases h
    | some es =>
      rw [e] at h
      cases h
      rw [datsOf_eq e]
      rfl
  | .own _ :: _, _, h => by cases h
  | .src :: _, _, h => by cases h
  | .raw _ :: _, _, h => by cases h
theorem few {n : Nat} (h : Nat.ble n 1000 = true) : n ≤ sizeLine := Nat.le_trans (Nat.le_of_ble_eq_true h) (by decide)
theorem ev_tup {x1} (h : EvA X B ρ es fun ss => ∃ ds, datsOf ss = some ds ∧ Nat.ble ds.length 1000 = true ∧ Φ (.tuple ds)) : EvE X B ρ (.Tuple es x1 pos) Φ :=
  pe_imp (pe_tup h) fun σ H Q ⟨E, k⟩ => ⟨E, fun vs H1 ss e1 E1 d1 ⟨ds, es', hl, hΦ⟩ => by
    have d := datAll (datsOf_eq es' ▸ d1)
    refine ⟨by rw [← d.length]; exact few hl, fun p hp => k _ _ _ (e1.trans (Ext.new hp)) (E1.new hp) (Dn.tuple.mpr ⟨p, vs, rfl, upd_same, E1.nx hp, E1.dnAll (Ext.new hp) d⟩) hΦ⟩⟩
theorem ef_lst {Ξ : List PyData → Prop} (h : EvA X B ρ es fun ss => ∃ ds, datsOf ss = some ds ∧ Nat.ble ds.length 1000 = true ∧ Ξ ds) : EvF X B ρ (.List es pos) Ξ :=
  pe_imp (pe_lst h) fun σ H Q ⟨E, k⟩ => ⟨E, fun vs H1 ss e1 E1 d1 ⟨ds, es', hl, hΞ⟩ => by
    have d := datAll (datsOf_eq es' ▸ d1)
    refine ⟨by rw [← d.length]; exact few hl, fun p hp => k p _ ds vs (e1.trans (Ext.new hp)) (e1.none E1.ok hp) (E1.ok.new hp) (E1.add hp) upd_same (E1.nx hp) ?_ hΞ⟩
    exact DnAll.mono (exAdd hp) (fun y o e _ => by rw [upd_ne (ne_of_none e hp)]; exact e) _ _ d⟩
/-- a subscript of a list or a tuple by a place -/
theorem ev_ix (hs : PlainIx b) (h : EvE X B ρ a fun x => EvE X B ρ b fun y => ∃ ds i d, (x = .tuple ds ∨ x = .list ds) ∧ y = .int i ∧ atI ds i = some d ∧ Φ d) : EvE X B ρ (.Subscript a b pos) Φ :=
  pe_imp (pe_ix (ix_list.or ix_tup) h pe_s hs) fun σ H Q ⟨E, k⟩ => ⟨E, fun v H1 x e1 E1 d1 hb => ⟨_, hb, E1, fun u H2 y e2 E2 d2 ⟨ds, i, d, ex, ey, hd, hΦ⟩ => by
    subst ey
    have d1' := E1.dn e2 d1
    have at' : ∀ {vs : List V}, DnAll (exO B ρ σ) H2 ds vs → ∃ w, atI vs i = some w ∧ Dn (exO B ρ σ) H2 d w := fun {vs} r => by
      have hl := r.length
      unfold atI at hd ⊢
      cases en : ixN ds.length i with
      | none => rw [en] at hd; cases hd
      | some j =>
        rw [en] at hd
        obtain ⟨w, hw, dw⟩ := r.get (show ds[j]? = some d from hd)
        exact ⟨w, by rw [← hl, en]; exact hw, dw⟩
    rcases ex with rfl | rfl
    · obtain ⟨p, xs, rfl, hp, np, r1⟩ := Dn.tuple.mp d1'
      obtain ⟨w, hw, dw⟩ := at' r1
      exact .inr ⟨p, xs, i, w, rfl, Dn.int.mp d2, SqT.of hp, hw, k _ H2 _ (e1.trans e2) E2 dw hΦ⟩
    · obtain ⟨p, xs, rfl, hp, np, r1⟩ := Dn.list.mp d1'
      obtain ⟨w, hw, dw⟩ := at' r1
      exact .inl ⟨p, xs, i, w, rfl, Dn.int.mp d2, SqL.of hp, hw, k _ H2 _ (e1.trans e2) E2 dw hΦ⟩⟩⟩
end
end Vw

namespace Vw
open PySem PySem.Spec L2
open PyProof.Rows (envOfC)
/-! ### the promise of a def over data -/
def noOwn : List Sl → Bool
  | [] => true
  | .own _ :: _ => false
  | _ :: r => noOwn r
def spB (R : List Sl → (PyData → Prop) → Prop) : Sp := fun vs H Q _ => ∃ (B : Bs) (ss : List Sl) (Φ : PyData → Prop), SlAll B B.ex H ss vs ∧ B.Ok H ∧ R ss Φ ∧
  ∀ v H' d, Ext B H H' → B.Ok H' → Dn B.ex H' d v → Φ d → Q v H'
def Bs.in (B : Bs) (ρ : Rho) (σ : St) : Bs := ⟨B.src, exO B ρ σ⟩
section
variable {B : Bs} {ρ : Rho} {σ : St} {H H' : Hp}
theorem slAll_in : ∀ {ss : List Sl} {vs : List V}, noOwn ss = true → SlAll B (exO B ρ σ) H ss vs → SlAll (B.in ρ σ) (exO B ρ σ) H ss vs
  | [], vs, _, h => h
  | s :: ss, vs, n, h => by
    obtain ⟨v, r, e, h1, h2⟩ := h
    cases s with
    | own ds => cases n
    | dat d => exact ⟨v, r, e, h1, slAll_in n h2⟩
    | src => exact ⟨v, r, e, h1, slAll_in n h2⟩
    | raw u => exact ⟨v, r, e, h1, slAll_in n h2⟩
theorem En.okIn (E : En B ρ σ H) : (B.in ρ σ).Ok H := ⟨fun x hx => E.live hx, fun a b c e => by
  obtain ⟨h, h1, h2, h3⟩ := E.ok.sr a b c e
  exact ⟨h, .inl h1, .inl h2, .inl h3⟩⟩
theorem En.okOut (E : En B ρ σ H) (k : (B.in ρ σ).Ok H') : B.Ok H' := ⟨fun x hx => k.live x (.inl hx), fun a b c e => by
  obtain ⟨h, _⟩ := k.sr a b c e
  obtain ⟨_, h1⟩ := E.ok.sr a b c e
  exact ⟨h, h1⟩⟩
theorem En.call (E : En B ρ σ H) {R : List Sl → (PyData → Prop) → Prop} {Φ : PyData → Prop} {ss : List Sl} {vs : List V} {Q : VK} {X : XK} (hs : SlAll B (exO B ρ σ) H ss vs) (n : noOwn ss = true) (h : R ss Φ)
    (k : ∀ v H' d, Ext B H H' → En B ρ σ H' → Dn (exO B ρ σ) H' d v → Φ d → Q v H') : spB R vs H Q X :=
  ⟨B.in ρ σ, ss, Φ, slAll_in n hs, E.okIn, h, fun v H' d x ok hd hΦ => k v H' d x (E.ext x (E.okOut ok)) hd hΦ⟩
end
/-! ### defs: as HandS has them, but with the guards known (repr wants them) -/
structure Rm (k : Nat) (A : Around) : Prop where
  r : Room k A
  g : A.guards = some []
theorem Rm.mono {j k : Nat} {A : Around} (h : Rm k A) (l : j ≤ k) : Rm j A := ⟨h.r.mono l, h.g⟩
/-- a def's promise, asked where nothing is shown -/
structure Fg (P : Program) (w : World) (K : PySem.W.Frag) (mg : Str → Option Value) (base : Heap) (cx : CXT) (k : Nat) (f : Addr) (fd : FuncData) (ps : List Str) (sp : Sp) : Prop where
  len : ∀ vs H Q E, sp vs H Q E → vs.length = ps.length
  run : ∀ (A : Around) (out : List Env) (s : Shared) (H : Hp) (ar : Args) (us : List Value) (vs : List V) (Q : VK) (E : XK), Rm k A → Env0 P w K mg base A out s H →
    BindsTo s fd ar (ps.zip us) → Vals vs us → sp vs H Q E → codeAny (model P w) A (.call (.ref f) ar) (CR cx out P w H s Q E) s
section
variable {X : Cx} {cx : CXT} {k : Nat} {f : Addr} {fd : FuncData} {ps : List Str} {sp : Sp} {ds : List Value} {dvs : List V} {E : XK}
/-- behind a call: what came of it -/
theorem back {pins : List (Addr × Obj)} {σ : St} {H : Hp} {s s' : Shared} {Q : VK} {r : Result} (hx : Passes cx X E) (I : Inv X pins σ H s) (h : CR cx X.stack X.prog X.w H s Q E r s') :
    (∃ u, r = .ok (.ret u) ∧ EP X pins σ Q u s') ∨ ∃ e, r = .error e ∧ X.xe e s' := by
  cases r with
  | error e => exact .inr ⟨e, rfl, hx pins σ H s e s' I h⟩
  | ok fl =>
    cases fl with
    | ret u => exact .inl ⟨u, rfl, I.after h⟩
    | next => exact h.elim
    | brk => exact h.elim
    | cont => exact h.elim
theorem call_fg {pins : List (Addr × Obj)} {σ : St} {H : Hp} {s : Shared} {Q : VK} {us : List Value} {vs : List V} (F : Fg X.prog X.w X.K X.mg X.base cx k f fd ps sp) (hr : Rm k X.A) (hb : Binds X.K fd ps ds) (hd : Vals dvs ds) (hx : Passes cx X E)
    (I : Inv X pins σ H s) (rv : Vals vs us) (h : sp (vs ++ dvs) H Q E) : wpAny (model X.prog X.w) X.A (call (.ref f) us) (EP X pins σ Q) X.xe s := by
  have ra := rv.append hd
  have la : (us ++ ds).length = ps.length := ra.length.symm.trans (F.len _ _ _ _ h)
  refine wpAny_call (codeAny_mono (F.run X.A X.stack s H _ _ _ Q E hr I.env0 (hb s us I.kIn la) ra h) fun r s' hq => ?_)
  rcases back hx I hq with ⟨u, rfl, h2⟩ | ⟨e, rfl, h2⟩
  · exact h2
  · exact h2
theorem call_fgN {n : Nat} {ks : List Str} {g : List Value → List Value → List Value} {gV : List V → List V → List V} {pins : List (Addr × Obj)} {σ : St} {H : Hp} {s : Shared} {Q : VK} {us ws : List Value} {vs zs : List V}
    (F : Fg X.prog X.w X.K X.mg X.base cx k f fd ps sp) (hr : Rm k X.A) (hb : KBn X.K fd ps n ks g gV) (hx : Passes cx X E)
    (I : Inv X pins σ H s) (rv : Vals vs us) (rz : Vals zs ws) (lv : vs.length = n) (lz : zs.length = ks.length) (h : sp (gV vs zs) H Q E) : wpAny (model X.prog X.w) X.A (call (.ref f) us (ks.zip ws)) (EP X pins σ Q) X.xe s := by
  refine wpAny_call (codeAny_mono (F.run X.A X.stack s H _ _ _ Q E hr I.env0 (hb.to s us ws I.kIn (rv.length.symm.trans lv) (rz.length.symm.trans lz)) (hb.rel rv rz) h) fun r s' hq => ?_)
  rcases back hx I hq with ⟨u, rfl, h2⟩ | ⟨e, rfl, h2⟩
  · exact h2
  · exact h2
end
/-- a def of the text keeps its promise -/
theorem fg_of {P : Program} {w : World} {K : PySem.W.Frag} {mg : Str → Option Value} {base : Heap} {cx : CXT} {x qual : Str} {st : Stmt} {f : Addr} {fd : FuncData} {N ps : List Str} {k : Nat} {sp : Sp} (F : Fun K x qual st f fd) (S : FnScope N ps (defScope st))
    (len : ∀ vs H Q E, sp vs H Q E → vs.length = ps.length)
    (body : ∀ (cdv : Value) (A : Around) (out : List Env) (s : Shared) (H : Hp) (vs : List V) (Q : VK) (E : XK), Rm k (A.deeper (envOfC qual (defScope st) s.heap.objs.size f cdv)) → sp vs H Q E →
      ∃ t, PSs (cxOf cx P w K mg base N qual (defScope st) f cdv A out s H E) (defBody st) t ∧ t { nx := fun _ H' => Q .non H', rt := Q } (start N vs) H) : Fg P w K mg base cx (k + 1) f fd ps sp := by
  obtain ⟨oc, od, kV, doc, pm, an, cdv, ct, osl, rfl, lk, hcd⟩ := F.ex
  refine ⟨len, fun A out s H ar us vs Q E hr e0 hb rv hsp => ?_⟩
  have inK : K.In s.heap := e0.mod.kin.keeps fun b o e => (e0.bs b o e).1
  have lims : s.heap.NoLimit := e0.mod.nolimit.keeps fun b o e => (e0.bs b o e).1
  have kinds : ∀ y ∈ ps.zip us, (defScope st).names.lookup y.1 = some .local ∨ ((defScope st).names.lookup y.1 = some .cell ∧ ((cellsFrom (s.heap.objs.size + 1) (defScope st).names []).lookup y.1).isSome = true) := fun y hy =>
    (S.par y.1 (List.of_mem_zip hy).1).imp id fun q => ⟨q, PySem.W.cellsFrom_some _ _ _ (.inl q)⟩
  refine codeAny_call_function hr.r.depth (inK _ _ lk) rfl S.co S.gen rfl (PySem.W.codeRec_of inK hcd) (hb _ _ _ _ ?_)
  refine wpAny_newFunctionEnv_cells S.kind kinds fun en he s1 x1 => ?_
  subst he
  refine ⟨lims.keeps x1.toInCall.keep, codeAny_func ?_⟩
  obtain ⟨t, ht, hq⟩ := body cdv A out s H vs Q E ⟨hr.r.deeper _, hr.g⟩ hsp
  have J : Inv (cxOf cx P w K mg base N qual (defScope st) f cdv A out s H E) [] (start N vs) H s1 := inv_start S hr.r.hd e0 (len _ _ _ _ hsp) rv x1
  refine wpAny_mono (ht.run [] s1 (start N vs) H _ J hq) (fun fl s' hs => ?_) fun e s' hs => hs
  cases fl with
  | ret u =>
    obtain ⟨v, σ', H', J', rv', q⟩ := hs
    exact ⟨v, H', J'.os, J'.bare, J'.base, J'.hok, rv', q⟩
  | next =>
    obtain ⟨σ', H', J', q⟩ := hs
    exact ⟨.non, H', J'.os, J'.bare, J'.base, J'.hok, rfl, q⟩
  | brk =>
    obtain ⟨_, _, _, q⟩ := hs
    exact q.elim
  | cont =>
    obtain ⟨_, _, _, q⟩ := hs
    exact q.elim
/-- a def as callers know it -/
structure Fi (P : Program) (w : World) (K : PySem.W.Frag) (mg : Str → Option Value) (base : Heap) (k : Nat) (x : Str) (st : Stmt) (ps : List Str) (R : List Sl → (PyData → Prop) → Prop) : Prop where
  ex : ∃ (f : Addr) (fd : FuncData), Fun K x x st f fd ∧ Fg P w K mg base CX0 k f fd ps (spB R) ∧ mg x = some (.ref f) ∧ Binds K fd ps []
section
variable {X : Cx} {B : Bs} {ρ : Rho} {k : Nat} {x : Str} {st : Stmt} {ps : List Str} {R : List Sl → (PyData → Prop) → Prop} {e : Expr} {es : List Expr} {p pos : Pos} {Φ : PyData → Prop}
theorem ev_call (F : Fi X.prog X.w X.K X.mg X.base k x st ps R) (hr : Rm k X.A) (hg : Gl X x) (h : EvA X B ρ (e :: es) fun ss => noOwn ss = true ∧ R ss Φ)
    (hdb : (x == ("__debug__" : Str)) = false := by decide) (he : starEach (e :: es) X.env = (false, eval e X.env) :: starEach es X.env := by rfl) (hpl : (backTo pos (starEach es X.env)).any (·.1) = false := by rfl) :
    EvE X B ρ (.Call (.Name x p) (e :: es) [] pos) Φ := by
  obtain ⟨f, fd, F1, F2, hm, hb⟩ := F.ex
  refine ⟨fun pins s σ H Q I hq => ?_⟩
  obtain ⟨E, c⟩ := hq
  refine wpAny_Call_Name_kw (ld_glob I hg hm ?_ hdb)
  refine PySem.W.callWith_K (h₀ := X.base) I.ok.mod.kin F1.kp (thn (h.run pos pins s σ H (fun vs H1 => ∃ ss, Ext B H H1 ∧ En B ρ σ H1 ∧ SlAll B (exO B ρ σ) H1 ss vs ∧ noOwn ss = true ∧ R ss Φ) I ⟨E, fun vs H1 ss e1 E1 d1 h1 => ⟨ss, e1, E1, d1, h1⟩⟩)
    fun us s1 ⟨vs, H1, I1, rv, ss, e1, E1, d1, n, hR⟩ => ⟨I1.kIn, ?_⟩) he hpl
  refine call_fg (E := E0) F2 hr hb .nil pass0 I1 rv ?_
  rw [List.append_nil]
  exact E1.call d1 n hR fun v H' d x E' hd hΦ => c v H' d (e1.trans x) E' hd hΦ
theorem ev_call0 (F : Fi X.prog X.w X.K X.mg X.base k x st ps R) (hr : Rm k X.A) (hg : Gl X x) (h : R [] Φ) (hdb : (x == ("__debug__" : Str)) = false := by decide) : EvE X B ρ (.Call (.Name x p) [] [] pos) Φ := by
  obtain ⟨f, fd, F1, F2, hm, hb⟩ := F.ex
  refine ⟨fun pins s σ H Q I hq => ?_⟩
  obtain ⟨E, c⟩ := hq
  refine wpAny_Call_Name_kw (ld_glob I hg hm ?_ hdb)
  refine PySem.W.callWith_K0 I.kIn F1.kp (call_fg (us := []) (vs := []) (E := E0) F2 hr hb .nil pass0 I .nil ?_)
  exact E.call (ss := []) (vs := []) (X := E0) rfl rfl h fun v H' d x E' hd hΦ => c v H' d x E' hd hΦ
/-- f(k = v, ..): keywords alone; pm: the place among the keywords of each parameter -/
def pick {α : Type} (pm : List Nat) (l : List α) : List α := pm.filterMap fun i => l[i]?
theorem pick_vals {vs : List V} {us : List Value} (r : Vals vs us) : ∀ pm : List Nat, Vals (pick pm vs) (pick pm us)
  | [] => .nil
  | i :: pm => by
    have ih := pick_vals r pm
    unfold pick at ih ⊢
    rw [List.filterMap_cons, List.filterMap_cons]
    cases e : vs[i]? with
    | none => rw [r.none_of e]; exact ih
    | some v =>
      obtain ⟨u, hu, ru⟩ := r.get e
      rw [hu]
      exact .cons ru ih
theorem slAll_get {xo : Addr → Prop} {H : Hp} : ∀ {ss : List Sl} {vs : List V} {i : Nat} {s : Sl}, SlAll B xo H ss vs → ss[i]? = some s → ∃ v, vs[i]? = some v ∧ SlOk B xo H s v
  | [], _, _, _, _, e => by simp at e
  | s :: ss, vs, 0, s', h, e => by
    obtain ⟨v, r, rfl, h1, h2⟩ := h
    simp at e; subst e
    exact ⟨v, rfl, h1⟩
  | s :: ss, vs, i + 1, s', h, e => by
    obtain ⟨v, r, rfl, h1, h2⟩ := h
    obtain ⟨u, e1, h3⟩ := slAll_get (i := i) h2 (by simpa using e)
    exact ⟨u, by simpa using e1, h3⟩
theorem pick_sl {xo : Addr → Prop} {H : Hp} {ss : List Sl} {vs : List V} (h : SlAll B xo H ss vs) : ∀ pm : List Nat, SlAll B xo H (pick pm ss) (pick pm vs)
  | [] => rfl
  | i :: pm => by
    have ih := pick_sl h pm
    unfold pick at ih ⊢
    rw [List.filterMap_cons, List.filterMap_cons]
    cases e : ss[i]? with
    | none =>
      have hl := slAll_length h
      rw [List.getElem?_eq_none (l := vs) (by rw [hl]; exact List.getElem?_eq_none_iff.mp e)]
      exact ih
    | some s =>
      obtain ⟨v, hv, hs⟩ := slAll_get h e
      rw [hv]
      exact ⟨v, _, rfl, hs, ih⟩
theorem ev_callK {kws : List Keyword} (ks : List Str) (pm : List Nat) (F : Fi X.prog X.w X.K X.mg X.base k x st ps R) (hr : Rm k X.A) (hg : Gl X x)
    (hb : ∀ (kV doc pm' : Value) (an : Option Addr) (cdv ct : Value) (ws : List Value), ws.length = ks.length → bindArgs (PySem.W.fnOf x x (defArgs st) (defBody st) (defScope st) .none kV doc pm' an cdv ct) ⟨[], ks.zip ws⟩ = pure (ps.zip (pick pm ws)))
    (h : EvK X B ρ kws fun ss => ss.length = ks.length ∧ noOwn (pick pm ss) = true ∧ R (pick pm ss) Φ)
    (hall : (backToKw pos (keywordEach kws X.env)).all (·.1.isSome) = true := by rfl) (hks : (backToKw pos (keywordEach kws X.env)).filterMap (·.1) = ks := by rfl)
    (hdb : (x == ("__debug__" : Str)) = false := by decide)
    (hpl : ((backTo pos (starEach [] X.env)).any (·.1) || (backToKw pos (keywordEach kws X.env)).any (·.1.isNone)) = false := by rfl) :
    EvE X B ρ (.Call (.Name x p) [] kws pos) Φ := by
  obtain ⟨f, fd, F1, F2, hm, _⟩ := F.ex
  have KB : KBn X.K fd ps 0 ks (fun us ws => pick pm ws) (fun vs zs => pick pm zs) := by
    obtain ⟨oc, od, kV, doc, pm', an, cdv, ct, osl, rfl, lk, hcd⟩ := F1.ex
    refine ⟨fun s us ws hX l1 l2 => ?_, fun r1 r2 => pick_vals r2 pm⟩
    obtain rfl : us = [] := List.length_eq_zero_iff.mp l1
    exact .of_eq (hb kV doc pm' an cdv ct ws l2)
  refine ⟨fun pins s σ H Q I h' => ?_⟩
  obtain ⟨E, c⟩ := h'
  refine wpAny_Call_Name_kw (ld_glob I hg hm ?_ hdb)
  refine PySem.W.callWith_KW0 (h₀ := X.base) I.ok.mod.kin F1.kp hall ?_ hpl
  refine thn (h.run pos pins s σ H (fun vs H1 => ∃ ss, Ext B H H1 ∧ En B ρ σ H1 ∧ SlAll B (exO B ρ σ) H1 ss vs ∧ ss.length = ks.length ∧ noOwn (pick pm ss) = true ∧ R (pick pm ss) Φ) I ⟨E, fun vs H1 ss e1 E1 d1 h1 => ⟨ss, e1, E1, d1, h1⟩⟩)
    fun ws s2 ⟨zs, H2, I2, rz, ss, e1, E1, d1, hl, n, hR⟩ => ⟨I2.kIn, ?_⟩
  rw [hks]
  refine call_fgN (us := []) (vs := []) (E := E0) F2 hr KB pass0 I2 .nil rz rfl ((slAll_length d1).trans hl) ?_
  exact E1.call (pick_sl d1 pm) n hR fun v H' d x E' hd hΦ => c v H' d (e1.trans x) E' hd hΦ
/-! ### built-in functions -/
def CallD (B : Bs) (ρ : Rho) (r : List V → Hp → VK → Prop) (ss : List Sl) (Φ : PyData → Prop) : Prop := ∀ σ H vs Q, En B ρ σ H → SlAll B (exO B ρ σ) H ss vs →
  (∀ w H' d, Ext B H H' → En B ρ σ H' → Dn (exO B ρ σ) H' d w → Φ d → Q w H') → r vs H Q
variable {id T : String} {r : List V → Hp → VK → Prop}
theorem ev_callB (hc : CallR X (.builtin id) r) (hg : Gl X x) (hm : X.mg x = none) (hv : bootBuiltins x = some (.builtin id)) (h : EvA X B ρ (e :: es) fun ss => CallD B ρ r ss Φ) (hn : x ≠ "__name__" := by decide) (hdb : (x == ("__debug__" : Str)) = false := by decide)
    (he : starEach (e :: es) X.env = (false, eval e X.env) :: starEach es X.env := by rfl) (hpl : (backTo pos (starEach es X.env)).any (·.1) = false := by rfl) : EvE X B ρ (.Call (.Name x p) (e :: es) [] pos) Φ :=
  pe_imp (pe_callB hc hg hm hv h hn hdb he hpl) fun σ H Q ⟨E, k⟩ => ⟨E, fun vs H1 ss e1 E1 d1 hC => hC σ H1 vs Q E1 d1 fun w H' d e2 E2 d2 hΦ => k w H' d (e1.trans e2) E2 d2 hΦ⟩
theorem ev_callTy (hc : CallR X (.type T) r) (hg : Gl X x) (hm : X.mg x = none) (hv : bootBuiltins x = some (.type T)) (h : EvA X B ρ (e :: es) fun ss => CallD B ρ r ss Φ) (hn : x ≠ "__name__" := by decide) (hdb : (x == ("__debug__" : Str)) = false := by decide)
    (he : starEach (e :: es) X.env = (false, eval e X.env) :: starEach es X.env := by rfl) (hpl : (backTo pos (starEach es X.env)).any (·.1) = false := by rfl) : EvE X B ρ (.Call (.Name x p) (e :: es) [] pos) Φ :=
  pe_imp (pe_callTy hc hg hm hv h hn hdb he hpl) fun σ H Q ⟨E, k⟩ => ⟨E, fun vs H1 ss e1 E1 d1 hC => hC σ H1 vs Q E1 d1 fun w H' d e2 E2 d2 hΦ => k w H' d (e1.trans e2) E2 d2 hΦ⟩
theorem ev_callBf (hc : CallR X (.builtin id) r) (hg : Gl X x) (hm : X.mg x = some (.builtin id)) (h : EvA X B ρ (e :: es) fun ss => CallD B ρ r ss Φ) (hdb : (x == ("__debug__" : Str)) = false := by decide)
    (he : starEach (e :: es) X.env = (false, eval e X.env) :: starEach es X.env := by rfl) (hpl : (backTo pos (starEach es X.env)).any (·.1) = false := by rfl) : EvE X B ρ (.Call (.Name x p) (e :: es) [] pos) Φ :=
  pe_imp (pe_callBfun hc hg hm h hdb he hpl) fun σ H Q ⟨E, k⟩ => ⟨E, fun vs H1 ss e1 E1 d1 hC => hC σ H1 vs Q E1 d1 fun w H' d e2 E2 d2 hΦ => k w H' d (e1.trans e2) E2 d2 hΦ⟩
theorem sl1 {xo : Addr → Prop} {H : Hp} {s : Sl} {vs : List V} (h : SlAll B xo H [s] vs) : ∃ v, vs = [v] ∧ SlOk B xo H s v := by
  obtain ⟨v, r, e, h1, h2⟩ := h
  rw [show r = [] from h2] at e
  exact ⟨v, e, h1⟩
theorem sl2 {xo : Addr → Prop} {H : Hp} {s t : Sl} {vs : List V} (h : SlAll B xo H [s, t] vs) : ∃ v u, vs = [v, u] ∧ SlOk B xo H s v ∧ SlOk B xo H t u := by
  obtain ⟨v, r, e, h1, h2⟩ := h
  obtain ⟨u, e2, h3⟩ := sl1 h2
  rw [e2] at e
  exact ⟨v, u, e, h1, h3⟩
theorem sdi {xo : Addr → Prop} {H : Hp} {i : Int} {v : V} (h : SlOk B xo H (.dat (.int i)) v) : v = .int i := (Dn.int (ex := xo) (H := H)).mp h
theorem cd_gcd {a b : Int} (h : Φ (.int (Nat.gcd a.natAbs b.natAbs : Nat))) : CallD B ρ rGcd [.dat (.int a), .dat (.int b)] Φ := fun σ H vs Q E hs k => by
  obtain ⟨v, u, rfl, h1, h2⟩ := sl2 hs
  rw [sdi h1, sdi h2]
  exact ⟨a, b, rfl, k _ H _ Ext.refl E (Dn.int.mpr rfl) h⟩
theorem cd_abs {a : Int} (h : Φ (.int (if a < 0 then -a else a))) : CallD B ρ (fun xs H Q => ∃ i, xs = [V.int i] ∧ Q (.int (if i < 0 then -i else i)) H) [.dat (.int a)] Φ := fun σ H vs Q E hs k => by
  obtain ⟨v, rfl, h1⟩ := sl1 hs
  rw [sdi h1]
  exact ⟨a, rfl, k _ H _ Ext.refl E (Dn.int.mpr rfl) h⟩
theorem cd_int {a : Int} (h : Φ (.int a)) : CallD B ρ (fun xs H Q => (∃ i, xs = [V.int i] ∧ Q (.int i) H) ∨ ∃ k, xs = [V.bl k] ∧ Q (.int (if k then 1 else 0)) H) [.dat (.int a)] Φ := fun σ H vs Q E hs k => by
  obtain ⟨v, rfl, h1⟩ := sl1 hs
  rw [sdi h1]
  exact .inl ⟨a, rfl, k _ H _ Ext.refl E (Dn.int.mpr rfl) h⟩
theorem cd_len {ds : List PyData} {d : PyData} (hd : d = .list ds ∨ d = .tuple ds) (h : Φ (.int ds.length)) : CallD B ρ (fun xs H Q => ∃ x n, xs = [x] ∧ LenV X.K x H n ∧ Q (.int n) H) [.dat d] Φ := fun σ H vs Q E hs k => by
  obtain ⟨v, rfl, h1⟩ := sl1 hs
  rcases hd with rfl | rfl
  · obtain ⟨a, xs, rfl, ha, _, r⟩ := Dn.list.mp h1
    exact ⟨_, xs.length, rfl, .inl ⟨xs, SqL.of ha, rfl⟩, k _ H (.int ds.length) Ext.refl E (by rw [← r.length]; exact Dn.int.mpr rfl) h⟩
  · obtain ⟨a, xs, rfl, ha, _, r⟩ := Dn.tuple.mp h1
    exact ⟨_, xs.length, rfl, .inr ⟨xs, SqT.of ha, rfl⟩, k _ H (.int ds.length) Ext.refl E (by rw [← r.length]; exact Dn.int.mpr rfl) h⟩
/-- divmod by a divisor of some size -/
def rDm : List V → Hp → VK → Prop := fun xs H Q => ∃ i j, xs = [V.int i, .int j] ∧ CDivW i j ∧ ∀ p, H p = none → Q (.ref p) (upd H p (.tup [.int (i / j), .int (i % j)]))
theorem call_divmodW : CallR X (.builtin "divmod") rDm := by
  intro pins s σ H xs us Q I r h
  obtain ⟨i, j, rfl, ⟨h1, h2⟩, q⟩ := h
  obtain ⟨u, w', rfl, ⟨t, rfl⟩, ⟨t', rfl⟩⟩ := vals2 r
  refine PyProof.Rows.divmod_int (by omega) ?_ (.inl (PyProof.noPylong_of_log2 h2))
  rw [Int.fdiv_eq_ediv_of_nonneg i (by omega), Int.fmod_eq_emod_of_nonneg i (by omega)]
  have hn : H s.heap.objs.size = none := I.hok.fresh (Nat.le_refl _)
  refine ⟨.ref s.heap.objs.size, _, ?_, rfl, q _ hn⟩
  refine I.laid (fun b o e => Heap.get?_push_of_some _ e) (Nat.le_refl _) ⟨by simp only [List.length_cons, List.length_nil]; rw [sizeLine_eq]; decide, [.int (i / j) s.toks, .int (i % j) (s.toks + 1)], .cons ⟨_, rfl⟩ (.cons ⟨_, rfl⟩ .nil), ?_⟩
  exact ⟨_, Heap.get?_push_size s.heap rfl, rfl, 0, rfl⟩
theorem cd_divmod {a b : Int} (hc : CDivW a b) (h : Φ (.tuple [.int (a / b), .int (a % b)])) : CallD B ρ rDm [.dat (.int a), .dat (.int b)] Φ := fun σ H vs Q E hs k => by
  obtain ⟨v, u, rfl, h1, h2⟩ := sl2 hs
  rw [sdi h1, sdi h2]
  refine ⟨a, b, rfl, hc, fun p hp => k _ _ (.tuple [.int (a / b), .int (a % b)]) (Ext.new hp) (E.new hp) (Dn.tuple.mpr ⟨p, _, rfl, upd_same, E.nx hp, ?_⟩) h⟩
  exact DnAll.cons.mpr ⟨_, _, rfl, Dn.int.mpr rfl, DnAll.cons.mpr ⟨_, _, rfl, Dn.int.mpr rfl, DnAll.nil.mpr rfl⟩⟩
/-! ### what repr reads -/
mutual
/-- no list in it, and dicts of such -/
def flatD : PyData → Bool
  | .list _ => false
  | .tuple ds => flatDAll ds
  | .dict kvs => flatDKv kvs
  | _ => true
def flatDAll : List PyData → Bool
  | [] => true
  | d :: ds => flatD d && flatDAll ds
def flatDKv : List (PyData × PyData) → Bool
  | [] => true
  | (_, d) :: ds => flatD d && flatDKv ds
end
theorem reads_key {h : Heap} {key : Key} {u : Value} (r : keyIs key u = true) : Reads h u (kD key) [] := by
  rcases keyIs_shape r with ⟨i, t, rfl, rfl⟩ | ⟨x, t, rfl, rfl⟩
  · exact Reads.int i t
  · exact Reads.str x t
theorem reads_keys (P : Program) (w : World) {h : Heap} : ∀ {ks : List Key} {us : List Value}, Vals (ks.map kV) us → ReadsAll h us (ks.map kD) []
  | [], _, r => by cases r; exact ReadsAll.nil
  | k :: ks, _, r => by
    cases r with
    | cons r1 r2 => exact ReadsAll.cons (as := []) (bs := []) (reads_key (show keyIs k _ = true from kV_is (P := P) (w := w) r1)) (reads_keys P w r2)
section
variable {X : Cx} {pins : List (Addr × Obj)} {σ : St} {H : Hp} {s : Shared} {ex : Addr → Prop}
mutual
theorem Dn.reads (I : Inv X pins σ H s) : ∀ (d : PyData) (v : V) (u : Value), Dn ex H d v → RelV v u → ∃ as, Reads s.heap u d as ∧ (flatD d = true → sysModules ∉ as)
  | .none, v, u, h, r => by rw [Dn.none.mp h] at r; cases r; exact ⟨_, Reads.none, by simp⟩
  | .bool b, v, u, h, r => by rw [Dn.bool.mp h] at r; cases r; exact ⟨_, Reads.bool b, by simp⟩
  | .int i, v, u, h, r => by rw [Dn.int.mp h] at r; obtain ⟨t, rfl⟩ := r; exact ⟨_, Reads.int i t, by simp⟩
  | .str x, v, u, h, r => by rw [Dn.str.mp h] at r; obtain ⟨t, rfl⟩ := r; exact ⟨_, Reads.str x t, by simp⟩
  | .list ds, v, u, h, r => by
    obtain ⟨a, xs, rfl, ha, _, hd⟩ := Dn.list.mp h
    cases r
    obtain ⟨its, rv, ⟨o, n, ho, hc, _, he⟩, _⟩ := I.list (SqL.of (K := X.K) ha)
    obtain ⟨as, q1, q2⟩ := DnAll.reads I ds xs its hd rv
    exact ⟨_, Reads.list ho hc he q1, fun z => by unfold flatD at z; cases z⟩
  | .tuple ds, v, u, h, r => by
    obtain ⟨a, xs, rfl, ha, _, hd⟩ := Dn.tuple.mp h
    cases r
    obtain ⟨its, rv, ⟨o, ho, hc, n, he⟩, _⟩ := I.tuple (SqT.of (K := X.K) ha)
    obtain ⟨as, q1, q2⟩ := DnAll.reads I ds xs its hd rv
    exact ⟨_, Reads.tuple ho hc he q1, fun z => q2 (by unfold flatD at z; exact z)⟩
  | .dict kvs, v, u, h, r => by
    obtain ⟨a, rfl, _, ⟨L, ha, hd⟩ | ⟨L, ha, hd⟩⟩ := Dn.dict.mp h
    · cases r
      obtain ⟨_, ns, vs, kv, o, es, ep, ho, hx, he, _, hp, _⟩ := dk_of I.hok ha
      obtain ⟨as, bs, q1, q2, q3, q4⟩ := DnKv.reads I kvs L es.toList vs hd kv hp
      refine ⟨_, Reads.dict ho hx.1 he q1 q2, fun z => ?_⟩
      simp only [List.mem_cons, List.mem_append, not_or]
      refine ⟨⟨fun e => ?_, q3⟩, q4 (by unfold flatD at z; exact z)⟩
      rw [← e] at ns
      simp at ns
    · cases r
      obtain ⟨_, ns, xs, kt, o, es, ep, ho, hx, he, he2, _⟩ := dt_of I.hok ha
      obtain ⟨as, bs, q1, q2, q3, q4⟩ := DnKt.reads I kvs L xs hd kt
      have w1 : es.toList.map (·.key) = xs.map fun x => Value.ref x.2.1 := by rw [he2, List.map_map]; rfl
      have w2 : es.toList.map (·.val) = xs.map fun x => x.2.2 := by rw [he2, List.map_map]; rfl
      rw [← w1] at q1
      rw [← w2] at q2
      refine ⟨_, Reads.dict ho hx.1 he q1 q2, fun z => ?_⟩
      simp only [List.mem_cons, List.mem_append, not_or]
      refine ⟨⟨fun e => ?_, q3⟩, q4 (by unfold flatD at z; exact z)⟩
      rw [← e] at ns
      simp at ns
theorem DnAll.reads (I : Inv X pins σ H s) : ∀ (ds : List PyData) (vs : List V) (us : List Value), DnAll ex H ds vs → Vals vs us → ∃ as, ReadsAll s.heap us ds as ∧ (flatDAll ds = true → sysModules ∉ as)
  | [], vs, us, h, r => by rw [DnAll.nil.mp h] at r; cases r; exact ⟨_, ReadsAll.nil, by simp⟩
  | d :: ds, vs, us, h, r => by
    obtain ⟨v, w, rfl, h1, h2⟩ := DnAll.cons.mp h
    cases r with
    | cons r1 r2 =>
      obtain ⟨as, q1, n1⟩ := Dn.reads I d _ _ h1 r1
      obtain ⟨bs, q2, n2⟩ := DnAll.reads I ds _ _ h2 r2
      refine ⟨_, ReadsAll.cons q1 q2, fun z => ?_⟩
      unfold flatDAll at z
      obtain ⟨z1, z2⟩ := Bool.and_eq_true_iff.mp z
      simp only [List.mem_append, not_or]
      exact ⟨n1 z1, n2 z2⟩
theorem DnKv.reads (I : Inv X pins σ H s) : ∀ (ds : List (PyData × PyData)) (L : List (Key × V)) (es : List DictEntry) (vs : List (Key × Value)), DnKv ex H ds L → KV L vs → Pairs (mixKind X.prog X.w) es vs →
    ∃ as bs, ReadsAll s.heap (es.map (·.key)) (ds.map (·.1)) as ∧ ReadsAll s.heap (es.map (·.val)) (ds.map (·.2)) bs ∧ sysModules ∉ as ∧ (flatDKv ds = true → sysModules ∉ bs)
  | [], L, es, vs, h, r, p => by
    rw [DnKv.nil.mp h] at r
    cases r
    cases p
    exact ⟨_, _, ReadsAll.nil, ReadsAll.nil, by simp, by simp⟩
  | (k, d) :: ds, L, es, vs, h, r, p => by
    obtain ⟨key, v, w, rfl, rfl, h1, h2⟩ := DnKv.cons.mp h
    cases r with
    | cons r1 r2 =>
      cases p with
      | cons p1 p2 p3 =>
        obtain ⟨e1, e2⟩ := r1
        obtain ⟨bs, q2, n2⟩ := Dn.reads I d _ _ h1 e2
        obtain ⟨as, cs, q3, q4, n3, n4⟩ := DnKv.reads I ds _ _ _ h2 r2 p3
        rw [← e1] at p1
        rw [← p2] at q2
        refine ⟨_, _, ReadsAll.cons (reads_key p1) q3, ReadsAll.cons q2 q4, by simpa using n3, fun z => ?_⟩
        unfold flatDKv at z
        obtain ⟨z1, z2⟩ := Bool.and_eq_true_iff.mp z
        simp only [List.mem_append, not_or]
        exact ⟨n2 z1, n4 z2⟩
theorem DnKt.reads (I : Inv X pins σ H s) : ∀ (ds : List (PyData × PyData)) (L : List (List Key × V)) (xs : List (List Key × Addr × Value)), DnKt ex H ds L → KT H L xs →
    ∃ as bs, ReadsAll s.heap (xs.map fun x => Value.ref x.2.1) (ds.map (·.1)) as ∧ ReadsAll s.heap (xs.map fun x => x.2.2) (ds.map (·.2)) bs ∧ sysModules ∉ as ∧ (flatDKv ds = true → sysModules ∉ bs)
  | [], L, xs, h, r => by
    rw [DnKt.nil.mp h] at r
    cases r
    exact ⟨_, _, ReadsAll.nil, ReadsAll.nil, by simp, by simp⟩
  | (k, d) :: ds, L, xs, h, r => by
    obtain ⟨key, v, w, rfl, rfl, h1, h2⟩ := DnKt.cons.mp h
    cases r with
    | cons r1 r2 =>
      obtain ⟨e1, eb, e2⟩ := r1
      obtain ⟨bs, q2, n2⟩ := Dn.reads I d _ _ h1 e2
      obtain ⟨as, cs, q3, q4, n3, n4⟩ := DnKt.reads I ds _ _ h2 r2
      obtain ⟨its, rv, ⟨o, ho, hc, n, he⟩, _⟩ := I.tuple (SqT.of (K := X.K) eb)
      refine ⟨_, _, ReadsAll.cons (Reads.tuple ho hc he (reads_keys X.prog X.w rv)) q3, ReadsAll.cons q2 q4, by simpa using n3, fun z => ?_⟩
      unfold flatDKv at z
      obtain ⟨z1, z2⟩ := Bool.and_eq_true_iff.mp z
      simp only [List.mem_append, not_or]
      exact ⟨n2 z1, n4 z2⟩
end
end
/-- repr of data -/
def rRepr : List V → Hp → VK → Prop := fun xs H Q => ∃ (ex : Addr → Prop) (x : V) (d : PyData), xs = [x] ∧ Dn ex H d x ∧ d.showable = true ∧ (d.hasDict = false ∨ flatD d = true) ∧ d.shown.length ≤ sizeLine ∧ d.depth ≤ 100 ∧ Q (.str d.shown) H
theorem call_repr (hr : Rm 0 X.A) : CallR X (.builtin "repr") rRepr := by
  intro pins s σ H xs us Q I r h
  obtain ⟨ex, x, d, rfl, hd, sh, nd, hz, dp, q⟩ := h
  obtain ⟨u, rfl, rx⟩ := vals1 r
  obtain ⟨as, rd, na⟩ := Dn.reads I d x u hd rx
  have hsm : d.hasDict = true → sysModules ∉ as := fun e => nd.elim (fun z => by rw [z] at e; cases e) na
  have fin : ∀ (h' : Heap) (t tk : Tok), (∀ b o, s.heap.get? b = some o → h'.get? b = some o) → EP X pins σ Q (.str d.shown t) { s with heap := h', toks := tk } := fun h' t tk hk =>
    ⟨.str d.shown, H, I.kept hk, ⟨t, rfl⟩, q⟩
  have un : X.A.units + (d.depth + 1) < cLine := by
    have := hr.r.un
    omega
  cases rd with
  | none => exact PySem.P.repr_of_none (by simpa only [PyData.shown] using fin s.heap _ _ fun _ _ e => e)
  | bool b => exact PySem.P.repr_of_bool (by simpa only [PyData.shown] using fin s.heap _ _ fun _ _ e => e)
  | int i t => exact PySem.P.repr_of_int (by simpa [PyData.showable] using sh) (by simpa only [PyData.shown] using fin s.heap _ _ fun _ _ e => e)
  | str x t => exact PySem.P.repr_of_str (by simpa only [PyData.shown] using fin s.heap _ _ fun _ _ e => e) (by simpa only [PyData.shown] using hz)
  | list h1 h2 h3 h4 => exact PySem.repr_of_reads' (.list h1 h2 h3 h4) sh hsm hr.g un (fun _ _ e => e) (fun h' u tk hk => fin h' u tk hk) hz
  | tuple h1 h2 h3 h4 => exact PySem.repr_of_reads' (.tuple h1 h2 h3 h4) sh hsm hr.g un (fun _ _ e => e) (fun h' u tk hk => fin h' u tk hk) hz
  | dict h1 h2 h3 h4 h5 => exact PySem.repr_of_reads' (.dict h1 h2 h3 h4 h5) sh hsm hr.g un (fun _ _ e => e) (fun h' u tk hk => fin h' u tk hk) hz
theorem cd_repr {d : PyData} (sh : d.showable = true) (nd : d.hasDict = false ∨ flatD d = true) (hz : d.shown.length ≤ sizeLine) (dp : d.depth ≤ 100) (h : Φ (.str d.shown)) : CallD B ρ rRepr [.dat d] Φ := fun σ H vs Q E hs k => by
  obtain ⟨v, rfl, h1⟩ := sl1 hs
  exact ⟨_, v, d, rfl, h1, sh, nd, hz, dp, k _ H (.str d.shown) Ext.refl E (Dn.str.mpr rfl) h⟩
end
end Vw

namespace Vw
open PySem PySem.Spec L2
open PyProof.Rows (envOfC)
/-! ### statements -/
structure Po where
  nx : Rho → Prop
  rt : PyData → Prop
  bk : Rho → Prop := fun _ => False
  ct : Rho → Prop := fun _ => False
/-- what a statement leaves alone -/
def XR (B : Bs) (ρ : Rho) (σ : L2.St) (H H' : Hp) : Prop := ∀ x o, H x = some o → ¬ B.S x → ¬ Own ρ σ x → H' x = some o
def XS (B : Bs) (ρ : Rho) (σ : L2.St) (H : Hp) (ρ' : Rho) (σ' : L2.St) (H' : Hp) : Prop := XR B ρ σ H H' ∧ ∀ x, Own ρ' σ' x → Own ρ σ x ∨ H x = none
def tS (B : Bs) (ρ : Rho) (P : Po) : TS := fun D σ H => En B ρ σ H ∧ (∀ ρ' σ' H', XS B ρ σ H ρ' σ' H' → En B ρ' σ' H' → P.nx ρ' → D.nx σ' H') ∧
  (∀ v H' d, XR B ρ σ H H' → B.Ok H' → Dn B.ex H' d v → P.rt d → D.rt v H') ∧ (∀ ρ' σ' H', XS B ρ σ H ρ' σ' H' → En B ρ' σ' H' → P.bk ρ' → D.bk σ' H') ∧
  (∀ ρ' σ' H', XS B ρ σ H ρ' σ' H' → En B ρ' σ' H' → P.ct ρ' → D.ct σ' H')
def EvS (X : Cx) (B : Bs) (ρ : Rho) (st : Stmt) (P : Po) : Prop := PS X st (tS B ρ P)
def EvB (X : Cx) (B : Bs) (ρ : Rho) (st : List Stmt) (P : Po) : Prop := PSs X st (tS B ρ P)
section
variable {B : Bs} {ρ ρ' ρ'' : Rho} {σ σ' σ'' : L2.St} {H H' H'' : Hp}
theorem XR.of_ext (x : Ext B H H') : XR B ρ σ H H' := fun y o e n _ => x y o e n
theorem XS.of_ext (x : Ext B H H') : XS B ρ σ H ρ σ H' := ⟨XR.of_ext x, fun _ h => .inl h⟩
theorem XS.transR (a : XS B ρ σ H ρ' σ' H') (b : XR B ρ' σ' H' H'') : XR B ρ σ H H'' := fun x o e n m => b x o (a.1 x o e n m) n fun z => (a.2 x z).elim m fun q => by rw [e] at q; cases q
theorem XS.trans (k' : B.Ok H') (a : XS B ρ σ H ρ' σ' H') (b : XS B ρ' σ' H' ρ'' σ'' H'') : XS B ρ σ H ρ'' σ'' H'' := ⟨a.transR b.1, fun x h => by
  rcases b.2 x h with h | h
  · exact a.2 x h
  · cases e : H x with
    | none => exact .inr rfl
    | some o =>
      by_cases m : Own ρ σ x
      · exact .inl m
      · by_cases n : B.S x
        · exact absurd h (k'.live x (k'.sx n))
        · rw [a.1 x o e n m] at h; cases h⟩
/-- a new list, into a slot -/
theorem En.setOwn {p : Addr} (E : En (B.add p) ρ σ H) (k : B.Ok H) {i : Nat} {ds : List PyData} {vs : List V} (hp : H p = some (.lst vs)) (np : ¬ exO B ρ σ p) (hd : DnAll (exO (B.add p) ρ σ) H ds vs) : En B (ρ.set i (some (.own ds))) (σ.set i (some (.ref p))) H := by
  have own' : ∀ {x}, Own (ρ.set i (some (.own ds))) (σ.set i (some (.ref p))) x → Own ρ σ x ∨ x = p := fun {x} h => by
    obtain ⟨j, es, e1, e2⟩ := h
    rcases getset e1 with ⟨ej, e⟩ | ⟨n, e⟩
    · rcases getset e2 with ⟨_, e'⟩ | ⟨n, _⟩
      · cases e'; exact .inr rfl
      · exact absurd ej n
    · rcases getset e2 with ⟨e', _⟩ | ⟨_, e'⟩
      · exact absurd e' n
      · exact .inl ⟨j, es, e, e'⟩
  have exo' : ∀ x, exO B (ρ.set i (some (.own ds))) (σ.set i (some (.ref p))) x → exO (B.add p) ρ σ x ∨ H x = none := fun x h => by
    rcases h with h | h
    · exact .inl (.inl (.inl h))
    · rcases own' h with h | h
      · exact .inl (.inr h)
      · exact .inl (.inl (.inr h))
  have no : ∀ {j : Nat} {es : List PyData}, ρ[j]? = some (some (.own es)) → σ[j]? = some (some (V.ref p)) → False := fun {j es} e1 e2 => by
    obtain ⟨v, e3, q, ws, e4, _, n, _⟩ := E.sl j _ e1
    rw [e2] at e3; cases e3; cases e4
    exact n (.inr rfl)
  refine ⟨k, by simpa using E.len, fun j s e => ?_, fun j l es fs x e1 e2 e3 e4 => ?_⟩
  · rcases getset e with ⟨ej, e2⟩ | ⟨n, e2⟩
    · subst ej
      cases e2
      have hj : j < σ.length := by
        rw [← E.len]
        have := (List.getElem?_eq_some_iff.mp e).1
        simpa using this
      exact ⟨.ref p, List.getElem?_set_self hj, p, vs, rfl, hp, fun z => np (.inl z), DnAll.mono exo' (fun _ _ e _ => e) _ _ hd⟩
    · obtain ⟨v, e3, h⟩ := E.sl j s e2
      refine ⟨v, by rw [List.getElem?_set_ne (Ne.symm n)]; exact e3, ?_⟩
      cases s with
      | dat d => exact Dn.mono exo' (fun x u e _ => e) d v h
      | own es =>
        obtain ⟨q, ws, e4, h1, h2, h3⟩ := h
        exact ⟨q, ws, e4, h1, fun z => h2 (.inl z), DnAll.mono exo' (fun x u e _ => e) _ _ h3⟩
      | src => exact h
      | raw u => exact h
  · rcases getset e1 with ⟨ej, _⟩ | ⟨nj, e1⟩
    · rcases getset e2 with ⟨el, _⟩ | ⟨nl, e2⟩
      · rw [ej, el]
      · rcases getset e3 with ⟨_, e3⟩ | ⟨nj, _⟩
        · cases e3
          rcases getset e4 with ⟨z, _⟩ | ⟨_, e4⟩
          · exact absurd z nl
          · exact (no e2 e4).elim
        · exact absurd ej nj
    · rcases getset e3 with ⟨z, _⟩ | ⟨_, e3⟩
      · exact absurd z nj
      rcases getset e2 with ⟨el, _⟩ | ⟨nl, e2⟩
      · rcases getset e4 with ⟨_, e4⟩ | ⟨nl, _⟩
        · cases e4
          exact (no e1 e3).elim
        · exact absurd el nl
      · rcases getset e4 with ⟨z, _⟩ | ⟨_, e4⟩
        · exact absurd z nl
        · exact E.sep j l es fs x e1 e2 e3 e4
/-- a list that will not be changed any more -/
theorem En.freeze (E : En B ρ σ H) {i : Nat} {ds : List PyData} (hr : ρ[i]? = some (some (.own ds))) : En B (ρ.set i (some (.dat (.list ds)))) σ H := by
  obtain ⟨v, e1, p, vs, rfl, hp, np, hd⟩ := E.sl i _ hr
  have gs : ∀ {j : Nat} {s : Sl}, (ρ.set i (some (.dat (.list ds))))[j]? = some (some s) → (j = i ∧ s = .dat (.list ds)) ∨ (j ≠ i ∧ ρ[j]? = some (some s)) := fun {j s} e => by
    rcases getset e with ⟨h, e⟩ | h
    · cases e; exact .inl ⟨h, rfl⟩
    · exact .inr h
  have own' : ∀ {x}, Own (ρ.set i (some (.dat (.list ds)))) σ x → Own ρ σ x ∧ x ≠ p := fun {x} h => by
    obtain ⟨j, es, e2, e3⟩ := h
    rcases gs e2 with ⟨_, e⟩ | ⟨n, e⟩
    · cases e
    · refine ⟨⟨j, es, e, e3⟩, fun z => n ?_⟩
      subst z
      exact E.sep j i es ds x e hr e3 e1
  have exo' : ∀ x, exO B (ρ.set i (some (.dat (.list ds)))) σ x → exO B ρ σ x ∨ H x = none := fun x h => .inl (h.imp id fun h => (own' h).1)
  refine ⟨E.ok, by simpa using E.len, fun j s e => ?_, fun j l es fs x e2 e3 e4 e5 => ?_⟩
  · rcases gs e with ⟨ej, e2⟩ | ⟨n, e2⟩
    · subst ej
      subst e2
      refine ⟨_, e1, Dn.list.mpr ⟨p, vs, rfl, hp, fun z => z.elim np fun z => (own' z).2 rfl, DnAll.mono exo' (fun _ _ e _ => e) _ _ hd⟩⟩
    · obtain ⟨v, e3, h⟩ := E.sl j s e2
      refine ⟨v, e3, ?_⟩
      cases s with
      | dat d => exact Dn.mono exo' (fun x u e _ => e) d v h
      | own es =>
        obtain ⟨q, ws, e4, h1, h2, h3⟩ := h
        exact ⟨q, ws, e4, h1, h2, DnAll.mono exo' (fun x u e _ => e) _ _ h3⟩
      | src => exact h
      | raw u => exact h
  · rcases gs e2 with ⟨_, e⟩ | ⟨_, e2⟩
    · cases e
    rcases gs e3 with ⟨_, e⟩ | ⟨_, e3⟩
    · cases e
    exact E.sep j l es fs x e2 e3 e4 e5
/-- an own list is changed in place -/
theorem En.putOwn (E : En B ρ σ H) {i : Nat} {ds es : List PyData} {p : Addr} {vs : List V} (hr : ρ[i]? = some (some (.own ds))) (hs : σ[i]? = some (some (.ref p))) (hd : DnAll (exO B ρ σ) H es vs) :
    En B (ρ.set i (some (.own es))) σ (upd H p (.lst vs)) ∧ XR B ρ σ H (upd H p (.lst vs)) := by
  obtain ⟨v, e1, q, ws, rfl, hp, np, _⟩ := E.sl i _ hr
  rw [hs] at e1; cases e1
  have gs : ∀ {j : Nat} {s : Sl}, (ρ.set i (some (.own es)))[j]? = some (some s) → (j = i ∧ s = .own es) ∨ (j ≠ i ∧ ρ[j]? = some (some s)) := fun {j s} e => by
    rcases getset e with ⟨h, e⟩ | h
    · cases e; exact .inl ⟨h, rfl⟩
    · exact .inr h
  have ownp : Own ρ σ p := ⟨i, ds, hr, hs⟩
  have own' : ∀ {x}, Own (ρ.set i (some (.own es))) σ x → Own ρ σ x := fun {x} h => by
    obtain ⟨j, fs, e2, e3⟩ := h
    rcases gs e2 with ⟨ej, e⟩ | ⟨_, e⟩
    · subst ej; exact ⟨j, ds, hr, e3⟩
    · exact ⟨j, fs, e, e3⟩
  have exo' : ∀ x, exO B (ρ.set i (some (.own es))) σ x → exO B ρ σ x ∨ H x = none := fun x h => .inl (h.imp id own')
  have hh : ∀ x o, H x = some o → ¬ exO B ρ σ x → upd H p (.lst vs) x = some o := fun x o e n => by
    rw [upd_ne (show x ≠ p from fun z => n (by rw [z]; exact .inr ownp))]; exact e
  refine ⟨⟨E.ok.at fun x hx => by rw [upd_ne (show x ≠ p from fun z => np (by rw [← z]; exact hx))], by simpa using E.len, fun j s e => ?_, fun j l fs gs' x e2 e3 e4 e5 => ?_⟩, fun x o e n m => by rw [upd_ne (show x ≠ p from fun z => m (by rw [z]; exact ownp))]; exact e⟩
  · rcases gs e with ⟨ej, e2⟩ | ⟨n, e2⟩
    · subst ej
      subst e2
      exact ⟨_, hs, p, vs, rfl, upd_same, np, DnAll.mono exo' hh _ _ hd⟩
    · obtain ⟨v, e3, h⟩ := E.sl j s e2
      refine ⟨v, e3, ?_⟩
      cases s with
      | dat d => exact Dn.mono exo' hh d v h
      | own fs =>
        obtain ⟨q, ws, e4, h1, h2, h3⟩ := h
        subst e4
        refine ⟨q, ws, rfl, ?_, h2, DnAll.mono exo' hh _ _ h3⟩
        rw [upd_ne (show q ≠ p from fun z => n (by subst z; exact E.sep j i fs ds q e2 hr e3 hs))]
        exact h1
      | src => exact h
      | raw u => exact h
  · rcases gs e2 with ⟨ej, _⟩ | ⟨_, e2⟩
    · rcases gs e3 with ⟨el, _⟩ | ⟨_, e3⟩
      · rw [ej, el]
      · rw [ej] at e4 ⊢
        exact E.sep i l ds gs' x hr e3 e4 e5
    · rcases gs e3 with ⟨el, _⟩ | ⟨_, e3⟩
      · rw [el] at e5 ⊢
        exact E.sep j i fs ds x e2 hr e4 e5
      · exact E.sep j l fs gs' x e2 e3 e4 e5
end
end Vw

namespace Vw
open PySem PySem.Spec L2
def sB (X : Cx) (st : List Stmt) : TS := fun D σ H => ∃ t, PSs X st t ∧ t D σ H
theorem pss_s {X : Cx} {st : List Stmt} : PSs X st (sB X st) := ⟨fun pins s σ H D I ⟨t, h, q⟩ => h.run pins s σ H D I q⟩
theorem ps_imp {X : Cx} {st : Stmt} {t t' : TS} (h : PS X st t) (hi : ∀ D σ H, t' D σ H → t D σ H) : PS X st t' := ⟨fun pins s σ H D I q => h.run pins s σ H D I (hi _ _ _ q)⟩
theorem pss_imp {X : Cx} {st : List Stmt} {t t' : TS} (h : PSs X st t) (hi : ∀ D σ H, t' D σ H → t D σ H) : PSs X st t' := ⟨fun pins s σ H D I q => h.run pins s σ H D I (hi _ _ _ q)⟩
/-- the ends of a run that has come from (ρ, σ, H) to (ρ', σ', H') -/
theorem tS_step {B : Bs} {ρ ρ' : Rho} {P : Po} {D : Ends} {σ σ' : L2.St} {H H' : Hp} (h : tS B ρ P D σ H) (x : XS B ρ σ H ρ' σ' H') (E : En B ρ' σ' H') : tS B ρ' P D σ' H' :=
  ⟨E, fun ρ2 σ2 H2 x2 E2 q => h.2.1 ρ2 σ2 H2 (x.trans E.ok x2) E2 q, fun v H2 d x2 k hd q => h.2.2.1 v H2 d (x.transR x2) k hd q,
    fun ρ2 σ2 H2 x2 E2 q => h.2.2.2.1 ρ2 σ2 H2 (x.trans E.ok x2) E2 q, fun ρ2 σ2 H2 x2 E2 q => h.2.2.2.2 ρ2 σ2 H2 (x.trans E.ok x2) E2 q⟩
theorem tS_ext {B : Bs} {ρ : Rho} {P : Po} {D : Ends} {σ : L2.St} {H H' : Hp} (h : tS B ρ P D σ H) (x : Ext B H H') (E : En B ρ σ H') : tS B ρ P D σ H' := tS_step h (XS.of_ext x) E
section
variable {X : Cx} {B : Bs} {ρ : Rho} {st : Stmt} {sts body : List Stmt} {P : Po} {e : Expr} {pos : Pos}
theorem eb_nil (h : P.nx ρ) : EvB X B ρ [] P := pss_imp pss_nil fun D σ H q => q.2.1 ρ σ H (XS.of_ext Ext.refl) q.1 h
theorem eb_cons (h : EvS X B ρ st { P with nx := fun ρ' => EvB X B ρ' sts P }) : EvB X B ρ (st :: sts) P :=
  pss_imp (pss_cons h pss_s) fun D σ H q => ⟨q.1, fun ρ' σ' H' x E hb => ⟨_, hb, tS_step q x E⟩, q.2.2⟩
theorem eb_one (h : EvS X B ρ st P) : EvB X B ρ [st] P := pss_one h
theorem es_pass (h : P.nx ρ) : EvS X B ρ (.Pass pos) P := ps_imp ps_pass fun D σ H q => q.2.1 ρ σ H (XS.of_ext Ext.refl) q.1 h
theorem es_break (h : P.bk ρ) : EvS X B ρ (.Break pos) P := ps_imp ps_break fun D σ H q => q.2.2.2.1 ρ σ H (XS.of_ext Ext.refl) q.1 h
theorem es_cont (h : P.ct ρ) : EvS X B ρ (.Continue pos) P := ps_imp ps_continue fun D σ H q => q.2.2.2.2 ρ σ H (XS.of_ext Ext.refl) q.1 h
theorem es_ret (h : EvE X B ρ e P.rt) : EvS X B ρ (.Return (some e) pos) P :=
  ps_imp (ps_ret h) fun D σ H q => ⟨q.1, fun v H' d x E hd hr => q.2.2.1 v H' d (XR.of_ext x) E.ok (Dn.mono (fun y z => .inl (.inl z)) (fun _ _ e _ => e) d v hd) hr⟩
theorem es_retN (h : P.rt .none) : EvS X B ρ (.Return none pos) P := ps_imp ps_retN fun D σ H q => q.2.2.1 _ H .none (XR.of_ext Ext.refl) q.1.ok (Dn.none.mpr rfl) h
theorem es_if {c : Expr} {a b : List Stmt} (h : EvT X B ρ c fun z => (z = true → EvB X B ρ a P) ∧ (z = false → EvB X B ρ b P)) : EvS X B ρ (.If c a b pos) P :=
  ps_imp (ps_if h pss_s pss_s) fun D σ H q => ⟨q.1, fun z H1 x E hz => by
    cases z with
    | true => rw [if_pos rfl]; exact ⟨_, hz.1 rfl, tS_ext q x E⟩
    | false => rw [if_neg Bool.false_ne_true]; exact ⟨_, hz.2 rfl, tS_ext q x E⟩⟩
theorem es_expr (h : EvE X B ρ e fun _ => P.nx ρ) (hs : swapsWith e none pos.line X.env = pure false := by rfl) : EvS X B ρ (.Expr e pos) P :=
  ps_imp (ps_expr h hs) fun D σ H q => ⟨q.1, fun v H' d x E hd hr => q.2.1 ρ σ H' (XS.of_ext x) E hr⟩
theorem es_doc {x j pos'} (h : P.nx ρ) : EvS X B ρ (.Expr (.Constant (.str x) j pos) pos') P := ps_imp ps_doc fun D σ H q => q.2.1 ρ σ H (XS.of_ext Ext.refl) q.1 h
theorem XS.set {σ : L2.St} {H : Hp} {i : Nat} {s : Option Sl} {v : Option V} (hs : ∀ ds, s ≠ some (.own ds)) : XS B ρ σ H (ρ.set i s) (σ.set i v) H := ⟨fun _ _ e _ _ => e, fun x h => .inl (own_set hs h)⟩
theorem XS.own {σ : L2.St} {H H' : Hp} {i : Nat} {p : Addr} {ds : List PyData} (x : Ext B H H') (hp : H p = none) : XS B ρ σ H (ρ.set i (some (.own ds))) (σ.set i (some (.ref p))) H' := ⟨XR.of_ext x, fun y h => by
  obtain ⟨j, es, e1, e2⟩ := h
  rcases getset e1 with ⟨ej, e⟩ | ⟨n, e⟩
  · rcases getset e2 with ⟨_, e'⟩ | ⟨n, _⟩
    · cases e'; exact .inr hp
    · exact absurd ej n
  · rcases getset e2 with ⟨e', _⟩ | ⟨_, e'⟩
    · exact absurd e' n
    · exact .inl ⟨j, es, e, e'⟩⟩
theorem es_set (i : Nat) {x : Str} {pos' : Pos} (hN : X.N.Nodup) (hi : X.N[i]? = some x) (hx : Loc X.env.scope x) (h : EvE X B ρ e fun d => P.nx (ρ.set i (some (.dat d)))) (hs : swapsWith e (some (.Name x pos')) pos.line X.env = pure false := by rfl)
    (hf : X.fn x = true ∨ X.env.scope.names.lookup x = some .local := by first | exact .inl rfl | exact .inr rfl | assumption) : EvS X B ρ (.Assign [.Name x pos'] e pos) P :=
  ps_imp (ps_set hN hi hx h hs hf) fun D σ H q => ⟨q.1, fun v H' d x E hd hr => q.2.1 _ _ H' ((XS.of_ext x).trans E.ok (XS.set fun ds => by intro z; cases z)) (E.set (s := .dat d) (fun ds => by intro z; cases z) hd) hr⟩
/-- a fresh list, into a slot: it is the slot's own -/
theorem es_setF (i : Nat) {x : Str} {pos' : Pos} (hN : X.N.Nodup) (hi : X.N[i]? = some x) (hx : Loc X.env.scope x) (h : EvF X B ρ e fun ds => P.nx (ρ.set i (some (.own ds)))) (hs : swapsWith e (some (.Name x pos')) pos.line X.env = pure false := by rfl)
    (hf : X.fn x = true ∨ X.env.scope.names.lookup x = some .local := by first | exact .inl rfl | exact .inr rfl | assumption) : EvS X B ρ (.Assign [.Name x pos'] e pos) P :=
  ps_imp (ps_set hN hi hx h hs hf) fun D σ H q => ⟨q.1, fun p H' ds vs x nh ok E hp np hd hr => q.2.1 _ _ H' (XS.own x nh) (E.setOwn ok hp np hd) hr⟩
/-! ### targets -/
def EvG (X : Cx) (B : Bs) (tg : Expr) (T : PyData → Rho → (Rho → Prop) → Prop) : Prop := ∃ g : TG, PG X tg g ∧ ∀ d ρ C v σ H Q, T d ρ C → En B ρ σ H → Dn (exO B ρ σ) H d v →
  (∀ ρ' σ', XS B ρ σ H ρ' σ' H → En B ρ' σ' H → C ρ' → Q σ' H) → g v σ H Q
def EvGs (X : Cx) (B : Bs) (ts : List Expr) (T : List PyData → Rho → (Rho → Prop) → Prop) : Prop := ∃ g : TGs, PGs X ts g ∧ ∀ ds ρ C vs σ H Q, T ds ρ C → En B ρ σ H → DnAll (exO B ρ σ) H ds vs →
  (∀ ρ' σ', XS B ρ σ H ρ' σ' H → En B ρ' σ' H → C ρ' → Q σ' H) → g vs σ H Q
theorem eg_name (i : Nat) {x : Str} (hN : X.N.Nodup) (hi : X.N[i]? = some x) (hx : Loc X.env.scope x) (hf : X.fn x = true ∨ X.env.scope.names.lookup x = some .local := by first | exact .inl rfl | exact .inr rfl | assumption) :
    EvG X B (.Name x pos) fun d ρ C => C (ρ.set i (some (.dat d))) :=
  ⟨_, pg_name hN hi hx hf, fun d ρ C v σ H Q h E hd k => k _ _ (XS.set fun ds => by intro z; cases z) (E.set (s := .dat d) (fun ds => by intro z; cases z) hd) h⟩
theorem egs_nil : EvGs X B [] fun ds ρ C => ds = [] ∧ C ρ := ⟨_, pgs_nil, fun ds ρ C vs σ H Q ⟨h1, h2⟩ E hd k => by
  subst h1
  exact ⟨DnAll.nil.mp hd, k ρ σ (XS.of_ext Ext.refl) E h2⟩⟩
theorem egs_cons {es : List Expr} {T : PyData → Rho → (Rho → Prop) → Prop} {U : List PyData → Rho → (Rho → Prop) → Prop} (h1 : EvG X B e T) (h2 : EvGs X B es U)
    (hs : (assignEach (e :: es) X.env).map (·.2) = assign e X.env :: (assignEach es X.env).map (·.2) := by rfl) : EvGs X B (e :: es) fun ds ρ C => ∃ d r, ds = d :: r ∧ T d ρ fun ρ' => U r ρ' C := by
  obtain ⟨g, p1, q1⟩ := h1
  obtain ⟨gs, p2, q2⟩ := h2
  refine ⟨_, pgs_cons p1 p2 hs, fun ds ρ C vs σ H Q ⟨d, r, e1, ht⟩ E hd k => ?_⟩
  subst e1
  obtain ⟨v, vr, rfl, d1, d2⟩ := DnAll.cons.mp hd
  refine ⟨v, vr, rfl, q1 d ρ _ v σ H _ ht E d1 fun ρ' σ' x E' hu => ?_⟩
  refine q2 r ρ' C vr σ' H Q hu E' ?_ fun ρ2 σ2 x2 E2 hc => k ρ2 σ2 (x.trans E'.ok x2) E2 hc
  exact DnAll.mono (fun y z => z.elim (fun z => .inl (.inl z)) fun z => (x.2 y z).imp .inr id) (fun _ _ e _ => e) _ _ d2
theorem eg_tup {es : List Expr} {k n : Nat} {U : List PyData → Rho → (Rho → Prop) → Prop} (hc : X.calm = true) (h : EvGs X B es U) (hn : (assignEach es X.env).length = n := by rfl) (hst : (assignEach es X.env).findIdx? (·.1) = none := by rfl) :
    EvG X B (.Tuple es k pos) fun d ρ C => ∃ ds, d = .tuple ds ∧ ds.length = n ∧ U ds ρ C := by
  obtain ⟨g, p1, q1⟩ := h
  refine ⟨_, pg_tup hc p1 hn hst, fun d ρ C v σ H Q ⟨ds, e1, hl, hu⟩ E hd k => ?_⟩
  subst e1
  obtain ⟨a, xs, rfl, ha, na, hds⟩ := Dn.tuple.mp hd
  exact ⟨a, xs, rfl, SqT.of ha, hds.length.symm.trans hl, q1 ds ρ C xs σ H Q hu E hds k⟩
theorem es_asg {tg : Expr} {T : PyData → Rho → (Rho → Prop) → Prop} (hg : EvG X B tg T) (h : EvE X B ρ e fun d => T d ρ P.nx) (hs : swapsWithSole [tg] e pos.line X.env = pure false := by rfl) (hw : swappedStores [tg] e X.env = pure none := by rfl)
    (h1 : (assignEach [tg] X.env).map (·.2) = [assign tg X.env] := by rfl) : EvS X B ρ (.Assign [tg] e pos) P := by
  obtain ⟨g, p1, q1⟩ := hg
  refine ps_imp (ps_asg h p1 hs hw h1) fun D σ H q => ⟨q.1, fun v H' d x E hd ht => ?_⟩
  exact q1 d ρ P.nx v σ H' _ ht E hd fun ρ' σ' x2 E2 hc => q.2.1 ρ' σ' H' ((XS.of_ext x).trans E.ok x2) E2 hc
/-! ### an own list -/
theorem eb_freeze {i : Nat} {ds : List PyData} (hr : ρ[i]? = some (some (.own ds))) (h : EvB X B (ρ.set i (some (.dat (.list ds)))) sts P) : EvB X B ρ sts P :=
  pss_imp h fun D σ H q => by
    have E' := q.1.freeze hr
    refine tS_step q ⟨fun _ _ e _ _ => e, fun x hx => .inl ?_⟩ E'
    obtain ⟨j, es, e1, e2⟩ := hx
    rcases getset e1 with ⟨_, e⟩ | ⟨_, e⟩
    · cases e
    · exact ⟨j, es, e, e2⟩
theorem XS.put {σ : L2.St} {H H' : Hp} {i : Nat} {ds es : List PyData} (hr : ρ[i]? = some (some (.own ds))) (x : XR B ρ σ H H') : XS B ρ σ H (ρ.set i (some (.own es))) σ H' := ⟨x, fun y hy => .inl (by
  obtain ⟨j, fs, e1, e2⟩ := hy
  rcases getset e1 with ⟨ej, _⟩ | ⟨_, e⟩
  · subst ej; exact ⟨j, ds, hr, e2⟩
  · exact ⟨j, fs, e, e2⟩)⟩
theorem es_append (i : Nat) {x : Str} {ds : List PyData} {p1 p2 p3 : Pos} (hr : ρ[i]? = some (some (.own ds))) (hN : X.N[i]? = some x) (hv : Vis X.env.scope x)
    (h : EvE X B ρ e fun d => ds.length < sizeLine ∧ P.nx (ρ.set i (some (.own (ds ++ [d]))))) (hd : (x == ("__debug__" : Str)) = false := by decide) (hcd : (x == ("__classdict__" : Str)) = false := by decide)
    (hbase : attributeBase (.Name x p1) "append" X.env (eval (.Name x p1) X.env) = eval (.Name x p1) X.env := by rfl)
    (hfew : ((backTo p3 (starEach [e] X.env)).all (fun x => !x.1) && (backToKw p3 (keywordEach [] X.env)).all (fun x => x.1.isSome)
      && decide ([e].length + ([] : List Keyword).length + (if ([] : List Keyword).isEmpty then 0 else 1) < 30)) = true := by rfl)
    (hline : (p2.endLine == p3.line) = true := by rfl) (hs : starEach [e] X.env = (false, eval e X.env) :: starEach [] X.env := by rfl)
    (hsw : swapsWith (.Call (.Attribute (.Name x p1) "append" p2) [e] [] p3) none pos.line X.env = pure false := by rfl) :
    EvS X B ρ (.Expr (.Call (.Attribute (.Name x p1) "append" p2) [e] [] p3) pos) P := by
  refine ps_imp (ps_expr (pe_bm PySem.F.plainAttrs_list PySem.F.slot_list_append PySem.F.type_list_append mt_append (pe_var hN hv hd hcd) (pa_cons h pa_nil hs) hbase hfew hline hs rfl) hsw) fun D σ H q => ?_
  obtain ⟨v, e1, p, vs, rfl, hp, np, hds⟩ := q.1.sl i _ hr
  refine ⟨_, e1, .inl ⟨rfl, _, SqL.of hp⟩, q.1, fun w H1 d x1 E1 dd ⟨hl, hn⟩ => ?_⟩
  have hp1 : H1 p = some (.lst vs) := x1 p _ hp fun z => np (q.1.ok.sx z)
  have hds1 := q.1.dnAll x1 hds
  obtain ⟨E2, x2⟩ := E1.putOwn (es := ds ++ [d]) (vs := vs ++ [w]) hr e1 (hds1.append (DnAll.cons.mpr ⟨w, [], rfl, dd, DnAll.nil.mpr rfl⟩))
  refine ⟨p, vs, w, rfl, rfl, hp1, by rw [← hds.length]; exact hl, q.2.1 _ _ _ ((XS.of_ext x1).trans E1.ok (XS.put hr x2)) E2 hn⟩
/-- x[k] = e, x an own list -/
theorem es_setitem (i : Nat) {x : Str} {ds : List PyData} {b : Expr} {p1 p2 : Pos} (hr : ρ[i]? = some (some (.own ds))) (hN : X.N[i]? = some x) (hv : Vis X.env.scope x)
    (h : EvE X B ρ e fun d => EvE X B ρ b fun y => ∃ k j, y = .int k ∧ ixN ds.length k = some j ∧ P.nx (ρ.set i (some (.own (ds.set j d))))) (hd : (x == ("__debug__" : Str)) = false := by decide) (hcd : (x == ("__classdict__" : Str)) = false := by decide)
    (ha : ∀ v, assign (.Subscript (.Name x p1) b p2) X.env v = (do
      let ov ← holding [v] (eval (.Name x p1) X.env)
      let iv ← holding [v, ov] (eval b X.env)
      standAt p2
      holding [v, ov, iv] (setItem ov iv v)
      release [v, ov, iv] []) := by intro _; rfl)
    (hs : swapsWithSole [.Subscript (.Name x p1) b p2] e pos.line X.env = pure false := by rfl) (hw : swappedStores [.Subscript (.Name x p1) b p2] e X.env = pure none := by rfl)
    (h1 : (assignEach [.Subscript (.Name x p1) b p2] X.env).map (·.2) = [assign (.Subscript (.Name x p1) b p2) X.env] := by rfl) : EvS X B ρ (.Assign [.Subscript (.Name x p1) b p2] e pos) P := by
  refine ps_imp (ps_asg h (pg_sub (pe_var hN hv hd hcd) pe_s set_list ha) hs hw h1) fun D σ H q => ⟨q.1, fun w H1 d x1 E1 dd hb => ?_⟩
  obtain ⟨v, e1, p, vs, rfl, hp, np, hds⟩ := E1.sl i _ hr
  refine ⟨_, e1, _, hb, E1, fun u H2 y x2 E2 dy ⟨k, j, ey, hj, hn⟩ => ?_⟩
  subst ey
  have hp2 : H2 p = some (.lst vs) := x2 p _ hp fun z => np (E1.ok.sx z)
  have hds2 := E1.dnAll x2 hds
  obtain ⟨E3, x3⟩ := E2.putOwn (es := ds.set j d) (vs := vs.set j w) hr e1 (hds2.set j (E1.dn x2 dd))
  refine ⟨p, vs, k, j, rfl, Dn.int.mp dy, hp2, by rw [← hds.length]; exact hj, q.2.1 _ _ _ (((XS.of_ext x1).trans E1.ok (XS.of_ext x2)).trans E2.ok (XS.put hr x3)) E3 hn⟩
/-! ### while, for -/
theorem es_while {c : Expr} (hp : PassesOwn (model X.prog X.w) X.A X.env X.xe) (W : Nat → Rho → Prop) (h0 : ∃ m, W m ρ)
    (h : ∀ m ρ', W m ρ' → EvT X B ρ' c fun z => (z = true → EvB X B ρ' body { P with nx := fun ρ2 => ∃ m', m' < m ∧ W m' ρ2, ct := fun ρ2 => ∃ m', m' < m ∧ W m' ρ2, bk := P.nx }) ∧ (z = false → P.nx ρ')) :
    EvS X B ρ (.While c body [] pos) P := by
  refine ps_imp (ps_while hp (pt_s (e := c)) (pss_s (st := body))) fun D σ H q => ?_
  obtain ⟨m0, w0⟩ := h0
  refine ⟨fun m σ' H' => ∃ ρ', En B ρ' σ' H' ∧ XS B ρ σ H ρ' σ' H' ∧ W m ρ', ⟨m0, ρ, q.1, XS.of_ext Ext.refl, w0⟩, ?_⟩
  rintro m σ1 H1 ⟨ρ1, E1, x1, w1⟩
  refine ⟨_, h m ρ1 w1, E1, fun z H2 x2 E2 hz => ?_⟩
  have q2 := tS_step q (x1.trans E1.ok (XS.of_ext x2)) E2
  cases z with
  | true =>
    refine iteT ?_
    refine ⟨fun σ' H' => ∃ ρ', En B ρ' σ' H' ∧ XS B ρ σ H ρ' σ' H' ∧ ∃ m', m' < m ∧ W m' ρ', fun σ' H' ⟨ρ', E', x', m', l, w'⟩ => ⟨m', l, ρ', E', x', w'⟩, _, hz.1 rfl, E2, ?_, q2.2.2.1, q2.2.1, ?_⟩
    all_goals exact fun ρ' σ' H' x' E' hm => ⟨ρ', E', (x1.trans E1.ok (XS.of_ext x2)).trans E2.ok x', hm⟩
  | false =>
    refine iteF ?_
    exact q2.2.1 _ _ _ (XS.of_ext Ext.refl) E2 (hz.2 rfl)
/-- the items of a walk, one by one, by an invariant -/
def LoopD (X : Cx) (B : Bs) (ρ : Rho) (body : List Stmt) (P : Po) (T : PyData → Rho → (Rho → Prop) → Prop) (n : Nat) (at_ : Nat → PyData → Prop) : Prop := ∃ W : Nat → Rho → Prop, W 0 ρ ∧
  (∀ k d ρ', k < n → at_ k d → W k ρ' → T d ρ' fun ρ2 => EvB X B ρ2 body { P with nx := W (k + 1), ct := W (k + 1), bk := P.nx }) ∧ ∀ ρ', W n ρ' → P.nx ρ'
/-- one turn, by data -/
theorem turn_of {tg : Expr} {g : TG} {T : PyData → Rho → (Rho → Prop) → Prop} {D : Ends} {σ : L2.St} {H : Hp} {W : Nat → Rho → Prop} {i : Nat} {d : PyData} {v : V} {σ1 : L2.St} {H1 H2 : Hp} {ρ1 : Rho}
    (q1 : ∀ d ρ C v σ H Q, T d ρ C → En B ρ σ H → Dn (exO B ρ σ) H d v → (∀ ρ' σ', XS B ρ σ H ρ' σ' H → En B ρ' σ' H → C ρ' → Q σ' H) → g v σ H Q) (q : tS B ρ P D σ H)
    (x1 : XS B ρ σ H ρ1 σ1 H2) (E1 : En B ρ1 σ1 H2) (hd : Dn (exO B ρ1 σ1) H2 d v) (ht : T d ρ1 fun ρ2 => EvB X B ρ2 body { P with nx := W (i + 1), ct := W (i + 1), bk := P.nx }) :
    g v σ1 H2 fun σ2 H3 => sB X body { D with nx := fun σ' H' => ∃ ρ', En B ρ' σ' H' ∧ XS B ρ σ H ρ' σ' H' ∧ W (i + 1) ρ', ct := fun σ' H' => ∃ ρ', En B ρ' σ' H' ∧ XS B ρ σ H ρ' σ' H' ∧ W (i + 1) ρ', bk := D.nx } σ2 H3 := by
  refine q1 d ρ1 _ v σ1 H2 _ ht E1 hd fun ρ2 σ2 x2 E2 hb => ?_
  have x12 := x1.trans E1.ok x2
  have q2 := tS_step q x12 E2
  refine ⟨_, hb, E2, ?_, q2.2.2.1, q2.2.1, ?_⟩
  all_goals exact fun ρ' σ' H' x' E' hm => ⟨ρ', E', x12.trans E2.ok x', hm⟩
theorem es_for {tg iter : Expr} {T : PyData → Rho → (Rho → Prop) → Prop} (hp : PassesOwn (model X.prog X.w) X.A X.env X.xe) (hc : X.calm = true) (hg : EvG X B tg T)
    (h : EvE X B ρ iter fun d => ∃ ds, d = .list ds ∧ LoopD X B ρ body P T ds.length fun k y => ds[k]? = some y) (hs : ∀ x, foldedSetIterable iter X.env x = pure x := by intro _; rfl) : EvS X B ρ (.For tg iter body [] pos) P := by
  obtain ⟨g, p1, q1⟩ := hg
  refine ps_imp (ps_for hp hc (pi_list h) p1 (pss_s (st := body)) hs) fun D σ H q => ⟨q.1, fun v H1 d x1 E1 hd ⟨ds, ed, W, w0, wt, wd⟩ => ?_⟩
  subst ed
  obtain ⟨a, xs, rfl, ha, na, hds⟩ := Dn.list.mp hd
  refine ⟨a, rfl, ⟨xs, SqL.of ha⟩, for_list (K := X.K) (a := a) (xs := xs) (fun i σ' H' => ∃ ρ', En B ρ' σ' H' ∧ XS B ρ σ H1 ρ' σ' H' ∧ W i ρ') ⟨ρ, E1, XS.of_ext Ext.refl, w0⟩ (fun i σ' H' _ ⟨ρ', E', x', _⟩ => SqL.of (x'.1 a _ ha (fun z => na (.inl (E1.ok.sx z))) fun z => na (.inr z))) ?_ ?_⟩
  · rintro i y σ' H' hy ⟨ρ', E', x', w'⟩
    obtain ⟨d, hdi, hdn⟩ := hds.get' hy
    have hlt : i < ds.length := (List.getElem?_eq_some_iff.mp hdi).1
    exact turn_of (tg := tg) q1 (tS_ext q x1 E1) x' E' (Dn.mono (fun y z => z.elim (fun z => .inl (.inl z)) fun z => (x'.2 y z).imp .inr id) (fun y o e n => x'.1 y o e (fun z => n (.inl (E1.ok.sx z))) fun z => n (.inr z)) d y hdn) (wt i d ρ' hlt hdi w') (H1 := H')
  · rintro σ' H' ⟨ρ', E', x', w'⟩
    rw [← hds.length] at w'
    exact q.2.1 ρ' σ' H' ((XS.of_ext x1).trans E1.ok x') E' (wd ρ' w')
theorem es_forT {tg iter : Expr} {T : PyData → Rho → (Rho → Prop) → Prop} (hp : PassesOwn (model X.prog X.w) X.A X.env X.xe) (hc : X.calm = true) (hg : EvG X B tg T)
    (h : EvE X B ρ iter fun d => ∃ ds, d = .tuple ds ∧ LoopD X B ρ body P T ds.length fun k y => ds[k]? = some y) (hs : ∀ x, foldedSetIterable iter X.env x = pure x := by intro _; rfl) : EvS X B ρ (.For tg iter body [] pos) P := by
  obtain ⟨g, p1, q1⟩ := hg
  refine ps_imp (ps_for hp hc (pi_tup h) p1 (pss_s (st := body)) hs) fun D σ H q => ⟨q.1, fun v H1 d x1 E1 hd ⟨ds, ed, W, w0, wt, wd⟩ => ?_⟩
  subst ed
  obtain ⟨a, xs, rfl, ha, na, hds⟩ := Dn.tuple.mp hd
  refine ⟨a, rfl, ⟨xs, SqT.of ha⟩, for_tup (K := X.K) (a := a) (xs := xs) (fun i σ' H' => ∃ ρ', En B ρ' σ' H' ∧ XS B ρ σ H1 ρ' σ' H' ∧ W i ρ') ⟨ρ, E1, XS.of_ext Ext.refl, w0⟩ (fun i σ' H' _ ⟨ρ', E', x', _⟩ => SqT.of (x'.1 a _ ha (fun z => na (.inl (E1.ok.sx z))) fun z => na (.inr z))) ?_ ?_⟩
  · rintro i y σ' H' hy ⟨ρ', E', x', w'⟩
    obtain ⟨d, hdi, hdn⟩ := hds.get' hy
    have hlt : i < ds.length := (List.getElem?_eq_some_iff.mp hdi).1
    exact turn_of (tg := tg) q1 (tS_ext q x1 E1) x' E' (Dn.mono (fun y z => z.elim (fun z => .inl (.inl z)) fun z => (x'.2 y z).imp .inr id) (fun y o e n => x'.1 y o e (fun z => n (.inl (E1.ok.sx z))) fun z => n (.inr z)) d y hdn) (wt i d ρ' hlt hdi w') (H1 := H')
  · rintro σ' H' ⟨ρ', E', x', w'⟩
    rw [← hds.length] at w'
    exact q.2.1 ρ' σ' H' ((XS.of_ext x1).trans E1.ok x') E' (wd ρ' w')
/-- for .. in range(j) -/
theorem es_range {tg a : Expr} {p : Pos} {T : PyData → Rho → (Rho → Prop) → Prop} (hp : PassesOwn (model X.prog X.w) X.A X.env X.xe) (hc : X.calm = true) (hgl : Gl X "range") (hm : X.mg "range" = none) (hg : EvG X B tg T)
    (h : EvE X B ρ a fun d => ∃ j : Int, d = .int j ∧ -(2 ^ 62) ≤ j ∧ j < 2 ^ 62 ∧ LoopD X B ρ body P T j.toNat fun k y => y = .int k) (hst : starEach [a] X.env = [(false, eval a X.env)] := by rfl)
    (hs : ∀ x, foldedSetIterable (.Call (.Name "range" p) [a] [] pos) X.env x = pure x := by intro _; rfl) : EvS X B ρ (.For tg (.Call (.Name "range" p) [a] [] pos) body [] pos') P := by
  obtain ⟨g, p1, q1⟩ := hg
  refine ps_imp (ps_for hp hc (pi_range1 hgl hm (pa_cons h pa_nil hst) hst) p1 (pss_s (st := body)) hs) fun D σ H q => ⟨q.1, fun v H1 d x1 E1 hd ⟨j, ed, j1, j2, W, w0, wt, wd⟩ => ?_⟩
  subst ed
  refine ⟨j, by rw [Dn.int.mp hd], j1, j2, for_range (lo := 0) (n := j.toNat) (fun i σ' H' => ∃ ρ', En B ρ' σ' H' ∧ XS B ρ σ H1 ρ' σ' H' ∧ W i ρ') ⟨ρ, E1, XS.of_ext Ext.refl, w0⟩ ?_ ?_⟩
  · rintro i σ' H' hi ⟨ρ', E', x', w'⟩
    exact turn_of (tg := tg) q1 (tS_ext q x1 E1) x' E' (Dn.int.mpr (by rw [Int.zero_add])) (wt i _ ρ' hi rfl w') (H1 := H')
  · rintro σ' H' ⟨ρ', E', x', w'⟩
    exact q.2.1 ρ' σ' H' ((XS.of_ext x1).trans E1.ok x') E' (wd ρ' w')
end
end Vw

namespace Vw
open PySem PySem.Spec L2
open PyProof.Rows (envOfC)
/-! ### a def's entry and its body -/
def rho0 (N : List Str) (ss : List Sl) : Rho := ss.map some ++ List.replicate (N.length - ss.length) none
theorem own_start {N : List Str} {ss : List Sl} {vs : List V} (n : noOwn ss = true) : ∀ x, ¬ Own (rho0 N ss) (L2.start N vs) x := fun x ⟨i, ds, e, _⟩ => by
    unfold rho0 at e
    by_cases hi : i < ss.length
    · rw [List.getElem?_append_left (by simpa using hi), List.getElem?_map] at e
      have : ∀ (ss : List Sl) (i : Nat), noOwn ss = true → ss[i]? ≠ some (.own ds) := fun ss => by
        induction ss with
        | nil => intro i _ z; simp at z
        | cons s r ih =>
          intro i n z
          cases i with
          | zero =>
            simp at z; subst z
            cases n
          | succ i =>
            have n' : noOwn r = true := by cases s <;> first | exact n | cases n
            exact ih i n' (by simpa using z)
      cases q : ss[i]? with
      | none => rw [q] at e; cases e
      | some s =>
        rw [q] at e
        cases e
        exact this ss i n q
    · rw [List.getElem?_append_right (by simpa using hi), List.getElem?_replicate] at e
      split at e <;> cases e
theorem en_start {N : List Str} {B : Bs} {ss : List Sl} {vs : List V} {H : Hp} (n : noOwn ss = true) (h : SlAll B B.ex H ss vs) (k : B.Ok H) : En B (rho0 N ss) (L2.start N vs) H := by
  have hl := slAll_length h
  have nown := own_start (N := N) (vs := vs) n
  have exo : ∀ x, exO B (rho0 N ss) (L2.start N vs) x → B.ex x ∨ H x = none := fun x h => .inl (h.elim id fun h => (nown x h).elim)
  refine ⟨k, ?_, fun i s e => ?_, fun i j ds es x e1 e2 e3 e4 => (nown x ⟨i, ds, e1, e3⟩).elim⟩
  · unfold rho0 L2.start
    simp [hl]
  · unfold rho0 at e
    unfold L2.start
    by_cases hi : i < ss.length
    · rw [List.getElem?_append_left (by simpa using hi), List.getElem?_map] at e
      rw [List.getElem?_append_left (by simpa [hl] using hi), List.getElem?_map]
      cases q : ss[i]? with
      | none => rw [q] at e; cases e
      | some s' =>
        rw [q] at e; cases e
        obtain ⟨v, hv, hs⟩ := slAll_get h q
        exact ⟨v, by rw [hv]; rfl, slOk_mono (xo := B.ex) exo (fun _ _ e _ => e) (fun _ _ _ e => e) hs⟩
    · rw [List.getElem?_append_right (by simpa using hi), List.getElem?_replicate] at e
      split at e <;> cases e
/-- a def of the text that lets no exception out, over data -/
theorem fg_body {P : Program} {w : World} {K : PySem.W.Frag} {mg : Str → Option Value} {base : Heap} {x : Str} {st : Stmt} {f : Addr} {fd : FuncData} {N ps : List Str} {k : Nat} {R : List Sl → (PyData → Prop) → Prop} (F : Fun K x x st f fd) (S : FnScope N ps (defScope st))
    (len : ∀ ss Φ, R ss Φ → ss.length = ps.length ∧ noOwn ss = true)
    (body : ∀ (cdv : Value) (A : Around) (out : List Env) (s : Shared) (H : Hp) (B : Bs) (ss : List Sl) (Φ : PyData → Prop), Rm k (A.deeper (envOfC x (defScope st) s.heap.objs.size f cdv)) → R ss Φ →
      EvB (cxOf CX0 P w K mg base N x (defScope st) f cdv A out s H E0).nox B (rho0 N ss) (defBody st) { nx := fun _ => Φ .none, rt := Φ }) : Fg P w K mg base CX0 (k + 1) f fd ps (spB R) := by
  refine fg_of F S (fun vs H Q E ⟨B, ss, Φ, hs, _, hR, _⟩ => (slAll_length hs).trans (len ss Φ hR).1) fun cdv A out s H vs Q E hr ⟨B, ss, Φ, hs, ok, hR, c⟩ => ?_
  have ext : ∀ {H'}, XR B (rho0 N ss) (L2.start N vs) H H' → Ext B H H' := fun {H'} x y o e m => x y o e m (own_start (len ss Φ hR).2 y)
  exact ⟨_, PSs.nox (body cdv A out s H B ss Φ hr hR), en_start (len ss Φ hR).2 hs ok, fun ρ' σ' H' x E' hn => c .non H' .none (ext x.1) E'.ok (Dn.none.mpr rfl) hn, fun v H' d x k hd hr => c v H' d (ext x) k hd hr, fun ρ' σ' H' x E' hn => hn, fun ρ' σ' H' x E' hn => hn⟩
/-- .. to callers -/
theorem fi_of {P : Program} {w : World} {K : PySem.W.Frag} {mg : Str → Option Value} {base : Heap} {x : Str} {st : Stmt} {f : Addr} {fd : FuncData} {N ps : List Str} {k : Nat} {R : List Sl → (PyData → Prop) → Prop} (F : Fun K x x st f fd) (S : FnScope N ps (defScope st))
    (hm : mg x = some (.ref f)) (hb : Binds K fd ps []) (len : ∀ ss Φ, R ss Φ → ss.length = ps.length ∧ noOwn ss = true)
    (body : ∀ (cdv : Value) (A : Around) (out : List Env) (s : Shared) (H : Hp) (B : Bs) (ss : List Sl) (Φ : PyData → Prop), Rm k (A.deeper (envOfC x (defScope st) s.heap.objs.size f cdv)) → R ss Φ →
      EvB (cxOf CX0 P w K mg base N x (defScope st) f cdv A out s H E0).nox B (rho0 N ss) (defBody st) { nx := fun _ => Φ .none, rt := Φ }) : Fi P w K mg base (k + 1) x st ps R :=
  ⟨f, fd, F, fg_body F S len body, hm, hb⟩
/-! ### comprehensions -/
def wipeR (ρ : Rho) : List Nat → Rho
  | [] => ρ
  | v :: vs => (wipeR ρ vs).set v none
def noO : Option Sl → Option Sl
  | some (.own _) => none
  | s => s
/-- what a comprehension's block sees -/
def blkR (ρ : Rho) (vs : List Nat) : Rho := wipeR (ρ.map noO) vs
section
variable {B : Bs} {ρ : Rho} {σ : L2.St} {H H' : Hp}
theorem En.wipe (E : En B ρ σ H) : ∀ vs : List Nat, En B (wipeR ρ vs) (wipe σ vs) H
  | [] => E
  | v :: vs => (En.wipe E vs).forget
theorem wipe_set {i : Nat} {x : Option V} : ∀ {vs : List Nat}, i ∈ vs → wipe (σ.set i x) vs = wipe σ vs
  | [], h => by cases h
  | v :: vs, h => by
    unfold wipe
    by_cases e : i = v
    · subst e
      by_cases hm : i ∈ vs
      · rw [wipe_set hm]
      · have : ∀ vs : List Nat, i ∉ vs → wipe (σ.set i x) vs = (wipe σ vs).set i x := fun vs => by
          induction vs with
          | nil => intro _; rfl
          | cons w ws ih =>
            intro hn
            have h1 : i ≠ w := fun z => hn (z ▸ List.mem_cons_self)
            have h2 : i ∉ ws := fun z => hn (List.mem_cons_of_mem _ z)
            unfold wipe
            rw [ih h2, List.set_comm _ _ h1]
        rw [this vs hm, List.set_set]
    · have hm : i ∈ vs := by
        rcases List.mem_cons.mp h with z | z
        · exact absurd z e
        · exact z
      rw [wipe_set hm]
theorem wipe_wipe : ∀ {vs : List Nat}, ∀ ws : List Nat, (∀ v ∈ vs, v ∈ ws) → wipe (wipe σ vs) ws = wipe σ ws
  | [], ws, _ => rfl
  | v :: vs, ws, h => by
    show wipe ((wipe σ vs).set v none) ws = _
    rw [wipe_set (h v List.mem_cons_self), wipe_wipe ws fun u hu => h u (List.mem_cons_of_mem _ hu)]
theorem noO_get {i : Nat} {s : Sl} (e : (ρ.map noO)[i]? = some (some s)) : ρ[i]? = some (some s) ∧ ∀ ds, s ≠ .own ds := by
  rw [List.getElem?_map] at e
  cases q : ρ[i]? with
  | none => rw [q] at e; cases e
  | some t =>
    rw [q] at e
    cases t with
    | none => cases e
    | some t =>
      cases t with
      | own ds => cases e
      | dat d => cases e; exact ⟨rfl, fun ds z => by cases z⟩
      | src => cases e; exact ⟨rfl, fun ds z => by cases z⟩
      | raw u => cases e; exact ⟨rfl, fun ds z => by cases z⟩
/-- own lists out of sight -/
theorem En.blk (E : En B ρ σ H) : En (B.in ρ σ) (ρ.map noO) σ H := by
  have nown : ∀ x, ¬ Own (ρ.map noO) σ x := fun x ⟨i, ds, e, _⟩ => (noO_get e).2 ds rfl
  have exo : ∀ x, exO (B.in ρ σ) (ρ.map noO) σ x → exO B ρ σ x ∨ H x = none := fun x h => .inl (h.elim id fun h => (nown x h).elim)
  refine ⟨E.okIn, by simpa using E.len, fun i s e => ?_, fun i j ds es x e1 e2 e3 e4 => (nown x ⟨i, ds, e1, e3⟩).elim⟩
  obtain ⟨e1, hno⟩ := noO_get e
  obtain ⟨v, e2, h⟩ := E.sl i s e1
  refine ⟨v, e2, ?_⟩
  cases s with
  | dat d => exact Dn.mono exo (fun _ _ e _ => e) d v h
  | own ds => exact absurd rfl (hno ds)
  | src => exact h
  | raw u => exact h
/-- an object that is no data's may be changed -/
theorem En.poke (E : En B ρ σ H) {D : Addr} {o : HO} (hD : B.ex D) (hs : ∀ a b c, B.src = some (a, b, c) → a ≠ D ∧ b ≠ D ∧ c ≠ D) : En B ρ σ (upd H D o) := by
  have hh : ∀ x u, H x = some u → ¬ exO B ρ σ x → upd H D o x = some u := fun x u e n => by rw [upd_ne (show x ≠ D from fun z => n (.inl (z ▸ hD)))]; exact e
  refine ⟨⟨fun x hx => ?_, fun a b c e => ?_⟩, E.len, fun i s e => ?_, E.sep⟩
  · by_cases z : x = D
    · subst z; rw [upd_same]; intro q; cases q
    · rw [upd_ne z]; exact E.ok.live x hx
  · obtain ⟨⟨deep, small, fold, turn, s⟩, h⟩ := E.ok.sr a b c e
    obtain ⟨na, nb, nc⟩ := hs a b c e
    exact ⟨⟨deep, small, fold, turn, ⟨by rw [upd_ne na]; exact s.da, by rw [upd_ne nb]; exact s.db, by rw [upd_ne nc]; exact s.dc, s.ne, s.le, s.ld, s.bc⟩⟩, h⟩
  · obtain ⟨v, e1, h⟩ := E.sl i s e
    refine ⟨v, e1, ?_⟩
    cases s with
    | dat d => exact Dn.mono (fun _ z => .inl z) hh d v h
    | own ds =>
      obtain ⟨q, vs, e2, h1, h2, h3⟩ := h
      exact ⟨q, vs, e2, by rw [upd_ne (show q ≠ D from fun z => h2 (z ▸ hD))]; exact h1, h2, DnAll.mono (fun _ z => .inl z) hh _ _ h3⟩
    | src => exact h
    | raw u => exact h
end
/-- a comprehension's target, in every block -/
def EvGc (X : Cx) (scope : Scope) (tg : Expr) (vs : List Nat) (T : PyData → Rho → (Rho → Prop) → Prop) : Prop := ∃ g : TG, (∀ (s : Shared) (H : Hp) (C : Addr) (cl : List (Str × Addr)) (fp : List Addr), PG (X.blk s H scope (compEnvC scope cl C X.env) fp) tg g) ∧
  ∀ B d ρ C v σ H Q, T d ρ C → En B ρ σ H → Dn (exO B ρ σ) H d v → (∀ ρ' σ', En B ρ' σ' H → wipe σ' vs = wipe σ vs → C ρ' → Q σ' H) → g v σ H Q
def EvGcs (X : Cx) (scope : Scope) (ts : List Expr) (vs : List Nat) (T : List PyData → Rho → (Rho → Prop) → Prop) : Prop := ∃ g : TGs, (∀ (s : Shared) (H : Hp) (C : Addr) (cl : List (Str × Addr)) (fp : List Addr), PGs (X.blk s H scope (compEnvC scope cl C X.env) fp) ts g) ∧
  ∀ B ds ρ C us σ H Q, T ds ρ C → En B ρ σ H → DnAll (fun x => B.ex x ∨ Own ρ σ x) H ds us → (∀ ρ' σ', En B ρ' σ' H → wipe σ' vs = wipe σ vs → C ρ' → Q σ' H) → g us σ H Q
section
variable {X : Cx} {scope : Scope} {vs : List Nat} {pos : Pos} {e : Expr} {es : List Expr}
theorem egc_name (i : Nat) {x : Str} (hN : X.N.Nodup) (hi : X.N[i]? = some x) (hv : i ∈ vs := by decide) (hx : ∀ (s : Shared) (H : Hp) (C : Addr) (cl : List (Str × Addr)) (fp : List Addr), L2.Loc (X.blk s H scope (compEnvC scope cl C X.env) fp).env.scope x := by intros; first | exact .inl rfl | exact .inr rfl) (hf : ∀ (s : Shared) (H : Hp) (C : Addr) (cl : List (Str × Addr)) (fp : List Addr), (X.blk s H scope (compEnvC scope cl C X.env) fp).fn x = true ∨ (X.blk s H scope (compEnvC scope cl C X.env) fp).env.scope.names.lookup x = some .local := by intros; first | exact .inr rfl | exact .inl rfl) :
    EvGc X scope (.Name x pos) vs fun d ρ C => C (ρ.set i (some (.dat d))) :=
  ⟨gName i, fun s H C cl fp => pg_name hN hi (hx s H C cl fp) (hf s H C cl fp),
    fun B d ρ C v σ H Q h E hd k => k _ _ (E.set (s := .dat d) (fun ds => by intro z; cases z) hd) (wipe_set hv) h⟩
theorem egcs_nil : EvGcs X scope [] vs fun ds ρ C => ds = [] ∧ C ρ := ⟨gNil, fun s H C cl fp => pgs_nil, fun B ds ρ C us σ H Q ⟨h1, h2⟩ E hd k => by
  subst h1
  exact ⟨DnAll.nil.mp hd, k ρ σ E rfl h2⟩⟩
theorem egcs_cons (i : Nat) {x : Str} {U : List PyData → Rho → (Rho → Prop) → Prop} (hN : X.N.Nodup) (hi : X.N[i]? = some x) (h2 : EvGcs X scope es vs U)
    (hs : ∀ (s : Shared) (H : Hp) (C : Addr) (cl : List (Str × Addr)) (fp : List Addr), (assignEach (.Name x pos :: es) (X.blk s H scope (compEnvC scope cl C X.env) fp).env).map (·.2) = assign (.Name x pos) (X.blk s H scope (compEnvC scope cl C X.env) fp).env :: (assignEach es (X.blk s H scope (compEnvC scope cl C X.env) fp).env).map (·.2) := by intro s H C cl fp; rfl)
    (hv : i ∈ vs := by decide) (hx : ∀ (s : Shared) (H : Hp) (C : Addr) (cl : List (Str × Addr)) (fp : List Addr), L2.Loc (X.blk s H scope (compEnvC scope cl C X.env) fp).env.scope x := by intros; first | exact .inl rfl | exact .inr rfl) (hf : ∀ (s : Shared) (H : Hp) (C : Addr) (cl : List (Str × Addr)) (fp : List Addr), (X.blk s H scope (compEnvC scope cl C X.env) fp).fn x = true ∨ (X.blk s H scope (compEnvC scope cl C X.env) fp).env.scope.names.lookup x = some .local := by intros; first | exact .inr rfl | exact .inl rfl) : EvGcs X scope (.Name x pos :: es) vs fun ds ρ C => ∃ d r, ds = d :: r ∧ U r (ρ.set i (some (.dat d))) C := by
  obtain ⟨gs, p2, q2⟩ := h2
  refine ⟨gCons (gName i) gs, fun s H C cl fp => pgs_cons (pg_name hN hi (hx s H C cl fp) (hf s H C cl fp)) (p2 s H C cl fp) (hs s H C cl fp), fun B ds ρ C us σ H Q ⟨d, r, e1, ht⟩ E hd k => ?_⟩
  subst e1
  obtain ⟨v, vr, rfl, d1, d2⟩ := DnAll.cons.mp hd
  have E' := E.set (i := i) (s := .dat d) (fun ds => by intro z; cases z) (show Dn (exO B ρ σ) H d v from d1)
  refine ⟨v, vr, rfl, q2 B r _ C vr _ H Q ht E' ?_ fun ρ' σ' E2 hw hc => k ρ' σ' E2 (hw.trans (wipe_set hv)) hc⟩
  exact DnAll.mono (fun y z => .inl (z.imp id (own_set fun ds z => by cases z))) (fun _ _ e _ => e) _ _ d2
theorem egc_tup {k n : Nat} {U : List PyData → Rho → (Rho → Prop) → Prop} (hc : X.calm = true) (h : EvGcs X scope es vs U) (hn : ∀ (s : Shared) (H : Hp) (C : Addr) (cl : List (Str × Addr)) (fp : List Addr), (assignEach es (X.blk s H scope (compEnvC scope cl C X.env) fp).env).length = n := by intro s H C cl fp; rfl)
    (hst : ∀ (s : Shared) (H : Hp) (C : Addr) (cl : List (Str × Addr)) (fp : List Addr), (assignEach es (X.blk s H scope (compEnvC scope cl C X.env) fp).env).findIdx? (·.1) = none := by intro s H C cl fp; rfl) : EvGc X scope (.Tuple es k pos) vs fun d ρ C => ∃ ds, d = .tuple ds ∧ ds.length = n ∧ U ds ρ C := by
  obtain ⟨g, p1, q1⟩ := h
  refine ⟨gTup X.K n g, fun s H C cl fp => pg_tup hc (p1 s H C cl fp) (hn s H C cl fp) (hst s H C cl fp), fun B d ρ C v σ H Q ⟨ds, e1, hl, hu⟩ E hd k => ?_⟩
  subst e1
  obtain ⟨a, xs, rfl, ha, na, hds⟩ := Dn.tuple.mp hd
  exact ⟨a, xs, rfl, SqT.of ha, hds.length.symm.trans hl, q1 B ds ρ C xs σ H Q hu E hds k⟩
end
/-- a comprehension's turns, by data: one item, then the element in every block -/
def CompD (X : Cx) (scope : Scope) (B : Bs) (ρ : Rho) (vs : List Nat) (elt : Expr) (T : PyData → Rho → (Rho → Prop) → Prop) (n : Nat) (at_ : Nat → PyData → Prop) (Ξ : List PyData → Prop) : Prop := ∃ J : Nat → List PyData → Prop, J 0 [] ∧
  (∀ k d acc (B' : Bs), B'.src = B.src → k < n → at_ k d → J k acc → T d (blkR ρ vs) fun ρ2 =>
    ∀ (s : Shared) (H : Hp) (C : Addr) (cl : List (Str × Addr)) (fp : List Addr), EvE (X.blk s H scope (compEnvC scope cl C X.env) fp) B' ρ2 elt fun y => acc.length < sizeLine ∧ J (k + 1) (acc ++ [y])) ∧ ∀ acc, J n acc → Ξ acc
def sEc (X : Cx) (scope : Scope) (elt : Expr) : TE := fun σ H Q => ∃ t, (∀ (s : Shared) (H : Hp) (C : Addr) (cl : List (Str × Addr)) (fp : List Addr), PE (X.blk s H scope (compEnvC scope cl C X.env) fp) elt t) ∧ t σ H Q
theorem pe_sc {X : Cx} {scope : Scope} {elt : Expr} (s : Shared) (H : Hp) (C : Addr) (cl : List (Str × Addr)) (fp : List Addr) : PE (X.blk s H scope (compEnvC scope cl C X.env) fp) elt (sEc X scope elt) :=
  ⟨fun pins s1 σ H1 Q I ⟨t, h, q⟩ => (h s H C cl fp).run pins s1 σ H1 Q I q⟩
/-- what stands between two turns -/
def CompP (B : Bs) (ρ : Rho) (σ : L2.St) (H1 : Hp) (D : Addr) (J : Nat → List PyData → Prop) (i : Nat) (H : Hp) : Prop := ∃ acc avs, H D = some (.lst avs) ∧ DnAll (exO (B.add D) ρ σ) H acc avs ∧ J i acc ∧ En (B.add D) ρ σ H ∧ Ext B H1 H ∧ B.Ok H
section
variable {X : Cx} {scope : Scope} {B : Bs} {ρ : Rho} {σ : L2.St} {H1 : Hp} {D : Addr} {vs : List Nat} {elt : Expr} {T : PyData → Rho → (Rho → Prop) → Prop} {n : Nat} {at_ : Nat → PyData → Prop}
theorem comp_start {J : Nat → List PyData → Prop} (E : En B ρ σ H1) (hD : H1 D = none) (h : J 0 []) : CompP B ρ σ H1 D J 0 (upd H1 D (.lst [])) :=
  ⟨[], [], upd_same, DnAll.nil.mpr rfl, h, E.add hD, Ext.new hD, E.ok.new hD⟩
theorem comp_turn {J : Nat → List PyData → Prop} {g : TG} (E0 : En B ρ σ H1) (hD : H1 D = none) {i : Nat} {d : PyData} {v : V} {H : Hp}
    (q1 : ∀ B d ρ C v σ H Q, T d ρ C → En B ρ σ H → Dn (exO B ρ σ) H d v → (∀ ρ' σ', En B ρ' σ' H → wipe σ' vs = wipe σ vs → C ρ' → Q σ' H) → g v σ H Q)
    (ht : ∀ acc (B' : Bs), B'.src = B.src → J i acc → T d (blkR ρ vs) fun ρ2 => ∀ (s : Shared) (H : Hp) (C : Addr) (cl : List (Str × Addr)) (fp : List Addr), EvE (X.blk s H scope (compEnvC scope cl C X.env) fp) B' ρ2 elt fun y => acc.length < sizeLine ∧ J (i + 1) (acc ++ [y]))
    (p : CompP B ρ σ H1 D J i H) (hd : Dn (exO (B.add D) ρ σ) H d v) :
    g v (wipe σ vs) H fun σ2 H2 => wipe σ2 vs = wipe σ vs ∧ tYes σ2 H2 fun b H3 => if b = true then sEc X scope elt σ2 H3 fun y H4 => ∃ acc, H4 D = some (.lst acc) ∧ acc.length < sizeLine ∧ CompP B ρ σ H1 D J (i + 1) (upd H4 D (.lst (acc ++ [y]))) else CompP B ρ σ H1 D J (i + 1) H3 := by
  obtain ⟨acc, avs, hl, ha, hj, E, x, ok⟩ := p
  have Eb := E.blk.wipe vs
  have nown : ∀ x, ¬ Own (blkR ρ vs) (wipe σ vs) x := by
    have gen : ∀ vs x, Own (wipeR (ρ.map noO) vs) (wipe σ vs) x → Own (ρ.map noO) σ x := fun vs => by
      induction vs with
      | nil => exact fun x h => h
      | cons w ws ih => exact fun x h => ih x (own_set (fun ds z => by cases z) h)
    exact fun x h => by
      obtain ⟨j, ds, e, _⟩ := gen vs x h
      exact (noO_get e).2 ds rfl
  refine q1 ((B.add D).in ρ σ) d _ _ v _ H _ (ht acc ((B.add D).in ρ σ) rfl hj) Eb (Dn.mono (fun y z => .inl (z.elim id fun z => (nown y z).elim)) (fun _ _ e _ => e) d v hd) fun ρ2 σ2 E2 hw hc => ⟨hw.trans (wipe_wipe vs fun _ h => h), ?_⟩
  unfold tYes
  dsimp only
  rw [if_pos rfl]
  refine ⟨_, hc, E2, fun y H4 dy x4 E4 hy ⟨hlen, hj'⟩ => ?_⟩
  have nS : ¬ B.S D := fun z => E0.ok.live D (E0.ok.sx z) hD
  have hl4 : H4 D = some (.lst avs) := x4 D _ hl nS
  have ok4 : (B.add D).Ok H4 := E.okOut E4.ok
  have E5 : En (B.add D) ρ σ H4 := E.ext x4 ok4
  have okB : B.Ok H4 := ⟨fun z hz => ok4.live z (.inl hz), fun a b c e => ⟨(ok4.sr a b c e).1, (ok.sr a b c e).2⟩⟩
  have nsrc : ∀ a b c, (B.add D).src = some (a, b, c) → a ≠ D ∧ b ≠ D ∧ c ≠ D := fun a b c e => by
    obtain ⟨_, h1, h2, h3⟩ := E0.ok.sr a b c e
    exact ⟨fun z => E0.ok.live a h1 (z ▸ hD), fun z => E0.ok.live b h2 (z ▸ hD), fun z => E0.ok.live c h3 (z ▸ hD)⟩
  have hh : ∀ (y : Addr) (o : HO) (u : HO), H4 y = some o → ¬ exO (B.add D) ρ σ y → upd H4 D u y = some o := fun y o u e n => by rw [upd_ne (show y ≠ D from fun z => n (.inl (.inr z)))]; exact e
  refine ⟨avs, hl4, by rw [← ha.length]; exact hlen, acc ++ [dy], avs ++ [y], upd_same, ?_, hj', E5.poke (.inr rfl) nsrc, ?_, ?_⟩
  · refine DnAll.append (DnAll.mono (fun _ z => .inl z) (fun z o e n => hh z o _ e n) _ _ (E.dnAll x4 ha)) (DnAll.cons.mpr ⟨y, [], rfl, ?_, DnAll.nil.mpr rfl⟩)
    exact Dn.mono (fun z h => .inl (.inl h)) (fun z o e n => hh z o _ e fun h => n (.inl h)) dy y hy
  · exact fun z o e n => by
      rw [upd_ne (show z ≠ D from fun h => by rw [h, hD] at e; cases e)]
      exact x4 z o (x z o e n) n
  · exact okB.at fun z hz => by rw [upd_ne (show z ≠ D from fun h => E0.ok.live z hz (h ▸ hD))]
variable {iter : Expr} {pos p pos' : Pos} {own : List (Str × Nat)} {Ξ : List PyData → Prop}
theorem comp_end {J : Nat → List PyData → Prop} {H : Hp} {H' : Hp} {Q : VK} (k : ∀ p H' ds vs, Ext B H H' → H p = none → B.Ok H' → En (B.add p) ρ σ H' → H' p = some (.lst vs) → ¬ exO B ρ σ p → DnAll (exO (B.add p) ρ σ) H' ds vs → Ξ ds → Q (.ref p) H')
    (E0 : En B ρ σ H1) (hD : H1 D = none) (x1 : Ext B H H1) (wd : ∀ acc, J n acc → Ξ acc) (h : CompP B ρ σ H1 D J n H') : Q (.ref D) H' := by
  obtain ⟨acc, avs, hl, ha, hj, E, x, ok⟩ := h
  exact k D H' acc avs (x1.trans x) (x1.none E0.ok hD) ok E hl (E0.nx hD) ha (wd acc hj)
/-- [elt for tg in iter], iter a list -/
theorem ef_lc_read {g : TG} (q1 : ∀ B d ρ C v σ H Q, T d ρ C → En B ρ σ H → Dn (exO B ρ σ) H d v → (∀ ρ' σ', En B ρ' σ' H → wipe σ' vs = wipe σ vs → C ρ' → Q σ' H) → g v σ H Q) (σ : L2.St) (H : Hp) (Q : VK) (hq : tF B ρ Ξ σ H Q) :
    tLc (iList X.K (tE B ρ fun d => ∃ ds, d = .list ds ∧ CompD X scope B ρ vs elt T ds.length (fun k y => ds[k]? = some y) Ξ)) g tYes (sEc X scope elt) vs σ H Q := by
  obtain ⟨E, k⟩ := hq
  refine ⟨E, fun v H1 d x1 E1 hd ⟨ds, ed, J, j0, jt, jd⟩ => ?_⟩
  subst ed
  obtain ⟨a, xs, rfl, ha, na, hds⟩ := Dn.list.mp hd
  refine ⟨a, rfl, ⟨xs, SqL.of ha⟩, fun D hD => lc_list (K := X.K) (a := a) (xs := xs) (CompP B ρ σ H1 D J) (comp_start E1 hD j0) (fun i H' _ ⟨_, _, _, _, _, _, x, _⟩ => SqL.of (x a _ ha fun z => na (.inl (E1.ok.sx z)))) ?_ ?_⟩
  · intro i y H' hy p
    obtain ⟨d, hdi, hdn⟩ := hds.get' hy
    have hlt : i < ds.length := (List.getElem?_eq_some_iff.mp hdi).1
    obtain ⟨_, _, _, _, _, E', x, _⟩ := id p
    exact comp_turn E1 hD q1 (fun acc B' hB hj => jt i d acc B' hB hlt hdi hj) p (Dn.mono (fun z h => exAdd hD z h) (fun z o e n => x z o e fun h => n (.inl (E1.ok.sx h))) d y hdn)
  · intro H' p
    rw [← hds.length] at p
    exact comp_end k E1 hD x1 jd p
theorem ef_lc (vs : List Nat) (hc : X.calm = true) (hN : X.N.Nodup) (hv : own.map (·.2) = vs) (hg : EvGc X scope tg vs T) (ok : BlkOk X.N X.env.scope scope own)
    (h : EvE X B ρ iter fun d => ∃ ds, d = .list ds ∧ CompD X scope B ρ vs elt T ds.length (fun k y => ds[k]? = some y) Ξ) (hs : ∀ x, foldedSetIterable iter X.env x = pure x := by intro _; rfl) :
    EvF X B ρ (.ListComp elt [⟨tg, iter, [], 0⟩] scope pos) Ξ := by
  subst hv
  obtain ⟨g, p1, q1⟩ := hg
  exact pe_imp (pe_lc hc hN (pi_list h) ok p1 (fun _ _ _ _ _ => pts_nil) pe_sc hs) (ef_lc_read q1)
theorem es_lc (i : Nat) (vs : List Nat) {y : Str} {py spos : Pos} {P : Po} (hc : X.calm = true) (hN : X.N.Nodup) (hy : X.N[i]? = some y) (hyl : X.env.scope.names.lookup y = some .local) (hv : own.map (·.2) = vs) (hg : EvGc X scope tg vs T) (ok : BlkOk X.N X.env.scope scope own)
    (h : EvE X B ρ iter fun d => ∃ ds, d = .list ds ∧ CompD X scope B ρ vs elt T ds.length (fun k y => ds[k]? = some y) (fun ds => P.nx (ρ.set i (some (.own ds))))) (hs : ∀ x, foldedSetIterable iter X.env x = pure x := by intro _; rfl)
    (hsw : swapsWith (.ListComp elt [⟨tg, iter, [], 0⟩] scope pos) (some (.Name y py)) spos.line X.env = pure true := by rfl) :
    EvS X B ρ (.Assign [.Name y py] (.ListComp elt [⟨tg, iter, [], 0⟩] scope pos) spos) P := by
  subst hv
  obtain ⟨g, p1, q1⟩ := hg
  exact ps_imp (ps_setLc hc hN hy hyl hsw (pi_list h) ok p1 (fun _ _ _ _ _ => pts_nil) pe_sc hs) fun D σ H q => ef_lc_read q1 σ H _ ⟨q.1, fun p H' ds vs x nh ok E hp np hd hr => q.2.1 _ _ H' (XS.own x nh) (E.setOwn ok hp np hd) hr⟩
theorem ef_lcT_read {g : TG} (q1 : ∀ B d ρ C v σ H Q, T d ρ C → En B ρ σ H → Dn (exO B ρ σ) H d v → (∀ ρ' σ', En B ρ' σ' H → wipe σ' vs = wipe σ vs → C ρ' → Q σ' H) → g v σ H Q) (σ : L2.St) (H : Hp) (Q : VK) (hq : tF B ρ Ξ σ H Q) :
    tLc (iTup X.K (tE B ρ fun d => ∃ ds, d = .tuple ds ∧ CompD X scope B ρ vs elt T ds.length (fun k y => ds[k]? = some y) Ξ)) g tYes (sEc X scope elt) vs σ H Q := by
  obtain ⟨E, k⟩ := hq
  refine ⟨E, fun v H1 d x1 E1 hd ⟨ds, ed, J, j0, jt, jd⟩ => ?_⟩
  subst ed
  obtain ⟨a, xs, rfl, ha, na, hds⟩ := Dn.tuple.mp hd
  refine ⟨a, rfl, ⟨xs, SqT.of ha⟩, fun D hD => lc_tup (K := X.K) (a := a) (xs := xs) (CompP B ρ σ H1 D J) (comp_start E1 hD j0) (fun i H' _ ⟨_, _, _, _, _, _, x, _⟩ => SqT.of (x a _ ha fun z => na (.inl (E1.ok.sx z)))) ?_ ?_⟩
  · intro i y H' hy p
    obtain ⟨d, hdi, hdn⟩ := hds.get' hy
    have hlt : i < ds.length := (List.getElem?_eq_some_iff.mp hdi).1
    obtain ⟨_, _, _, _, _, E', x, _⟩ := id p
    exact comp_turn E1 hD q1 (fun acc B' hB hj => jt i d acc B' hB hlt hdi hj) p (Dn.mono (fun z h => exAdd hD z h) (fun z o e n => x z o e fun h => n (.inl (E1.ok.sx h))) d y hdn)
  · intro H' p
    rw [← hds.length] at p
    exact comp_end k E1 hD x1 jd p
theorem ef_lcT (vs : List Nat) (hc : X.calm = true) (hN : X.N.Nodup) (hv : own.map (·.2) = vs) (hg : EvGc X scope tg vs T) (ok : BlkOk X.N X.env.scope scope own)
    (h : EvE X B ρ iter fun d => ∃ ds, d = .tuple ds ∧ CompD X scope B ρ vs elt T ds.length (fun k y => ds[k]? = some y) Ξ) (hs : ∀ x, foldedSetIterable iter X.env x = pure x := by intro _; rfl) :
    EvF X B ρ (.ListComp elt [⟨tg, iter, [], 0⟩] scope pos) Ξ := by
  subst hv
  obtain ⟨g, p1, q1⟩ := hg
  exact pe_imp (pe_lc hc hN (pi_tup h) ok p1 (fun _ _ _ _ _ => pts_nil) pe_sc hs) (ef_lcT_read q1)
theorem es_lcT (i : Nat) (vs : List Nat) {y : Str} {py spos : Pos} {P : Po} (hc : X.calm = true) (hN : X.N.Nodup) (hy : X.N[i]? = some y) (hyl : X.env.scope.names.lookup y = some .local) (hv : own.map (·.2) = vs) (hg : EvGc X scope tg vs T) (ok : BlkOk X.N X.env.scope scope own)
    (h : EvE X B ρ iter fun d => ∃ ds, d = .tuple ds ∧ CompD X scope B ρ vs elt T ds.length (fun k y => ds[k]? = some y) (fun ds => P.nx (ρ.set i (some (.own ds))))) (hs : ∀ x, foldedSetIterable iter X.env x = pure x := by intro _; rfl)
    (hsw : swapsWith (.ListComp elt [⟨tg, iter, [], 0⟩] scope pos) (some (.Name y py)) spos.line X.env = pure true := by rfl) :
    EvS X B ρ (.Assign [.Name y py] (.ListComp elt [⟨tg, iter, [], 0⟩] scope pos) spos) P := by
  subst hv
  obtain ⟨g, p1, q1⟩ := hg
  exact ps_imp (ps_setLc hc hN hy hyl hsw (pi_tup h) ok p1 (fun _ _ _ _ _ => pts_nil) pe_sc hs) fun D σ H q => ef_lcT_read q1 σ H _ ⟨q.1, fun p H' ds vs x nh ok E hp np hd hr => q.2.1 _ _ H' (XS.own x nh) (E.setOwn ok hp np hd) hr⟩
/-- [elt for tg in range(a)] -/
theorem ef_lcR_read {g : TG} (q1 : ∀ B d ρ C v σ H Q, T d ρ C → En B ρ σ H → Dn (exO B ρ σ) H d v → (∀ ρ' σ', En B ρ' σ' H → wipe σ' vs = wipe σ vs → C ρ' → Q σ' H) → g v σ H Q) (σ : L2.St) (H : Hp) (Q : VK) (hq : tF B ρ Ξ σ H Q) :
    tLc (iRng1 (tCons (tE B ρ fun d => ∃ j : Int, d = .int j ∧ -(2 ^ 62) ≤ j ∧ j < 2 ^ 62 ∧ CompD X scope B ρ vs elt T j.toNat (fun k y => y = .int k) Ξ) tNil)) g tYes (sEc X scope elt) vs σ H Q := by
  obtain ⟨E, k⟩ := hq
  refine ⟨E, fun v H1 d x1 E1 hd ⟨j, ed, b1, b2, J, j0, jt, jd⟩ => ?_⟩
  subst ed
  refine ⟨j, by rw [Dn.int.mp hd], b1, b2, fun D hD => lc_range (lo := 0) (n := j.toNat) (CompP B ρ σ H1 D J) (comp_start E1 hD j0) ?_ ?_⟩
  · intro i H' hi p
    exact comp_turn E1 hD q1 (fun acc B' hB hj => jt i _ acc B' hB hi rfl hj) p (Dn.int.mpr (by rw [Int.zero_add]))
  · intro H' p
    exact comp_end k E1 hD x1 jd p
theorem ef_lcR (vs : List Nat) {a : Expr} (hc : X.calm = true) (hN : X.N.Nodup) (hv : own.map (·.2) = vs) (hgl : Gl X "range") (hm : X.mg "range" = none) (hg : EvGc X scope tg vs T) (ok : BlkOk X.N X.env.scope scope own)
    (h : EvE X B ρ a fun d => ∃ j : Int, d = .int j ∧ -(2 ^ 62) ≤ j ∧ j < 2 ^ 62 ∧ CompD X scope B ρ vs elt T j.toNat (fun k y => y = .int k) Ξ) (hst : starEach [a] X.env = [(false, eval a X.env)] := by rfl)
    (hs : ∀ x, foldedSetIterable (.Call (.Name "range" p) [a] [] pos') X.env x = pure x := by intro _; rfl) :
    EvF X B ρ (.ListComp elt [⟨tg, .Call (.Name "range" p) [a] [] pos', [], 0⟩] scope pos) Ξ := by
  subst hv
  obtain ⟨g, p1, q1⟩ := hg
  exact pe_imp (pe_lc hc hN (pi_range1 hgl hm (pa_cons h pa_nil hst) hst) ok p1 (fun _ _ _ _ _ => pts_nil) pe_sc hs) (ef_lcR_read q1)
theorem es_lcR (i : Nat) (vs : List Nat) {y : Str} {py spos : Pos} {P : Po} {a : Expr} (hc : X.calm = true) (hN : X.N.Nodup) (hy : X.N[i]? = some y) (hyl : X.env.scope.names.lookup y = some .local) (hv : own.map (·.2) = vs) (hgl : Gl X "range") (hm : X.mg "range" = none) (hg : EvGc X scope tg vs T) (ok : BlkOk X.N X.env.scope scope own)
    (h : EvE X B ρ a fun d => ∃ j : Int, d = .int j ∧ -(2 ^ 62) ≤ j ∧ j < 2 ^ 62 ∧ CompD X scope B ρ vs elt T j.toNat (fun k y => y = .int k) (fun ds => P.nx (ρ.set i (some (.own ds))))) (hst : starEach [a] X.env = [(false, eval a X.env)] := by rfl)
    (hs : ∀ x, foldedSetIterable (.Call (.Name "range" p) [a] [] pos') X.env x = pure x := by intro _; rfl)
    (hsw : swapsWith (.ListComp elt [⟨tg, .Call (.Name "range" p) [a] [] pos', [], 0⟩] scope pos) (some (.Name y py)) spos.line X.env = pure true := by rfl) :
    EvS X B ρ (.Assign [.Name y py] (.ListComp elt [⟨tg, .Call (.Name "range" p) [a] [] pos', [], 0⟩] scope pos) spos) P := by
  subst hv
  obtain ⟨g, p1, q1⟩ := hg
  exact ps_imp (ps_setLc hc hN hy hyl hsw (pi_range1 hgl hm (pa_cons h pa_nil hst) hst) ok p1 (fun _ _ _ _ _ => pts_nil) pe_sc hs) fun D σ H q => ef_lcR_read q1 σ H _ ⟨q.1, fun p H' ds vs x nh ok E hp np hd hr => q.2.1 _ _ H' (XS.own x nh) (E.setOwn ok hp np hd) hr⟩
end
end Vw

namespace Vw
open PySem PySem.Spec L2
open PyProof.Rows (envOfC)
section
variable {X : Cx} {B : Bs} {ρ : Rho} {e a b : Expr} {es : List Expr} {x : Str} {p pos p2 : Pos} {Φ : PyData → Prop} {Ξ : List PyData → Prop} {Ψ : Bool → Prop} {P : Po} {body : List Stmt}
/-! ### // and % of any sign -/
def CDivZ (_ j : Int) : Prop := j ≠ 0 ∧ j.natAbs.log2 < 9000
theorem op_fdivZ : OpR X (binaryOp .FloorDiv) (rI CDivZ fun i j => .int (i.fdiv j)) := opI fun _ _ _ _ _ _ _ hc q => PyProof.Rows.floordiv_int hc.1 q (.inl (PyProof.noPylong_of_log2 hc.2))
/-! ### fresh lists by calls and slices -/
/-- list(xs) -/
theorem ef_list (hg : Gl X "list") (hm : X.mg "list" = none) (h : EvE X B ρ e fun d => ∃ ds, (d = .list ds ∨ d = .tuple ds) ∧ Ξ ds)
    (he : starEach [e] X.env = (false, eval e X.env) :: starEach [] X.env := by rfl) (hpl : (backTo pos (starEach [] X.env)).any (·.1) = false := by rfl) : EvF X B ρ (.Call (.Name "list" p) [e] [] pos) Ξ :=
  pe_imp (pe_callTy call_list_of hg hm (by decide +kernel) (pa_cons h pa_nil he) (by decide) (by decide) he hpl) fun σ H Q ⟨E, k⟩ => ⟨E, fun v H1 d x1 E1 hd ⟨ds, hds, hΞ⟩ => by
    have go : ∀ a xs, v = .ref a → (SqL X.K H1 a xs ∨ SqT X.K H1 a xs) → DnAll (exO B ρ σ) H1 ds xs → ∃ q ys, [v] = [V.ref q] ∧ (SqL X.K H1 q ys ∨ SqT X.K H1 q ys) ∧ ∀ l, H1 l = none → Q (.ref l) (upd H1 l (.lst ys)) := fun a xs ev hq r => by
      subst ev
      exact ⟨a, xs, rfl, hq, fun l hl => k l _ ds xs (x1.trans (Ext.new hl)) (x1.none E1.ok hl) (E1.ok.new hl) (E1.add hl) upd_same (E1.nx hl) (DnAll.mono (exAdd hl) (fun y o e _ => by rw [upd_ne (ne_of_none e hl)]; exact e) _ _ r) hΞ⟩
    rcases hds with rfl | rfl
    · obtain ⟨a, xs, rfl, ha, _, r⟩ := Dn.list.mp hd
      exact go a xs rfl (.inl (SqL.of ha)) r
    · obtain ⟨a, xs, rfl, ha, _, r⟩ := Dn.tuple.mp hd
      exact go a xs rfl (.inr (SqT.of ha)) r⟩
/-- tuple(xs) -/
theorem ev_tuple (hg : Gl X "tuple") (hm : X.mg "tuple" = none) (h : EvE X B ρ e fun d => ∃ ds, (d = .list ds ∨ d = .tuple ds) ∧ Φ (.tuple ds))
    (he : starEach [e] X.env = (false, eval e X.env) :: starEach [] X.env := by rfl) (hpl : (backTo pos (starEach [] X.env)).any (·.1) = false := by rfl) : EvE X B ρ (.Call (.Name "tuple" p) [e] [] pos) Φ :=
  pe_imp (pe_callTy call_tuple_of hg hm (by decide +kernel) (pa_cons h pa_nil he) (by decide) (by decide) he hpl) fun σ H Q ⟨E, k⟩ => ⟨E, fun v H1 d x1 E1 hd ⟨ds, hds, hΦ⟩ => by
    rcases hds with rfl | rfl
    · obtain ⟨a, xs, rfl, ha, _, r⟩ := Dn.list.mp hd
      exact ⟨a, xs, rfl, .inl ⟨SqL.of ha, fun l hl => k _ _ (.tuple ds) (x1.trans (Ext.new hl)) (E1.new hl) (Dn.tuple.mpr ⟨l, xs, rfl, upd_same, E1.nx hl, E1.dnAll (Ext.new hl) r⟩) hΦ⟩⟩
    · obtain ⟨a, xs, rfl, ha, na, r⟩ := Dn.tuple.mp hd
      exact ⟨a, xs, rfl, .inr ⟨SqT.of ha, k _ _ (.tuple ds) x1 E1 (Dn.tuple.mpr ⟨a, xs, rfl, ha, na, r⟩) hΦ⟩⟩⟩
/-- the items of xs[lo:hi] -/
def cutD (ds : List PyData) (lo hi : Option Int) : List PyData := (ds.drop (HT.sIx ds.length 0 lo)).take (HT.sIx ds.length ds.length hi - HT.sIx ds.length 0 lo)
def EvO (X : Cx) (B : Bs) (ρ : Rho) (e : Option Expr) (Θ : Option Int → Prop) : Prop := PO X e fun σ H Q => En B ρ σ H ∧ ∀ o H', Ext B H H' → En B ρ σ H' → Θ o → Q o H'
def sO (X : Cx) (e : Option Expr) : TO := fun σ H Q => ∃ t, PO X e t ∧ t σ H Q
theorem po_s {e : Option Expr} : PO X e (sO X e) := ⟨fun pins s σ H Q I ⟨t, h, q⟩ => h.run pins s σ H Q I q⟩
theorem po_imp {e : Option Expr} {t t' : TO} (h : PO X e t) (hi : ∀ σ H Q, t' σ H Q → t σ H Q) : PO X e t' := ⟨fun pins s σ H Q I q => h.run pins s σ H Q I (hi _ _ _ q)⟩
theorem eo_none {Θ : Option Int → Prop} (h : Θ none) : EvO X B ρ none Θ := po_imp po_none fun σ H Q ⟨E, k⟩ => k none H Ext.refl E h
theorem eo_some {Θ : Option Int → Prop} (h : EvE X B ρ e fun d => ∃ i, d = .int i ∧ Θ (some i)) : EvO X B ρ (some e) Θ := po_imp (po_some h) fun σ H Q ⟨E, k⟩ => ⟨E, fun v H1 d x1 E1 hd ⟨i, ei, hΘ⟩ => by
  subst ei
  exact ⟨i, Dn.int.mp hd, k (some i) H1 x1 E1 hΘ⟩⟩
theorem ef_slice {lo hi : Option Expr} (h : EvE X B ρ e fun d => EvO X B ρ lo fun l => EvO X B ρ hi fun u => ∃ ds, d = .list ds ∧ Ξ (cutD ds l u)) : EvF X B ρ (.Subscript e (.Slice lo hi none p2) pos) Ξ :=
  pe_imp (pe_slice sl_list h po_s po_s) fun σ H Q ⟨E, k⟩ => ⟨E, fun v H1 d x1 E1 hd h1 => ⟨_, h1, E1, fun l H2 x2 E2 h2 => ⟨_, h2, E2, fun u H3 x3 E3 ⟨ds, ed, hΞ⟩ => by
    subst ed
    have hd3 := E2.dn x3 (E1.dn x2 hd)
    obtain ⟨a, xs, rfl, ha, _, r⟩ := Dn.list.mp hd3
    refine ⟨a, xs, rfl, SqL.of ha, fun q hq => ?_⟩
    refine k q _ (cutD ds l u) _ ((x1.trans (x2.trans x3)).trans (Ext.new hq)) ((x1.trans (x2.trans x3)).none E3.ok hq) (E3.ok.new hq) (E3.add hq) upd_same (E3.nx hq) (DnAll.mono (exAdd hq) (fun y o e _ => by rw [upd_ne (ne_of_none e hq)]; exact e) _ _ ?_) hΞ
    unfold cutD cutV
    rw [r.length]
    exact (r.drop _).take _⟩⟩⟩
/-- t[lo:hi] of a tuple, not all of it -/
theorem ev_sliceT {lo hi : Option Expr} (h : EvE X B ρ e fun d => EvO X B ρ lo fun l => EvO X B ρ hi fun u => ∃ ds, d = .tuple ds ∧ ¬ (HT.sIx ds.length 0 l = 0 ∧ HT.sIx ds.length ds.length u = ds.length) ∧ Φ (.tuple (cutD ds l u))) : EvE X B ρ (.Subscript e (.Slice lo hi none p2) pos) Φ :=
  pe_imp (pe_slice sl_tup h po_s po_s) fun σ H Q ⟨E, k⟩ => ⟨E, fun v H1 d x1 E1 hd h1 => ⟨_, h1, E1, fun l H2 x2 E2 h2 => ⟨_, h2, E2, fun u H3 x3 E3 ⟨ds, ed, nw, hΦ⟩ => by
    subst ed
    have hd3 := E2.dn x3 (E1.dn x2 hd)
    obtain ⟨a, xs, rfl, ha, _, r⟩ := Dn.tuple.mp hd3
    refine ⟨a, xs, rfl, SqT.of ha, by rw [← r.length]; exact nw, fun q hq => ?_⟩
    refine k _ _ (.tuple (cutD ds l u)) ((x1.trans (x2.trans x3)).trans (Ext.new hq)) (E3.new hq) (Dn.tuple.mpr ⟨q, _, rfl, upd_same, E3.nx hq, ?_⟩) hΦ
    unfold cutD cutV
    rw [r.length]
    exact E3.dnAll (Ext.new hq) ((r.drop _).take _)⟩⟩⟩
/-! ### for .. in reversed(list) -/
theorem es_rev {tg : Expr} {T : PyData → Rho → (Rho → Prop) → Prop} (hp : PassesOwn (model X.prog X.w) X.A X.env X.xe) (hc : X.calm = true) (hgl : Gl X "reversed") (hm : X.mg "reversed" = none) (hg : EvG X B tg T)
    (h : EvE X B ρ a fun d => ∃ ds, d = .list ds ∧ LoopD X B ρ body P T ds.length fun k y => ds[ds.length - 1 - k]? = some y) (hst : starEach [a] X.env = [(false, eval a X.env)] := by rfl)
    (hs : ∀ x, foldedSetIterable (.Call (.Name "reversed" p) [a] [] p2) X.env x = pure x := by intro _; rfl) : EvS X B ρ (.For tg (.Call (.Name "reversed" p) [a] [] p2) body [] pos) P := by
  obtain ⟨g, p1, q1⟩ := hg
  refine ps_imp (ps_for hp hc (pi_reversed hgl hm (pa_cons h pa_nil hst) hst) p1 (pss_s (st := body)) hs) fun D σ H q => ⟨q.1, fun v H1 d x1 E1 hd ⟨ds, ed, W, w0, wt, wd⟩ => ?_⟩
  subst ed
  obtain ⟨a, xs, rfl, ha, na, hds⟩ := Dn.list.mp hd
  have hl := hds.length
  refine ⟨a, xs, rfl, SqL.of ha, fun i m σ' H' => m = xs.length - i ∧ i ≤ xs.length ∧ ∃ ρ', En B ρ' σ' H' ∧ XS B ρ σ H1 ρ' σ' H' ∧ W i ρ', ⟨xs.length, rfl, Nat.zero_le _, ρ, E1, XS.of_ext Ext.refl, w0⟩, ?_⟩
  rintro i m σ' H' ⟨rfl, hi, ρ', E', x', w'⟩
  have hq : SqL X.K H' a xs := SqL.of (x'.1 a _ ha (fun z => na (.inl (E1.ok.sx z))) fun z => na (.inr z))
  by_cases hlt : i < xs.length
  · have hj : xs.length - 1 - i < xs.length := by omega
    have hx : xs[xs.length - 1 - i]? = some xs[xs.length - 1 - i] := List.getElem?_eq_getElem hj
    obtain ⟨d, hdi, hdn⟩ := hds.get' hx
    refine .inr ⟨⟨hlt, xs, _, hq, hx⟩, fun σ2 H2 => ∃ ρ2, En B ρ2 σ2 H2 ∧ XS B ρ σ H1 ρ2 σ2 H2 ∧ W (i + 1) ρ2, fun σ2 H2 hn => ⟨xs.length - (i + 1), by omega, rfl, hlt, hn⟩, fun y H2 ⟨e2, hy⟩ => ?_⟩
    subst e2
    have e3 := hy xs hq
    rw [hx] at e3; cases e3
    exact turn_of (tg := tg) q1 (tS_ext q x1 E1) x' E' (Dn.mono (fun y z => z.elim (fun z => .inl (.inl z)) fun z => (x'.2 y z).imp .inr id) (fun y o e n => x'.1 y o e (fun z => n (.inl (E1.ok.sx z))) fun z => n (.inr z)) d _ hdn) (wt i d ρ' (by rw [hl]; exact hlt) (by rw [hl]; exact hdi) w') (H1 := H2)
  · have ei : i = xs.length := by omega
    refine .inl ⟨by show xs.length ≤ i; omega, ?_⟩
    rw [ei, ← hl] at w'
    exact q.2.1 ρ' σ' H' ((XS.of_ext x1).trans E1.ok x') E' (wd ρ' w')
/-! ### for a, b in zip(xs, ys), for i, x in enumerate(xs): the pairs are new tuples -/
theorem es_enum {tgs : List Expr} {kk : Nat} {T : PyData → Rho → (Rho → Prop) → Prop} (hp : PassesOwn (model X.prog X.w) X.A X.env X.xe) (hc : X.calm = true) (hgl : Gl X "enumerate") (hm : X.mg "enumerate" = none) (hg : EvG X B (.Tuple tgs kk p2) T)
    (h : EvE X B ρ a fun d => ∃ ds, d = .list ds ∧ LoopD X B ρ body P T ds.length fun k y => ∃ z, ds[k]? = some z ∧ y = .tuple [.int k, z]) (hst : starEach [a] X.env = [(false, eval a X.env)] := by rfl) {p3 : Pos}
    (hs : ∀ x, foldedSetIterable (.Call (.Name "enumerate" p) [a] [] p3) X.env x = pure x := by intro _; rfl) : EvS X B ρ (.For (.Tuple tgs kk p2) (.Call (.Name "enumerate" p) [a] [] p3) body [] pos) P := by
  obtain ⟨g, p1, q1⟩ := hg
  refine ps_imp (ps_for hp hc (pi_enum hgl hm (pa_cons h pa_nil hst) hst) p1 (pss_s (st := body)) hs) fun D σ H q => ⟨q.1, fun v H1 d x1 E1 hd ⟨ds, ed, W, w0, wt, wd⟩ => ?_⟩
  subst ed
  obtain ⟨a, xs, rfl, ha, na, hds⟩ := Dn.list.mp hd
  have hl := hds.length
  refine ⟨a, xs, rfl, SqL.of ha, fun i m σ' H' => m = xs.length - i ∧ i ≤ xs.length ∧ ∃ ρ', En B ρ' σ' H' ∧ XS B ρ σ H1 ρ' σ' H' ∧ W i ρ', ⟨xs.length, rfl, Nat.zero_le _, ρ, E1, XS.of_ext Ext.refl, w0⟩, ?_⟩
  rintro i m σ' H' ⟨rfl, hi, ρ', E', x', w'⟩
  have hq : SqL X.K H' a xs := SqL.of (x'.1 a _ ha (fun z => na (.inl (E1.ok.sx z))) fun z => na (.inr z))
  by_cases hlt : i < xs.length
  · have hx : xs[i]? = some xs[i] := List.getElem?_eq_getElem hlt
    obtain ⟨d, hdi, hdn⟩ := hds.get' hx
    refine .inr ⟨⟨xs, _, hq, hx⟩, fun σ2 H2 => ∃ ρ2, En B ρ2 σ2 H2 ∧ XS B ρ σ H1 ρ2 σ2 H2 ∧ W (i + 1) ρ2, fun σ2 H2 hn => ⟨xs.length - (i + 1), by omega, rfl, hlt, hn⟩, fun y H2 ⟨t, u, ey, ht, eH, hu⟩ => ?_⟩
    subst ey
    subst eH
    have e3 := hu xs hq
    rw [hx] at e3; cases e3
    have dn' := Dn.mono (ex' := exO B ρ' σ') (H' := H') (fun y z => z.elim (fun z => .inl (.inl z)) fun z => (x'.2 y z).imp .inr id) (fun y o e n => x'.1 y o e (fun z => n (.inl (E1.ok.sx z))) fun z => n (.inr z)) d _ hdn
    have E2 := E'.new (o := .tup [.int (i : Nat), xs[i]]) ht
    refine turn_of (tg := .Tuple tgs kk p2) q1 (tS_ext q x1 E1) (x'.trans E'.ok (XS.of_ext (Ext.new ht))) E2 (d := .tuple [.int i, d]) (Dn.tuple.mpr ⟨t, _, rfl, upd_same, E'.nx ht, ?_⟩) (wt i _ ρ' (by rw [hl]; exact hlt) ⟨d, hdi, rfl⟩ w') (H1 := H')
    exact DnAll.cons.mpr ⟨_, _, rfl, Dn.int.mpr rfl, DnAll.cons.mpr ⟨_, _, rfl, E'.dn (Ext.new ht) dn', DnAll.nil.mpr rfl⟩⟩
  · have ei : i = xs.length := by omega
    refine .inl ⟨⟨xs, hq, by omega⟩, ?_⟩
    rw [ei, ← hl] at w'
    exact q.2.1 ρ' σ' H' ((XS.of_ext x1).trans E1.ok x') E' (wd ρ' w')
theorem es_zip {tgs : List Expr} {kk : Nat} {T : PyData → Rho → (Rho → Prop) → Prop} (hp : PassesOwn (model X.prog X.w) X.A X.env X.xe) (hc : X.calm = true) (hgl : Gl X "zip") (hm : X.mg "zip" = none) (hg : EvG X B (.Tuple tgs kk p2) T)
    (h : EvE X B ρ a fun d => EvE X B ρ b fun f => ∃ ds es, d = .list ds ∧ f = .list es ∧ LoopD X B ρ body P T (min ds.length es.length) fun k y => ∃ z w, ds[k]? = some z ∧ es[k]? = some w ∧ y = .tuple [z, w])
    (hs2 : starEach [a, b] X.env = (false, eval a X.env) :: starEach [b] X.env := by rfl) (hs1 : starEach [b] X.env = (false, eval b X.env) :: starEach [] X.env := by rfl) {p3 : Pos} (hpl : (backTo p3 (starEach [b] X.env)).any (·.1) = false := by rfl)
    (hs : ∀ x, foldedSetIterable (.Call (.Name "zip" p) [a, b] [] p3) X.env x = pure x := by intro _; rfl) : EvS X B ρ (.For (.Tuple tgs kk p2) (.Call (.Name "zip" p) [a, b] [] p3) body [] pos) P := by
  obtain ⟨g, p1, q1⟩ := hg
  refine ps_imp (ps_for hp hc (pi_zip hgl hm (pa_cons h (pa_cons pe_s pa_nil hs1) hs2) hs2 hpl) p1 (pss_s (st := body)) hs) fun D σ H q => ⟨q.1, fun v H1 d x1 E1 hd hb => ⟨_, hb, E1, fun v2 H2 f x2 E2 hf ⟨ds, es, ed, ef, W, w0, wt, wd⟩ => ?_⟩⟩
  subst ed
  subst ef
  obtain ⟨a, xs, rfl, ha, na, hds⟩ := Dn.list.mp (E1.dn x2 hd)
  obtain ⟨c, ys, rfl, hcc, nc, hes⟩ := Dn.list.mp hf
  have hl := hds.length
  have hl2 := hes.length
  refine ⟨a, c, xs, ys, rfl, SqL.of ha, SqL.of hcc, fun i m σ' H' => m = min xs.length ys.length - i ∧ i ≤ min xs.length ys.length ∧ ∃ ρ', En B ρ' σ' H' ∧ XS B ρ σ H2 ρ' σ' H' ∧ W i ρ', ⟨_, rfl, Nat.zero_le _, ρ, E2, XS.of_ext Ext.refl, w0⟩, ?_⟩
  rintro i m σ' H' ⟨rfl, hi, ρ', E', x', w'⟩
  have hq : SqL X.K H' a xs := SqL.of (x'.1 a _ ha (fun z => na (.inl (E2.ok.sx z))) fun z => na (.inr z))
  have hq2 : SqL X.K H' c ys := SqL.of (x'.1 c _ hcc (fun z => nc (.inl (E2.ok.sx z))) fun z => nc (.inr z))
  by_cases hlt : i < min xs.length ys.length
  · have l1 : i < xs.length := by omega
    have l2 : i < ys.length := by omega
    have hx : xs[i]? = some xs[i] := List.getElem?_eq_getElem l1
    have hy : ys[i]? = some ys[i] := List.getElem?_eq_getElem l2
    obtain ⟨d, hdi, hdn⟩ := hds.get' hx
    obtain ⟨f, hfi, hfn⟩ := hes.get' hy
    refine .inr ⟨⟨xs, ys, _, _, hq, hq2, hx, hy⟩, fun σ2 H2' => ∃ ρ2, En B ρ2 σ2 H2' ∧ XS B ρ σ H2 ρ2 σ2 H2' ∧ W (i + 1) ρ2, fun σ2 H2 hn => ⟨min xs.length ys.length - (i + 1), by omega, rfl, hlt, hn⟩, fun y H3 ⟨t, u, w, ey, ht, eH, hu, hw⟩ => ?_⟩
    subst ey
    subst eH
    have e3 := hu xs hq
    rw [hx] at e3; cases e3
    have e4 := hw ys hq2
    rw [hy] at e4; cases e4
    have mv : ∀ d v, Dn (exO B ρ σ) H2 d v → Dn (exO B ρ' σ') H' d v := fun d v hdn => Dn.mono (fun y z => z.elim (fun z => .inl (.inl z)) fun z => (x'.2 y z).imp .inr id) (fun y o e n => x'.1 y o e (fun z => n (.inl (E2.ok.sx z))) fun z => n (.inr z)) d _ hdn
    have E3 := E'.new (o := .tup [xs[i], ys[i]]) ht
    refine turn_of (tg := .Tuple tgs kk p2) q1 (tS_ext q (x1.trans x2) E2) (x'.trans E'.ok (XS.of_ext (Ext.new ht))) E3 (d := .tuple [d, f]) (Dn.tuple.mpr ⟨t, _, rfl, upd_same, E'.nx ht, ?_⟩) (wt i _ ρ' (by rw [hl, hl2]; exact hlt) ⟨d, f, hdi, hfi, rfl⟩ w') (H1 := H')
    exact DnAll.cons.mpr ⟨_, _, rfl, E'.dn (Ext.new ht) (mv _ _ hdn), DnAll.cons.mpr ⟨_, _, rfl, E'.dn (Ext.new ht) (mv _ _ hfn), DnAll.nil.mpr rfl⟩⟩
  · have ei : i = min xs.length ys.length := by omega
    refine .inl ⟨⟨xs, ys, hq, hq2, by omega⟩, ?_⟩
    rw [ei, ← hl, ← hl2] at w'
    exact q.2.1 ρ' σ' H' (((XS.of_ext x1).trans E1.ok (XS.of_ext x2)).trans E2.ok x') E' (wd ρ' w')
/-! ### isinstance of data -/
def tyD : PyData → String
  | .none => "NoneType" | .bool _ => "bool" | .int _ => "int" | .str _ => "str" | .list _ => "list" | .tuple _ => "tuple" | .dict _ => "dict"
theorem tyD_of {K : PySem.W.Frag} {ex : Addr → Prop} {H : Hp} : ∀ {d : PyData} {v : V}, Dn ex H d v → TyX K H v (.type (tyD d))
  | .none, v, h => by rw [Dn.none.mp h]; exact .base .non
  | .bool b, v, h => by rw [Dn.bool.mp h]; exact .base (.bl b)
  | .int i, v, h => by rw [Dn.int.mp h]; exact .base (.int i)
  | .str x, v, h => by rw [Dn.str.mp h]; exact .base (.str x)
  | .list ds, v, h => by obtain ⟨a, xs, rfl, ha, _⟩ := Dn.list.mp h; exact .base (.lst ha)
  | .tuple ds, v, h => by obtain ⟨a, xs, rfl, ha, _⟩ := Dn.tuple.mp h; exact .base (.tup ha)
  | .dict _, v, h => by
    obtain ⟨a, rfl, _, ⟨L, ha, _⟩ | ⟨L, ha, _⟩⟩ := Dn.dict.mp h
    · exact .base (.dK ha)
    · exact .base (.dT ha)
/-- isinstance(e, T), T a built-in type -/
theorem ev_isi {T : String} {y : Str} (hg : Gl X "isinstance") (hm : X.mg "isinstance" = none) (hgT : Gl X y) (hmT : X.mg y = none) (hvT : bootBuiltins y = some (.type T)) (h : EvE X B ρ e fun d => ∃ c, kitB (tyD d) T = some c ∧ Φ (.bool c))
    (hn : y ≠ "__name__" := by decide) (hd : (y == ("__debug__" : Str)) = false := by decide)
    (he : starEach [e, .Name y p2] X.env = (false, eval e X.env) :: starEach [.Name y p2] X.env := by rfl) (he2 : starEach [.Name y p2] X.env = (false, eval (.Name y p2) X.env) :: starEach [] X.env := by rfl) {p3 : Pos}
    (hpl : (backTo p3 (starEach [.Name y p2] X.env)).any (·.1) = false := by rfl) : EvE X B ρ (.Call (.Name "isinstance" p) [e, .Name y p2] [] p3) Φ :=
  pe_imp (pe_callB call_isi hg hm (by decide +kernel) (pa_cons h (pa_cons (pe_bltn (v := .ty T) hgT hmT hvT rfl hn hd) pa_nil he2) he) (by decide) (by decide) he hpl) fun σ H Q ⟨E, k⟩ => ⟨E, fun v H1 d x1 E1 hd ⟨c, hc, hΦ⟩ =>
    ⟨v, .ty T, _, _, c, rfl, .ty T, tyD_of hd, kit_ty hc, k _ H1 _ x1 E1 (Dn.bool.mpr rfl) hΦ⟩⟩
end
end Vw

namespace Vw
open PySem PySem.Spec L2
open PyProof.Rows (envOfC)
section
variable {X : Cx} {B : Bs} {ρ : Rho} {e a b c : Expr} {es : List Expr} {p pos p2 : Pos} {Φ : PyData → Prop} {P : Po}
theorem ev_lst (h : EvA X B ρ es fun ss => ∃ ds, datsOf ss = some ds ∧ Nat.ble ds.length 1000 = true ∧ Φ (.list ds)) : EvE X B ρ (.List es pos) Φ := ev_of_f (ef_lst h) fun _ q => q
theorem ev_cat (h : EvE X B ρ a fun x => EvE X B ρ b fun y => ∃ ds es, x = .list ds ∧ y = .list es ∧ ds.length + es.length ≤ sizeLine ∧ Φ (.list (ds ++ es))) : EvE X B ρ (.BinOp a .Add b pos) Φ := ev_of_f (ef_cat h) fun _ q => q
theorem ev_list (hg : Gl X "list") (hm : X.mg "list" = none) (h : EvE X B ρ e fun d => ∃ ds, (d = .list ds ∨ d = .tuple ds) ∧ Φ (.list ds))
    (he : starEach [e] X.env = (false, eval e X.env) :: starEach [] X.env := by rfl) (hpl : (backTo pos (starEach [] X.env)).any (·.1) = false := by rfl) : EvE X B ρ (.Call (.Name "list" p) [e] [] pos) Φ := ev_of_f (ef_list hg hm h he hpl) fun _ q => q
theorem ev_slice {lo hi : Option Expr} (h : EvE X B ρ e fun d => EvO X B ρ lo fun l => EvO X B ρ hi fun u => ∃ ds, d = .list ds ∧ Φ (.list (cutD ds l u))) : EvE X B ρ (.Subscript e (.Slice lo hi none p2) pos) Φ := ev_of_f (ef_slice h) fun _ q => q
/-! ### a, b = x, y and a, b, c = x, y, z: the names are stored from the last -/
/-- the pair is made, taken apart again -/
theorem par_core {ts : List Expr} {es : List Expr} {kt k2 : Nat} {pt pt2 : Pos} {xs : List Str} {Θ : List Sl → Prop} (hc : X.calm = true) (h : EvA X B ρ es fun ss => ss.length = xs.length ∧ noOwn ss = true ∧ Θ ss) (hlen : xs.length ≤ 100)
    (hw : swappedStores [.Tuple ts kt pt] (.Tuple es k2 pt2) X.env = pure (some xs)) (hs : swapsWithSole [.Tuple ts kt pt] (.Tuple es k2 pt2) pos.line X.env = pure false) {pins : List (Addr × Obj)} {s : Shared} {σ : L2.St} {H : Hp} {D : Ends}
    (I : Inv X pins σ H s) (E : En B ρ σ H)
    (k : ∀ (vs : List V) (us : List Value) (ss : List Sl) (H1 : Hp) (s1 : Shared), Inv X pins σ H1 s1 → Ext B H H1 → En B ρ σ H1 → Vals vs us → SlAll B (exO B ρ σ) H1 ss vs → ss.length = xs.length → noOwn ss = true → Θ ss →
      wpAny (model X.prog X.w) X.A (assignInOrder (xs.reverse.map fun n => bindName X.env n) us.reverse) (fun _ s2 => SP X pins D .next s2) X.xe s1) :
    wpAny (model X.prog X.w) X.A (exec (.Assign [.Tuple ts kt pt] (.Tuple es k2 pt2) pos) X.env) (SP X pins D) X.xe s := by
  rw [exec_Assign_arm]
  refine wpAny_bind (wpAny_standAt ?_)
  rw [hs]
  refine wpAny_bind (wpAny_pure ?_)
  rw [if_neg (by decide)]
  refine wpAny_bind (PyProof.Rows.Tuple_ (thn (h.run _ pins s σ H (fun vs H1 => ∃ ss, Ext B H H1 ∧ En B ρ σ H1 ∧ SlAll B (exO B ρ σ) H1 ss vs ∧ ss.length = xs.length ∧ noOwn ss = true ∧ Θ ss) I ⟨E, fun vs H1 ss x1 E1 d1 h1 => ⟨ss, x1, E1, d1, h1⟩⟩)
    fun us s1 ⟨vs, H1, I1, rv, ss, x1, E1, d1, hl, hn, hΘ⟩ => ?_))
  have lu : us.length = xs.length := by rw [← rv.length, slAll_length d1, hl]
  refine wpAny_newObj_type ?_ (by show us.length ≤ sizeLine; rw [lu]; exact Nat.le_trans hlen (by decide))
  have I2 : Inv X pins σ H1 { s1 with heap := s1.heap.push { cls := .type "tuple", data := .seq us.toArray } } := I1.kept (t' := s1.toks) fun b o e => Heap.get?_push_of_some _ e
  rw [hw]
  refine wpAny_bind (wpAny_pure ?_)
  show wpAny (model X.prog X.w) X.A (do rule "assign.swapped-stores"; let items ← unpackItems (.ref s1.heap.objs.size) xs.length none; assignInOrder (xs.reverse.map fun n => bindName X.env n) items.reverse; pure Flow.next) _ _ _
  refine wpAny_bind (wpAny_rule (wpAny_bind ?_))
  have eu : xs.length = us.toArray.size := by simp [lu]
  rw [eu]
  refine PyProof.Rows.unpackItems_tuple (items := us.toArray) (I.ok.hd hc) (PyProof.Rows.IsTup.new s1.heap _) fun h' hx' => ?_
  have I3 := I2.kept (h' := h') (t' := s1.toks) fun b o e => hx' b o (Nat.ne_of_lt (Heap.lt_size e)) e
  exact wpAny_bind (thn (k vs us ss H1 _ I3 x1 E1 rv d1 hl hn hΘ) fun _ s2 q => wpAny_pure q)
theorem es_par2 (i j : Nat) {x y : Str} {px py pt : Pos} {kt k2 : Nat} {pt2 : Pos} (hc : X.calm = true) (hN : X.N.Nodup) (hi : X.N[i]? = some x) (hj : X.N[j]? = some y) (hx : X.env.scope.names.lookup x = some .local) (hy : X.env.scope.names.lookup y = some .local)
    (h : EvA X B ρ [a, b] fun ss => ∃ s t, ss = [s, t] ∧ noOwn ss = true ∧ P.nx ((ρ.set j (some t)).set i (some s))) (hw : swappedStores [.Tuple [.Name x px, .Name y py] kt pt] (.Tuple [a, b] k2 pt2) X.env = pure (some [x, y]) := by rfl)
    (hs : swapsWithSole [.Tuple [.Name x px, .Name y py] kt pt] (.Tuple [a, b] k2 pt2) pos.line X.env = pure false := by rfl) : EvS X B ρ (.Assign [.Tuple [.Name x px, .Name y py] kt pt] (.Tuple [a, b] k2 pt2) pos) P := by
  refine ⟨fun pins s σ H D I q => ?_⟩
  refine par_core (xs := [x, y]) (Θ := fun ss => ∃ s t, ss = [s, t] ∧ P.nx ((ρ.set j (some t)).set i (some s))) hc (pa_imp h fun σ H Q ⟨E, k⟩ => ⟨E, fun vs H1 ss x1 E1 d1 ⟨s, t, e, n, hp⟩ => k vs H1 ss x1 E1 d1 ⟨by rw [e]; rfl, n, s, t, e, hp⟩⟩) (Nat.le_of_ble_eq_true rfl) hw hs I q.1 ?_
  intro vs us ss H1 s1 I1 x1 E1 rv d1 hl hn ⟨s, t, e, hp⟩
  subst e
  obtain ⟨v, u, rfl, h1, h2⟩ := sl2 d1
  cases rv with
  | cons r1 rv =>
    cases rv with
    | cons r2 rv =>
      cases rv
      refine PyProof.Rows.assignInOrder_cons (wpAny_bindName (store_ok I1 hN hj (.inl hy) r2 (fun s2 I2 => ?_) (.inr hy)))
      refine PyProof.Rows.assignInOrder_cons (wpAny_bindName (store_ok I2 hN hi (.inl hx) r1 (fun s3 I3 => PyProof.Rows.assignInOrder_nil ?_) (.inr hx)))
      have no : ∀ {s : Sl}, noOwn [s] = true → ∀ ds, s ≠ .own ds := fun {s} n ds z => by subst z; cases n
      have n1 : noOwn [s] = true := by cases s <;> first | rfl | cases hn
      have n2 : noOwn [t] = true := by cases s <;> first | exact hn | cases hn
      have E2 := E1.set (i := j) (no n2) h2
      have h1' : SlOk B (exO B (ρ.set j (some t)) (σ.set j (some u))) H1 s v := slOk_mono (xo := exO B ρ σ) (fun x h => .inl (h.imp id (own_set fun ds z => no n2 ds (Option.some.inj z)))) (fun _ _ e _ => e) (fun _ _ _ e => e) h1
      have E3 := E2.set (i := i) (no n1) h1'
      refine ⟨_, H1, I3, q.2.1 _ _ H1 (((XS.of_ext x1).trans E1.ok (XS.set fun ds z => no n2 ds (Option.some.inj z))).trans E2.ok (XS.set fun ds z => no n1 ds (Option.some.inj z))) E3 hp⟩
theorem noOwn_cons {s : Sl} {ss : List Sl} (h : noOwn [s] = true) (h2 : noOwn ss = true) : noOwn (s :: ss) = true := by
  cases s with
  | own ds => cases h
  | dat d => exact h2
  | src => exact h2
  | raw u => exact h2
theorem sl3 {xo : Addr → Prop} {H : Hp} {s t r : Sl} {vs : List V} (h : SlAll B xo H [s, t, r] vs) : ∃ v u w, vs = [v, u, w] ∧ SlOk B xo H s v ∧ SlOk B xo H t u ∧ SlOk B xo H r w := by
  obtain ⟨v, q, e, h1, h2⟩ := h
  obtain ⟨u, w, e2, h3, h4⟩ := sl2 h2
  rw [e2] at e
  exact ⟨v, u, w, e, h1, h3, h4⟩
theorem es_par3 (i j l : Nat) {x y z : Str} {px py pz pt : Pos} {kt k2 : Nat} {pt2 : Pos} (hc : X.calm = true) (hN : X.N.Nodup) (hi : X.N[i]? = some x) (hj : X.N[j]? = some y) (hk : X.N[l]? = some z) (hx : X.env.scope.names.lookup x = some .local)
    (hy : X.env.scope.names.lookup y = some .local) (hz : X.env.scope.names.lookup z = some .local)
    (h : EvA X B ρ [a, b, c] fun ss => ∃ s t r, ss = [s, t, r] ∧ noOwn [s] = true ∧ noOwn [t] = true ∧ noOwn [r] = true ∧ P.nx (((ρ.set l (some r)).set j (some t)).set i (some s)))
    (hw : swappedStores [.Tuple [.Name x px, .Name y py, .Name z pz] kt pt] (.Tuple [a, b, c] k2 pt2) X.env = pure (some [x, y, z]) := by rfl)
    (hs : swapsWithSole [.Tuple [.Name x px, .Name y py, .Name z pz] kt pt] (.Tuple [a, b, c] k2 pt2) pos.line X.env = pure false := by rfl) :
    EvS X B ρ (.Assign [.Tuple [.Name x px, .Name y py, .Name z pz] kt pt] (.Tuple [a, b, c] k2 pt2) pos) P := by
  refine ⟨fun pins s σ H D I q => ?_⟩
  have no : ∀ {s : Sl}, noOwn [s] = true → ∀ ds, s ≠ .own ds := fun {s} n ds z => by subst z; cases n
  refine par_core (xs := [x, y, z]) (Θ := fun ss => ∃ s t r, ss = [s, t, r] ∧ noOwn [s] = true ∧ noOwn [t] = true ∧ noOwn [r] = true ∧ P.nx (((ρ.set l (some r)).set j (some t)).set i (some s))) hc
    (pa_imp h fun σ H Q ⟨E, k⟩ => ⟨E, fun vs H1 ss x1 E1 d1 ⟨s, t, r, e, n1, n2, n3, hp⟩ => k vs H1 ss x1 E1 d1 ⟨by rw [e]; rfl, by rw [e]; exact noOwn_cons n1 (noOwn_cons n2 n3), s, t, r, e, n1, n2, n3, hp⟩⟩) (Nat.le_of_ble_eq_true rfl) hw hs I q.1 ?_
  intro vs us ss H1 s1 I1 x1 E1 rv d1 hl hn ⟨s, t, r, e, n1, n2, n3, hp⟩
  subst e
  obtain ⟨v, u, w, rfl, h1, h2, h3⟩ := sl3 d1
  cases rv with
  | cons r1 rv =>
    cases rv with
    | cons r2 rv =>
      cases rv with
      | cons r3 rv =>
        cases rv
        refine PyProof.Rows.assignInOrder_cons (wpAny_bindName (store_ok I1 hN hk (.inl hz) r3 (fun s2 I2 => ?_) (.inr hz)))
        refine PyProof.Rows.assignInOrder_cons (wpAny_bindName (store_ok I2 hN hj (.inl hy) r2 (fun s3 I3 => ?_) (.inr hy)))
        refine PyProof.Rows.assignInOrder_cons (wpAny_bindName (store_ok I3 hN hi (.inl hx) r1 (fun s4 I4 => PyProof.Rows.assignInOrder_nil ?_) (.inr hx)))
        have mv : ∀ {ρ σ} {k : Nat} {s' : Sl} {v' : V} {s : Sl} {v : V}, noOwn [s'] = true → SlOk B (exO B ρ σ) H1 s v → SlOk B (exO B (ρ.set k (some s')) (σ.set k (some v'))) H1 s v := fun {ρ σ k s' v' s v} n h =>
          slOk_mono (xo := exO B ρ σ) (fun x h => .inl (h.imp id (own_set fun ds z => no n ds (Option.some.inj z)))) (fun _ _ e _ => e) (fun _ _ _ e => e) h
        have E2 := E1.set (i := l) (no n3) h3
        have E3 := E2.set (i := j) (no n2) (mv n3 h2)
        have E4 := E3.set (i := i) (no n1) (mv n2 (mv n3 h1))
        exact ⟨_, H1, I4, q.2.1 _ _ H1 ((((XS.of_ext x1).trans E1.ok (XS.set fun ds z => no n3 ds (Option.some.inj z))).trans E2.ok (XS.set fun ds z => no n2 ds (Option.some.inj z))).trans E3.ok (XS.set fun ds z => no n1 ds (Option.some.inj z))) E4 hp⟩
end
end Vw

namespace Vw
open PySem
/-! fractions as data -/
def fr (q : Rat) : PyData := .tuple [.int q.num, .int (q.den : Int)]
/-- both parts of a fraction are below 2 ^ k -/
def Sz (k : Nat) (q : Rat) : Prop := q.num.natAbs < 2 ^ k ∧ q.den < 2 ^ k
theorem fr_inj {p q : Rat} (h : fr p = fr q) : p = q := by
  unfold fr at h
  injection h with h
  injection h with h1 h2
  injection h1 with h1
  injection h2 with h2 _
  injection h2 with h2
  exact Rat.ext h1 (by omega)
theorem Sz.mono {j k : Nat} {q : Rat} (h : Sz j q) (l : j ≤ k) : Sz k q :=
  ⟨Nat.lt_of_lt_of_le h.1 (Nat.pow_le_pow_right (by decide) l), Nat.lt_of_lt_of_le h.2 (Nat.pow_le_pow_right (by decide) l)⟩
theorem den_pos (q : Rat) : (0 : Int) < (q.den : Int) := by have := q.den_nz; omega
/-- the lowest form of t over b -/
theorem low_num {t : Int} {b : Int} (hb : 0 < b) : ((t : Rat) / (b : Rat)).num = t / ((Nat.gcd t.natAbs b.natAbs : Nat) : Int) := by
  obtain ⟨n, rfl⟩ : ∃ n : Nat, b = (n : Int) := ⟨b.toNat, by omega⟩
  have hn : n ≠ 0 := by omega
  have e : (t : Rat) / (((n : Nat) : Int) : Rat) = mkRat t n := by rw [Rat.mkRat_eq_div]; rfl
  rw [e]
  unfold mkRat
  rw [dif_neg hn, Rat.normalize_eq]
  rfl
theorem low_den {t : Int} {b : Int} (hb : 0 < b) : ((((t : Rat) / (b : Rat)).den : Nat) : Int) = b / ((Nat.gcd t.natAbs b.natAbs : Nat) : Int) := by
  obtain ⟨n, rfl⟩ : ∃ n : Nat, b = (n : Int) := ⟨b.toNat, by omega⟩
  have hn : n ≠ 0 := by omega
  have e : (t : Rat) / (((n : Nat) : Int) : Rat) = mkRat t n := by rw [Rat.mkRat_eq_div]; rfl
  rw [e]
  unfold mkRat
  rw [dif_neg hn, Rat.normalize_eq]
  simp
theorem num_div (q : Rat) : q = (q.num : Rat) / ((q.den : Int) : Rat) := by
  have := Rat.mkRat_self q
  rw [Rat.mkRat_eq_div] at this
  exact this.symm
theorem den_ne (q : Rat) : ((q.den : Int) : Rat) ≠ 0 := by
  intro h
  have := q.den_nz
  have h2 : ((q.den : Int) : Rat) = ((0 : Int) : Rat) := h
  have h3 := Rat.intCast_inj.mp h2
  omega
theorem low_sz {t : Int} {b : Int} {k : Nat} (hb : 0 < b) (h1 : t.natAbs < 2 ^ k) (h2 : b.natAbs < 2 ^ k) : Sz k ((t : Rat) / (b : Rat)) := by
  constructor
  · rw [low_num hb]
    refine Nat.lt_of_le_of_lt ?_ h1
    exact Int.natAbs_ediv_le_natAbs _ _
  · have e := low_den (t := t) hb
    have h3 : b / ((Nat.gcd t.natAbs b.natAbs : Nat) : Int) ≤ b := Int.ediv_le_self _ (by omega)
    omega
theorem add_eq (p q : Rat) : p + q = ((p.num * (q.den : Int) + q.num * (p.den : Int) : Int) : Rat) / (((p.den : Int) * (q.den : Int) : Int) : Rat) := by
  have hp := num_div p
  have hq := num_div q
  have h1 := den_ne p
  have h2 := den_ne q
  rw [Rat.intCast_add, Rat.intCast_mul, Rat.intCast_mul, Rat.intCast_mul]
  generalize ((p.den : Int) : Rat) = pd at *
  generalize ((q.den : Int) : Rat) = qd at *
  generalize (p.num : Rat) = pn at *
  generalize (q.num : Rat) = qn at *
  subst hp hq
  grind
theorem sub_eq (p q : Rat) : p - q = ((p.num * (q.den : Int) - q.num * (p.den : Int) : Int) : Rat) / (((p.den : Int) * (q.den : Int) : Int) : Rat) := by
  have hp := num_div p
  have hq := num_div q
  have h1 := den_ne p
  have h2 := den_ne q
  rw [Rat.intCast_sub, Rat.intCast_mul, Rat.intCast_mul, Rat.intCast_mul]
  generalize ((p.den : Int) : Rat) = pd at *
  generalize ((q.den : Int) : Rat) = qd at *
  generalize (p.num : Rat) = pn at *
  generalize (q.num : Rat) = qn at *
  subst hp hq
  grind
theorem mul_eq (p q : Rat) : p * q = ((p.num * q.num : Int) : Rat) / (((p.den : Int) * (q.den : Int) : Int) : Rat) := by
  have hp := num_div p
  have hq := num_div q
  have h1 := den_ne p
  have h2 := den_ne q
  rw [Rat.intCast_mul, Rat.intCast_mul]
  generalize ((p.den : Int) : Rat) = pd at *
  generalize ((q.den : Int) : Rat) = qd at *
  generalize (p.num : Rat) = pn at *
  generalize (q.num : Rat) = qn at *
  subst hp hq
  grind
theorem mul_lt2 {i j : Int} {a b : Nat} (ha : i.natAbs < 2 ^ a) (hb : j.natAbs < 2 ^ b) : (i * j).natAbs < 2 ^ (a + b) := L2.wide_lt ha hb
theorem add_lt2 {i j : Int} {a : Nat} (ha : i.natAbs < 2 ^ a) (hb : j.natAbs < 2 ^ a) : (i + j).natAbs < 2 ^ (a + 1) := by
  have := Int.natAbs_add_le i j
  rw [Nat.pow_succ]
  omega
theorem lt2_mono {i : Int} {a b : Nat} (ha : i.natAbs < 2 ^ a) (h : a ≤ b) : i.natAbs < 2 ^ b := Nat.lt_of_lt_of_le ha (Nat.pow_le_pow_right (by decide) h)
theorem Sz.add {a b : Nat} {p q : Rat} (hp : Sz a p) (hq : Sz b q) : Sz (a + b + 1) (p + q) := by
  rw [add_eq]
  have h0 := den_pos p
  have h1 := den_pos q
  refine low_sz (Int.mul_pos h0 h1) (add_lt2 (mul_lt2 hp.1 (by simpa using hq.2)) ?_) (lt2_mono (mul_lt2 (by simpa using hp.2) (by simpa using hq.2)) (by omega))
  rw [Nat.add_comm]
  exact mul_lt2 hq.1 (by simpa using hp.2)
theorem Sz.sub {a b : Nat} {p q : Rat} (hp : Sz a p) (hq : Sz b q) : Sz (a + b + 1) (p - q) := by
  rw [sub_eq]
  have h0 := den_pos p
  have h1 := den_pos q
  have e : p.num * (q.den : Int) - q.num * (p.den : Int) = p.num * (q.den : Int) + (-q.num) * (p.den : Int) := by rw [Int.neg_mul]; omega
  rw [e]
  refine low_sz (Int.mul_pos h0 h1) (add_lt2 (mul_lt2 hp.1 (by simpa using hq.2)) ?_) (lt2_mono (mul_lt2 (by simpa using hp.2) (by simpa using hq.2)) (by omega))
  rw [Nat.add_comm]
  exact mul_lt2 (by simpa using hq.1) (by simpa using hp.2)
theorem Sz.mul {a b : Nat} {p q : Rat} (hp : Sz a p) (hq : Sz b q) : Sz (a + b) (p * q) := by
  rw [mul_eq]
  exact low_sz (Int.mul_pos (den_pos p) (den_pos q)) (mul_lt2 hp.1 hq.1) (mul_lt2 (by simpa using hp.2) (by simpa using hq.2))
end Vw

namespace Vw
open PySem PySem.Spec L2
/-- below 2 ^ k, of either sign -/
def Lt2 (i : Int) (k : Nat) : Prop := i.natAbs < 2 ^ k
theorem Lt2.mono {i : Int} {a b : Nat} (h : Lt2 i a) (l : a ≤ b) : Lt2 i b := lt2_mono h l
theorem mulm {i j : Int} {a b : Nat} (ha : Lt2 i a) (hb : Lt2 j b) : Lt2 (i * j) (a + b) := L2.wide_lt ha hb
theorem addm {i j : Int} {a b : Nat} (ha : Lt2 i a) (hb : Lt2 j b) : Lt2 (i + j) (a + b + 1) :=
  add_lt2 (lt2_mono ha (Nat.le_add_right a b)) (lt2_mono hb (Nat.le_add_left b a))
theorem addx {i j : Int} {a b : Nat} (ha : Lt2 i a) (hb : Lt2 j b) : Lt2 (i + j) (max a b + 1) :=
  add_lt2 (lt2_mono ha (Nat.le_max_left a b)) (lt2_mono hb (Nat.le_max_right a b))
theorem negm {i : Int} {a : Nat} (ha : Lt2 i a) : Lt2 (-i) a := by unfold Lt2; rw [Int.natAbs_neg]; exact ha
theorem subx {i j : Int} {a b : Nat} (ha : Lt2 i a) (hb : Lt2 j b) : Lt2 (i - j) (max a b + 1) := by
  rw [Int.sub_eq_add_neg]
  exact addx ha (negm hb)
theorem Sz.nn {k : Nat} {q : Rat} (h : Sz k q) : Lt2 q.num k := h.1
theorem Sz.dd {k : Nat} {q : Rat} (h : Sz k q) : Lt2 (q.den : Int) k := by unfold Lt2; simpa using h.2
theorem litm {i : Int} (h : i.natAbs < 18446744073709551616 := by decide) : Lt2 i 64 := h
theorem w_mul {i j : Int} {a b : Nat} (ha : Lt2 i a) (hb : Lt2 j b) (h : a + b ≤ 999998) : CMulW i j := by
  exact wide_mul (a := a + 1) (b := b + 1) (lt2_mono ha (by omega)) (lt2_mono hb (by omega)) (by omega) (by omega) (by omega)
theorem w_div {i j : Int} {b : Nat} (h : 0 < j) (hb : Lt2 j b) (h9 : b ≤ 8999) : CDivW i j := wide_div (b := b + 1) h (lt2_mono hb (by omega)) (by omega) (by omega)
theorem w_divZ {i j : Int} {b : Nat} (h : j ≠ 0) (hb : Lt2 j b) (h9 : b ≤ 8999) : CDivZ i j := ⟨h, Nat.lt_of_lt_of_le (PySem.Flt.log2_lt_of (show 0 < b + 1 by omega) (lt2_mono hb (by omega))) (by omega)⟩
theorem w_sz {i j : Nat} {q : Rat} (h : Sz i q) (l : i ≤ j) : Sz j q := h.mono l
/-- the place of a name -/
inductive At : List Str → Nat → Str → Prop where
  | here {x : Str} {r : List Str} : At (x :: r) 0 x
  | there {x y : Str} {r : List Str} {i : Nat} : At r i x → At (y :: r) (i + 1) x
theorem At.get {N : List Str} {i : Nat} {x : Str} (h : At N i x) : N[i]? = some x := by
  induction h with
  | here => rfl
  | there _ ih => simpa using ih
/-- a text's names that are built-in -/
structure Txt (mg : Str → Option Value) : Prop where
  gcd : mg "gcd" = some (.builtin "math.gcd")
  abs : mg "abs" = none
  len : mg "len" = none
  int : mg "int" = none
  bool : mg "bool" = none
  tuple : mg "tuple" = none
  list : mg "list" = none
  range : mg "range" = none
  repr : mg "repr" = none
  reversed : mg "reversed" = none
  divmod : mg "divmod" = none
  isinstance : mg "isinstance" = none
/-- a frame's text -/
structure Same (X : Cx) (P : Program) (w : World) (K : PySem.W.Frag) (mg : Str → Option Value) (base : Heap) (N : List Str) : Prop where
  p : X.prog = P
  w : X.w = w
  k : X.K = K
  m : X.mg = mg
  b : X.base = base
  n : X.N = N
  nd : X.N.Nodup
  c : X.calm = true
  po : PassesOwn (model X.prog X.w) X.A X.env X.xe
section
variable {X : Cx} {B : Bs} {ρ : Rho} {e a b : Expr} {es : List Expr} {p pos : Pos} {Φ : PyData → Prop} {P0 : Po} {P : Program} {w : World} {K : PySem.W.Frag} {mg : Str → Option Value} {base : Heap} {N : List Str} {k : Nat} {x : Str} {st : Stmt} {ps : List Str} {R : List Sl → (PyData → Prop) → Prop}
theorem ev_nm (S : Same X P w K mg base N) {i : Nat} {d : PyData} (ha : At N i x) (hr : ρ[i]? = some (some (.dat d))) (hv : Vis X.env.scope x) (h : Φ d) (hd : (x == ("__debug__" : Str)) = false := by decide) (hcd : (x == ("__classdict__" : Str)) = false := by decide) : EvE X B ρ (.Name x pos) Φ :=
  ev_name i hr (by rw [S.n]; exact ha.get) hv h hd hcd
theorem ea_src (S : Same X P w K mg base N) {i : Nat} {s : Sl} {Θ : List Sl → Prop} (ha : At N i x) (hr : ρ[i]? = some (some s)) (hso : s = .src ∨ ∃ v, s = .raw v) (hv : Vis X.env.scope x) (h : EvA X B ρ es fun ss => Θ (s :: ss))
    (hd : (x == ("__debug__" : Str)) = false := by decide) (hcd : (x == ("__classdict__" : Str)) = false := by decide) (hs : starEach (.Name x pos :: es) X.env = (false, eval (.Name x pos) X.env) :: starEach es X.env := by rfl) : EvA X B ρ (.Name x pos :: es) Θ :=
  ea_raw i hr hso (by rw [S.n]; exact ha.get) hv h hd hcd hs
theorem es_st (S : Same X P w K mg base N) {i : Nat} {pos' : Pos} (ha : At N i x) (hx : Loc X.env.scope x) (h : EvE X B ρ e fun d => P0.nx (ρ.set i (some (.dat d)))) (hs : swapsWith e (some (.Name x pos')) pos.line X.env = pure false := by rfl)
    (hf : X.fn x = true ∨ X.env.scope.names.lookup x = some .local := by first | exact .inl rfl | exact .inr rfl | assumption) : EvS X B ρ (.Assign [.Name x pos'] e pos) P0 :=
  es_set i S.nd (by rw [S.n]; exact ha.get) hx h hs hf
theorem es_stF (S : Same X P w K mg base N) {i : Nat} {pos' : Pos} (ha : At N i x) (hx : Loc X.env.scope x) (h : EvF X B ρ e fun ds => P0.nx (ρ.set i (some (.own ds)))) (hs : swapsWith e (some (.Name x pos')) pos.line X.env = pure false := by rfl)
    (hf : X.fn x = true ∨ X.env.scope.names.lookup x = some .local := by first | exact .inl rfl | exact .inr rfl | assumption) : EvS X B ρ (.Assign [.Name x pos'] e pos) P0 :=
  es_setF i S.nd (by rw [S.n]; exact ha.get) hx h hs hf
theorem eg_nm (S : Same X P w K mg base N) {i : Nat} (ha : At N i x) (hx : Loc X.env.scope x) (hf : X.fn x = true ∨ X.env.scope.names.lookup x = some .local := by first | exact .inl rfl | exact .inr rfl | assumption) :
    EvG X B (.Name x pos) fun d ρ C => C (ρ.set i (some (.dat d))) := eg_name i S.nd (by rw [S.n]; exact ha.get) hx hf
theorem es_p2 (S : Same X P w K mg base N) {i j : Nat} {x y : Str} {px py pt : Pos} {kt k2 : Nat} {pt2 : Pos} (hi : At N i x) (hj : At N j y) (hx : X.env.scope.names.lookup x = some .local) (hy : X.env.scope.names.lookup y = some .local)
    (h : EvE X B ρ a fun d => EvE X B ρ b fun f => P0.nx ((ρ.set j (some (.dat f))).set i (some (.dat d)))) (hw : swappedStores [.Tuple [.Name x px, .Name y py] kt pt] (.Tuple [a, b] k2 pt2) X.env = pure (some [x, y]) := by rfl)
    (hs : swapsWithSole [.Tuple [.Name x px, .Name y py] kt pt] (.Tuple [a, b] k2 pt2) pos.line X.env = pure false := by rfl)
    (s1 : starEach [a, b] X.env = (false, eval a X.env) :: starEach [b] X.env := by rfl) (s2 : starEach [b] X.env = (false, eval b X.env) :: starEach [] X.env := by rfl) : EvS X B ρ (.Assign [.Tuple [.Name x px, .Name y py] kt pt] (.Tuple [a, b] k2 pt2) pos) P0 :=
  es_par2 i j S.c S.nd (by rw [S.n]; exact hi.get) (by rw [S.n]; exact hj.get) hx hy (ea_cons (ev_mono h fun d h1 => ea_cons (ev_mono h1 fun f h2 => ea_nil ⟨.dat d, .dat f, rfl, rfl, h2⟩) s2) s1) hw hs
theorem es_p3 (S : Same X P w K mg base N) {i j l : Nat} {c : Expr} {x y z : Str} {px py pz pt : Pos} {kt k2 : Nat} {pt2 : Pos} (hi : At N i x) (hj : At N j y) (hl : At N l z) (hx : X.env.scope.names.lookup x = some .local) (hy : X.env.scope.names.lookup y = some .local) (hz : X.env.scope.names.lookup z = some .local)
    (h : EvE X B ρ a fun d => EvE X B ρ b fun f => EvE X B ρ c fun g => P0.nx (((ρ.set l (some (.dat g))).set j (some (.dat f))).set i (some (.dat d)))) (hw : swappedStores [.Tuple [.Name x px, .Name y py, .Name z pz] kt pt] (.Tuple [a, b, c] k2 pt2) X.env = pure (some [x, y, z]) := by rfl)
    (hs : swapsWithSole [.Tuple [.Name x px, .Name y py, .Name z pz] kt pt] (.Tuple [a, b, c] k2 pt2) pos.line X.env = pure false := by rfl)
    (s1 : starEach [a, b, c] X.env = (false, eval a X.env) :: starEach [b, c] X.env := by rfl) (s2 : starEach [b, c] X.env = (false, eval b X.env) :: starEach [c] X.env := by rfl) (s3 : starEach [c] X.env = (false, eval c X.env) :: starEach [] X.env := by rfl) :
    EvS X B ρ (.Assign [.Tuple [.Name x px, .Name y py, .Name z pz] kt pt] (.Tuple [a, b, c] k2 pt2) pos) P0 :=
  es_par3 i j l S.c S.nd (by rw [S.n]; exact hi.get) (by rw [S.n]; exact hj.get) (by rw [S.n]; exact hl.get) hx hy hz (ea_cons (ev_mono h fun d h1 => ea_cons (ev_mono h1 fun f h2 => ea_cons (ev_mono h2 fun g h3 => ea_nil ⟨.dat d, .dat f, .dat g, rfl, rfl, rfl, rfl, h3⟩) s3) s2) s1) hw hs
theorem ev_ca (S : Same X P w K mg base N) (F : Fi P w K mg base k x st ps R) {j : Nat} (hr : Rm j X.A) (hk : k ≤ j) (hg : Gl X x) (h : EvA X B ρ (e :: es) fun ss => noOwn ss = true ∧ R ss Φ)
    (hdb : (x == ("__debug__" : Str)) = false := by decide) (he : starEach (e :: es) X.env = (false, eval e X.env) :: starEach es X.env := by rfl) (hpl : (backTo pos (starEach es X.env)).any (·.1) = false := by rfl) :
    EvE X B ρ (.Call (.Name x p) (e :: es) [] pos) Φ := by
  have F' : Fi X.prog X.w X.K X.mg X.base k x st ps R := by rw [S.p, S.w, S.k, S.m, S.b]; exact F
  exact ev_call F' (hr.mono hk) hg h hdb he hpl
theorem ev_kw {kws : List Keyword} (S : Same X P w K mg base N) (ks : List Str) (pm : List Nat) (F : Fi P w K mg base k x st ps R) {j : Nat} (hr : Rm j X.A) (hk : k ≤ j) (hg : Gl X x)
    (hb : ∀ (kV doc pm' : Value) (an : Option Addr) (cdv ct : Value) (ws : List Value), ws.length = ks.length → bindArgs (PySem.W.fnOf x x (defArgs st) (defBody st) (defScope st) .none kV doc pm' an cdv ct) ⟨[], ks.zip ws⟩ = pure (ps.zip (pick pm ws)))
    (h : EvK X B ρ kws fun ss => ss.length = ks.length ∧ noOwn (pick pm ss) = true ∧ R (pick pm ss) Φ)
    (hall : (backToKw pos (keywordEach kws X.env)).all (·.1.isSome) = true := by rfl) (hks : (backToKw pos (keywordEach kws X.env)).filterMap (·.1) = ks := by rfl)
    (hdb : (x == ("__debug__" : Str)) = false := by decide)
    (hpl : ((backTo pos (starEach [] X.env)).any (·.1) || (backToKw pos (keywordEach kws X.env)).any (·.1.isNone)) = false := by rfl) :
    EvE X B ρ (.Call (.Name x p) [] kws pos) Φ := by
  have F' : Fi X.prog X.w X.K X.mg X.base k x st ps R := by rw [S.p, S.w, S.k, S.m, S.b]; exact F
  exact ev_callK ks pm F' (hr.mono hk) hg hb h hall hks hdb hpl
/-! built-in ones -/
theorem ev_gcd (S : Same X P w K mg base N) (T : Txt mg) (hg : Gl X "gcd") (h : EvE X B ρ a fun x => EvE X B ρ b fun y => ∃ i j : Int, x = .int i ∧ y = .int j ∧ Φ (.int (Nat.gcd i.natAbs j.natAbs : Nat)))
    (he : starEach [a, b] X.env = (false, eval a X.env) :: starEach [b] X.env := by rfl) (he2 : starEach [b] X.env = (false, eval b X.env) :: starEach [] X.env := by rfl) (hpl : (backTo pos (starEach [b] X.env)).any (·.1) = false := by rfl) : EvE X B ρ (.Call (.Name "gcd" p) [a, b] [] pos) Φ :=
  ev_callBf cr_gcd hg (by rw [S.m]; exact T.gcd) (ea_cons (ev_mono h fun d h1 => ea_cons (ev_mono h1 fun f ⟨i, j, e1, e2, h2⟩ => by subst e1 e2; exact ea_nil (cd_gcd h2)) he2) he) (by decide) he hpl
theorem ev_abs (S : Same X P w K mg base N) (T : Txt mg) (hg : Gl X "abs") (h : EvE X B ρ a fun x => ∃ i : Int, x = .int i ∧ Φ (.int (if i < 0 then -i else i)))
    (he : starEach [a] X.env = (false, eval a X.env) :: starEach [] X.env := by rfl) (hpl : (backTo pos (starEach [] X.env)).any (·.1) = false := by rfl) : EvE X B ρ (.Call (.Name "abs" p) [a] [] pos) Φ :=
  ev_callB call_abs hg (by rw [S.m]; exact T.abs) (by decide +kernel) (ea_cons (ev_mono h fun d ⟨i, e1, h2⟩ => by subst e1; exact ea_nil (cd_abs h2)) he) (by decide) (by decide) he hpl
theorem ev_toint (S : Same X P w K mg base N) (T : Txt mg) (hg : Gl X "int") (h : EvE X B ρ a fun x => ∃ i : Int, x = .int i ∧ Φ (.int i))
    (he : starEach [a] X.env = (false, eval a X.env) :: starEach [] X.env := by rfl) (hpl : (backTo pos (starEach [] X.env)).any (·.1) = false := by rfl) : EvE X B ρ (.Call (.Name "int" p) [a] [] pos) Φ :=
  ev_callTy call_int1 hg (by rw [S.m]; exact T.int) (by decide +kernel) (ea_cons (ev_mono h fun d ⟨i, e1, h2⟩ => by subst e1; exact ea_nil (cd_int h2)) he) (by decide) (by decide) he hpl
theorem ev_len (S : Same X P w K mg base N) (T : Txt mg) (hg : Gl X "len") (h : EvE X B ρ a fun x => ∃ ds, (x = .list ds ∨ x = .tuple ds) ∧ Φ (.int ds.length))
    (he : starEach [a] X.env = (false, eval a X.env) :: starEach [] X.env := by rfl) (hpl : (backTo pos (starEach [] X.env)).any (·.1) = false := by rfl) : EvE X B ρ (.Call (.Name "len" p) [a] [] pos) Φ :=
  ev_callB call_len hg (by rw [S.m]; exact T.len) (by decide +kernel) (ea_cons (ev_mono h fun d ⟨ds, e1, h2⟩ => ea_nil (cd_len e1 h2)) he) (by decide) (by decide) he hpl
theorem ev_repr (S : Same X P w K mg base N) (T : Txt mg) {j : Nat} (hr : Rm j X.A) (hg : Gl X "repr") (h : EvE X B ρ a fun d => (d.showable = true ∧ (d.hasDict = false ∨ flatD d = true) ∧ d.shown.length ≤ sizeLine ∧ d.depth ≤ 100) ∧ Φ (.str d.shown))
    (he : starEach [a] X.env = (false, eval a X.env) :: starEach [] X.env := by rfl) (hpl : (backTo pos (starEach [] X.env)).any (·.1) = false := by rfl) : EvE X B ρ (.Call (.Name "repr" p) [a] [] pos) Φ :=
  ev_callB (call_repr (hr.mono (Nat.zero_le _))) hg (by rw [S.m]; exact T.repr) (by decide +kernel) (ea_cons (ev_mono h fun d ⟨⟨h1, h2, h3, h4⟩, h5⟩ => ea_nil (cd_repr h1 h2 h3 h4 h5)) he) (by decide) (by decide) he hpl
/-- a def of the text, its frame's facts at hand -/
theorem fi_ofS {f : Addr} {fd : FuncData} (F : Fun K x x st f fd) (C : FnScope N ps (defScope st))
    (hm : mg x = some (.ref f)) (hb : Binds K fd ps []) (len : ∀ ss Φ, R ss Φ → ss.length = ps.length ∧ noOwn ss = true)
    (body : ∀ (X : Cx) (B : Bs) (ss : List Sl) (Φ : PyData → Prop), (∃ cdv A out s H, X = (cxOf CX0 P w K mg base N x (defScope st) f cdv A out s H E0).nox) → Same X P w K mg base N → Rm k X.A → R ss Φ →
      EvB X B (rho0 N ss) (defBody st) { nx := fun _ => Φ .none, rt := Φ }) : Fi P w K mg base (k + 1) x st ps R :=
  fi_of F C hm hb len fun cdv A out s H B ss Φ hr h => body _ B ss Φ ⟨cdv, A, out, s, H, rfl⟩ ⟨rfl, rfl, rfl, rfl, rfl, rfl, C.nd, rfl, PassesOwn.never⟩ hr h
/-! subscripts -/
theorem ix_fr0 {q : Rat} (h : Φ (.int q.num)) : ∃ ds i d, (fr q = .tuple ds ∨ fr q = .list ds) ∧ (PyData.int 0) = .int i ∧ atI ds i = some d ∧ Φ d := ⟨_, 0, _, .inl rfl, rfl, rfl, h⟩
theorem ix_fr1 {q : Rat} (h : Φ (.int (q.den : Int))) : ∃ ds i d, (fr q = .tuple ds ∨ fr q = .list ds) ∧ (PyData.int 1) = .int i ∧ atI ds i = some d ∧ Φ d := ⟨_, 1, _, .inl rfl, rfl, rfl, h⟩
theorem ix_lst {ds : List PyData} {i : Int} {d : PyData} (e : atI ds i = some d) (h : Φ d) : ∃ ds' i' d', (PyData.list ds = .tuple ds' ∨ PyData.list ds = .list ds') ∧ (PyData.int i) = .int i' ∧ atI ds' i' = some d' ∧ Φ d' := ⟨_, _, _, .inr rfl, rfl, e, h⟩
theorem ix_tup {ds : List PyData} {i : Int} {d : PyData} (e : atI ds i = some d) (h : Φ d) : ∃ ds' i' d', (PyData.tuple ds = .tuple ds' ∨ PyData.tuple ds = .list ds') ∧ (PyData.int i) = .int i' ∧ atI ds' i' = some d' ∧ Φ d' := ⟨_, _, _, .inl rfl, rfl, e, h⟩
/-- asks of data of one kind -/
theorem asInt {Ψ : Int → Prop} {i : Int} (h : Ψ i) : ∃ j, PyData.int i = .int j ∧ Ψ j := ⟨i, rfl, h⟩
theorem asInt2 {Ψ : Int → Int → Prop} {i k : Int} (h : Ψ i k) : ∃ j l, PyData.int i = .int j ∧ PyData.int k = .int l ∧ Ψ j l := ⟨i, k, rfl, rfl, h⟩
theorem asBool {Ψ : Bool → Prop} {i : Bool} (h : Ψ i) : ∃ j, PyData.bool i = .bool j ∧ Ψ j := ⟨i, rfl, h⟩
theorem asAnd {A C : Prop} {i : Bool} (h : i = true → A) (h2 : i = false → C) : ∃ j, PyData.bool i = .bool j ∧ (j = true → A) ∧ (j = false → C) := ⟨i, rfl, h, h2⟩
theorem asOr {A C : Prop} {i : Bool} (h : i = false → A) (h2 : i = true → C) : ∃ j, PyData.bool i = .bool j ∧ (j = false → A) ∧ (j = true → C) := ⟨i, rfl, h, h2⟩
end
end Vw
namespace Vw
theorem onT {c : Bool} {A C : Prop} (h : c = true) (k : A) : (c = true → A) ∧ (c = false → C) := ⟨fun _ => k, fun z => by rw [h] at z; cases z⟩
theorem onF {c : Bool} {A C : Prop} (h : c = false) (k : C) : (c = true → A) ∧ (c = false → C) := ⟨fun z => (by rw [h] at z; cases z), fun _ => k⟩
theorem onT' {c : Bool} {A C : Prop} (h : c = true) (k : A) : (c = false → C) ∧ (c = true → A) := ⟨fun z => (by rw [h] at z; cases z), fun _ => k⟩
theorem onF' {c : Bool} {A C : Prop} (h : c = false) (k : C) : (c = false → C) ∧ (c = true → A) := ⟨fun _ => k, fun z => (by rw [h] at z; cases z)⟩
end Vw

namespace Vw
open PySem PySem.Spec L2
/-! comprehensions with a test -/
def CompDI (X : Cx) (scope : Scope) (B : Bs) (ρ : Rho) (vs : List Nat) (elt cnd : Expr) (T : PyData → Rho → (Rho → Prop) → Prop) (n : Nat) (at_ : Nat → PyData → Prop) (Ξ : List PyData → Prop) : Prop := ∃ J : Nat → List PyData → Prop, J 0 [] ∧
  (∀ k d acc (B' : Bs), B'.src = B.src → k < n → at_ k d → J k acc → T d (blkR ρ vs) fun ρ2 =>
    ∀ (s : Shared) (H : Hp) (C : Addr) (cl : List (Str × Addr)) (fp : List Addr), EvT (X.blk s H scope (compEnvC scope cl C X.env) fp) B' ρ2 cnd fun b => (b = true → ∀ (s : Shared) (H : Hp) (C : Addr) (cl : List (Str × Addr)) (fp : List Addr), EvE (X.blk s H scope (compEnvC scope cl C X.env) fp) B' ρ2 elt fun y => acc.length < sizeLine ∧ J (k + 1) (acc ++ [y])) ∧ (b = false → J (k + 1) acc)) ∧ ∀ acc, J n acc → Ξ acc
def sTc (X : Cx) (scope : Scope) (c : Expr) : TT := fun σ H Q => ∃ t, (∀ (s : Shared) (H : Hp) (C : Addr) (cl : List (Str × Addr)) (fp : List Addr), PT (X.blk s H scope (compEnvC scope cl C X.env) fp) c t) ∧ t σ H Q
theorem pt_sc {X : Cx} {scope : Scope} {c : Expr} (s : Shared) (H : Hp) (C : Addr) (cl : List (Str × Addr)) (fp : List Addr) : PT (X.blk s H scope (compEnvC scope cl C X.env) fp) c (sTc X scope c) :=
  ⟨fun pins s1 σ H1 Q I ⟨t, h, q⟩ => (h s H C cl fp).run pins s1 σ H1 Q I q⟩
section
variable {X : Cx} {scope : Scope} {B : Bs} {ρ : Rho} {σ : L2.St} {H1 : Hp} {D : Addr} {vs : List Nat} {elt cnd : Expr} {T : PyData → Rho → (Rho → Prop) → Prop} {n : Nat} {at_ : Nat → PyData → Prop}
theorem comp_turnI {J : Nat → List PyData → Prop} {g : TG} (E0 : En B ρ σ H1) (hD : H1 D = none) {i : Nat} {d : PyData} {v : V} {H : Hp}
    (q1 : ∀ B d ρ C v σ H Q, T d ρ C → En B ρ σ H → Dn (exO B ρ σ) H d v → (∀ ρ' σ', En B ρ' σ' H → wipe σ' vs = wipe σ vs → C ρ' → Q σ' H) → g v σ H Q)
    (ht : ∀ acc (B' : Bs), B'.src = B.src → J i acc → T d (blkR ρ vs) fun ρ2 => ∀ (s : Shared) (H : Hp) (C : Addr) (cl : List (Str × Addr)) (fp : List Addr), EvT (X.blk s H scope (compEnvC scope cl C X.env) fp) B' ρ2 cnd fun b => (b = true → ∀ (s : Shared) (H : Hp) (C : Addr) (cl : List (Str × Addr)) (fp : List Addr), EvE (X.blk s H scope (compEnvC scope cl C X.env) fp) B' ρ2 elt fun y => acc.length < sizeLine ∧ J (i + 1) (acc ++ [y])) ∧ (b = false → J (i + 1) acc))
    (p : CompP B ρ σ H1 D J i H) (hd : Dn (exO (B.add D) ρ σ) H d v) :
    g v (wipe σ vs) H fun σ2 H2 => wipe σ2 vs = wipe σ vs ∧ sTc X scope cnd σ2 H2 fun b H3 => if b = true then sEc X scope elt σ2 H3 fun y H4 => ∃ acc, H4 D = some (.lst acc) ∧ acc.length < sizeLine ∧ CompP B ρ σ H1 D J (i + 1) (upd H4 D (.lst (acc ++ [y]))) else CompP B ρ σ H1 D J (i + 1) H3 := by
  obtain ⟨acc, avs, hl, ha, hj, E, x, ok⟩ := p
  have Eb := E.blk.wipe vs
  have nown : ∀ x, ¬ Own (blkR ρ vs) (wipe σ vs) x := by
    have gen : ∀ vs x, Own (wipeR (ρ.map noO) vs) (wipe σ vs) x → Own (ρ.map noO) σ x := fun vs => by
      induction vs with
      | nil => exact fun x h => h
      | cons w ws ih => exact fun x h => ih x (own_set (fun ds z => by cases z) h)
    exact fun x h => by
      obtain ⟨j, ds, e, _⟩ := gen vs x h
      exact (noO_get e).2 ds rfl
  refine q1 ((B.add D).in ρ σ) d _ _ v _ H _ (ht acc ((B.add D).in ρ σ) rfl hj) Eb (Dn.mono (fun y z => .inl (z.elim id fun z => (nown y z).elim)) (fun _ _ e _ => e) d v hd) fun ρ2 σ2 E2 hw hc => ⟨hw.trans (wipe_wipe vs fun _ h => h), ?_⟩
  have nS : ¬ B.S D := fun z => E0.ok.live D (E0.ok.sx z) hD
  have nsrc : ∀ a b c, (B.add D).src = some (a, b, c) → a ≠ D ∧ b ≠ D ∧ c ≠ D := fun a b c e => by
    obtain ⟨_, h1, h2, h3⟩ := E0.ok.sr a b c e
    exact ⟨fun z => E0.ok.live a h1 (z ▸ hD), fun z => E0.ok.live b h2 (z ▸ hD), fun z => E0.ok.live c h3 (z ▸ hD)⟩
  refine ⟨_, hc, E2, fun b H3 x3 E3 hb => ?_⟩
  have okc : ∀ {H4}, Ext ((B.add D).in ρ σ) H H4 → ((B.add D).in ρ σ).Ok H4 → (B.add D).Ok H4 ∧ En (B.add D) ρ σ H4 ∧ B.Ok H4 ∧ Ext B H1 H4 ∧ H4 D = some (.lst avs) := fun {H4} x4 k4 => by
    have ok4 : (B.add D).Ok H4 := E.okOut k4
    exact ⟨ok4, E.ext x4 ok4, ⟨fun z hz => ok4.live z (.inl hz), fun a b c e => ⟨(ok4.sr a b c e).1, (ok.sr a b c e).2⟩⟩, fun z o e n => x4 z o (x z o e n) n, x4 D _ hl nS⟩
  cases b with
  | false =>
    dsimp only
    rw [if_neg Bool.false_ne_true]
    obtain ⟨ok3, E4, okB, xe, hl3⟩ := okc x3 E3.ok
    exact ⟨acc, avs, hl3, E.dnAll x3 ha, hb.2 rfl, E4, xe, okB⟩
  | true =>
    dsimp only
    rw [if_pos rfl]
    refine ⟨_, hb.1 rfl, E3, fun y H4 dy x4' E4 hy ⟨hlen, hj'⟩ => ?_⟩
    have x4 : Ext ((B.add D).in ρ σ) H H4 := x3.trans x4'
    obtain ⟨ok4, E5, okB, xe, hl4⟩ := okc x4 E4.ok
    have hh : ∀ (y : Addr) (o : HO) (u : HO), H4 y = some o → ¬ exO (B.add D) ρ σ y → upd H4 D u y = some o := fun y o u e n => by rw [upd_ne (show y ≠ D from fun z => n (.inl (.inr z)))]; exact e
    refine ⟨avs, hl4, by rw [← ha.length]; exact hlen, acc ++ [dy], avs ++ [y], upd_same, ?_, hj', E5.poke (.inr rfl) nsrc, ?_, ?_⟩
    · refine DnAll.append (DnAll.mono (fun _ z => .inl z) (fun z o e n => hh z o _ e n) _ _ (E.dnAll x4 ha)) (DnAll.cons.mpr ⟨y, [], rfl, ?_, DnAll.nil.mpr rfl⟩)
      exact Dn.mono (fun z h => .inl (.inl h)) (fun z o e n => hh z o _ e fun h => n (.inl h)) dy y hy
    · exact fun z o e n => by
        rw [upd_ne (show z ≠ D from fun h => by rw [h, hD] at e; cases e)]
        exact xe z o e n
    · exact okB.at fun z hz => by rw [upd_ne (show z ≠ D from fun h => E0.ok.live z hz (h ▸ hD))]
variable {iter tg : Expr} {pos p pos' : Pos} {own : List (Str × Nat)} {Ξ : List PyData → Prop}
/-- [elt for tg in iter if cnd], iter a list -/
theorem ef_lcI (vs : List Nat) (hc : X.calm = true) (hN : X.N.Nodup) (hv : own.map (·.2) = vs) (hg : EvGc X scope tg vs T) (ok : BlkOk X.N X.env.scope scope own)
    (h : EvE X B ρ iter fun d => ∃ ds, d = .list ds ∧ CompDI X scope B ρ vs elt cnd T ds.length (fun k y => ds[k]? = some y) Ξ) (hs : ∀ x, foldedSetIterable iter X.env x = pure x := by intro _; rfl) :
    EvF X B ρ (.ListComp elt [⟨tg, iter, [cnd], 0⟩] scope pos) Ξ := by
  subst hv
  obtain ⟨g, p1, q1⟩ := hg
  refine pe_imp (pe_lc hc hN (pi_list h) ok p1 (fun s H C cl fp => pts_one (pt_sc s H C cl fp)) pe_sc hs) fun σ H Q ⟨E, k⟩ => ⟨E, fun v H1 d x1 E1 hd ⟨ds, ed, J, j0, jt, jd⟩ => ?_⟩
  subst ed
  obtain ⟨a, xs, rfl, ha, na, hds⟩ := Dn.list.mp hd
  refine ⟨a, rfl, ⟨xs, SqL.of ha⟩, fun D hD => lc_list (K := X.K) (a := a) (xs := xs) (CompP B ρ σ H1 D J) (comp_start E1 hD j0) (fun i H' _ ⟨_, _, _, _, _, _, x, _⟩ => SqL.of (x a _ ha fun z => na (.inl (E1.ok.sx z)))) ?_ ?_⟩
  · intro i y H' hy p
    obtain ⟨d, hdi, hdn⟩ := hds.get' hy
    have hlt : i < ds.length := (List.getElem?_eq_some_iff.mp hdi).1
    obtain ⟨_, _, _, _, _, E', x, _⟩ := id p
    exact comp_turnI E1 hD q1 (fun acc B' hB hj => jt i d acc B' hB hlt hdi hj) p (Dn.mono (fun z h => exAdd hD z h) (fun z o e n => x z o e fun h => n (.inl (E1.ok.sx h))) d y hdn)
  · intro H' p
    rw [← hds.length] at p
    exact comp_end k E1 hD x1 jd p
/-- iter a tuple -/
theorem ef_lcTI (vs : List Nat) (hc : X.calm = true) (hN : X.N.Nodup) (hv : own.map (·.2) = vs) (hg : EvGc X scope tg vs T) (ok : BlkOk X.N X.env.scope scope own)
    (h : EvE X B ρ iter fun d => ∃ ds, d = .tuple ds ∧ CompDI X scope B ρ vs elt cnd T ds.length (fun k y => ds[k]? = some y) Ξ) (hs : ∀ x, foldedSetIterable iter X.env x = pure x := by intro _; rfl) :
    EvF X B ρ (.ListComp elt [⟨tg, iter, [cnd], 0⟩] scope pos) Ξ := by
  subst hv
  obtain ⟨g, p1, q1⟩ := hg
  refine pe_imp (pe_lc hc hN (pi_tup h) ok p1 (fun s H C cl fp => pts_one (pt_sc s H C cl fp)) pe_sc hs) fun σ H Q ⟨E, k⟩ => ⟨E, fun v H1 d x1 E1 hd ⟨ds, ed, J, j0, jt, jd⟩ => ?_⟩
  subst ed
  obtain ⟨a, xs, rfl, ha, na, hds⟩ := Dn.tuple.mp hd
  refine ⟨a, rfl, ⟨xs, SqT.of ha⟩, fun D hD => lc_tup (K := X.K) (a := a) (xs := xs) (CompP B ρ σ H1 D J) (comp_start E1 hD j0) (fun i H' _ ⟨_, _, _, _, _, _, x, _⟩ => SqT.of (x a _ ha fun z => na (.inl (E1.ok.sx z)))) ?_ ?_⟩
  · intro i y H' hy p
    obtain ⟨d, hdi, hdn⟩ := hds.get' hy
    have hlt : i < ds.length := (List.getElem?_eq_some_iff.mp hdi).1
    obtain ⟨_, _, _, _, _, E', x, _⟩ := id p
    exact comp_turnI E1 hD q1 (fun acc B' hB hj => jt i d acc B' hB hlt hdi hj) p (Dn.mono (fun z h => exAdd hD z h) (fun z o e n => x z o e fun h => n (.inl (E1.ok.sx h))) d y hdn)
  · intro H' p
    rw [← hds.length] at p
    exact comp_end k E1 hD x1 jd p
end
section
variable {X : Cx} {B : Bs} {ρ : Rho} {e : Expr} {p pos p2 p3 : Pos} {Φ : PyData → Prop} {P : Program} {w : World} {K : PySem.W.Frag} {mg : Str → Option Value} {base : Heap} {N : List Str}
theorem Same.blk (S : Same X P w K mg base N) {s : Shared} {H : Hp} {scope : Scope} {env : Env} {fp : List Addr} : Same (X.blk s H scope env fp) P w K mg base N := ⟨S.p, S.w, S.k, S.m, S.b, S.n, S.nd, S.c, PassesOwn.never⟩
theorem evt_same {s : Shared} {H : Hp} {scope : Scope} {env : Env} {fp : List Addr} {Ψ : Bool → Prop} (S : Same X P w K mg base N) (h : Same (X.blk s H scope env fp) P w K mg base N → EvT (X.blk s H scope env fp) B ρ e Ψ) : EvT (X.blk s H scope env fp) B ρ e Ψ := h S.blk
theorem eve_same {s : Shared} {H : Hp} {scope : Scope} {env : Env} {fp : List Addr} (S : Same X P w K mg base N) (h : Same (X.blk s H scope env fp) P w K mg base N → EvE (X.blk s H scope env fp) B ρ e Φ) : EvE (X.blk s H scope env fp) B ρ e Φ := h S.blk
theorem ev_isT {T : String} {y : Str} (S : Same X P w K mg base N) (Tx : Txt mg) (hg : Gl X "isinstance") (hgT : Gl X y) (hmT : mg y = none) (hvT : bootBuiltins y = some (.type T)) (h : EvE X B ρ e fun d => ∃ c, kitB (tyD d) T = some c ∧ Φ (.bool c))
    (hn : y ≠ "__name__" := by decide) (hd : (y == ("__debug__" : Str)) = false := by decide)
    (he : starEach [e, .Name y p2] X.env = (false, eval e X.env) :: starEach [.Name y p2] X.env := by rfl) (he2 : starEach [.Name y p2] X.env = (false, eval (.Name y p2) X.env) :: starEach [] X.env := by rfl)
    (hpl : (backTo p3 (starEach [.Name y p2] X.env)).any (·.1) = false := by rfl) : EvE X B ρ (.Call (.Name "isinstance" p) [e, .Name y p2] [] p3) Φ :=
  ev_isi hg (by rw [S.m]; exact Tx.isinstance) hgT (by rw [S.m]; exact hmT) hvT h hn hd he he2 hpl
theorem len_fr {q : Rat} (h : Φ (.int 2)) : ∃ ds, (fr q = .list ds ∨ fr q = .tuple ds) ∧ Φ (.int ds.length) := ⟨_, .inr rfl, h⟩
theorem es_un2 {P0 : Po} (S : Same X P w K mg base N) {i j : Nat} {x y : Str} {px py pt : Pos} {kt : Nat} (hi : At N i x) (hj : At N j y) (hx : Loc X.env.scope x) (hy : Loc X.env.scope y)
    (h : EvE X B ρ e fun d => ∃ a b, d = .tuple [a, b] ∧ P0.nx ((ρ.set i (some (.dat a))).set j (some (.dat b)))) (hs : swapsWithSole [.Tuple [.Name x px, .Name y py] kt pt] e pos.line X.env = pure false := by rfl) (hw : swappedStores [.Tuple [.Name x px, .Name y py] kt pt] e X.env = pure none := by rfl)
    (hf : X.fn x = true ∨ X.env.scope.names.lookup x = some .local := by first | exact .inl rfl | exact .inr rfl | assumption) (hf2 : X.fn y = true ∨ X.env.scope.names.lookup y = some .local := by first | exact .inl rfl | exact .inr rfl | assumption) :
    EvS X B ρ (.Assign [.Tuple [.Name x px, .Name y py] kt pt] e pos) P0 :=
  es_asg (eg_tup S.c (egs_cons (eg_nm S hi hx hf) (egs_cons (eg_nm S hj hy hf2) egs_nil))) (ev_mono h fun d ⟨a, b, e1, h1⟩ => ⟨[a, b], e1, rfl, a, [b], rfl, b, [], rfl, rfl, h1⟩) hs hw
theorem eqv_int {i j : Int} : PyData.eqv (.int i) (.int j) = decide (i = j) := by
  rw [PyData.eqv]
  by_cases h : i = j <;> simp [h]
end
end Vw

namespace Vw
open PySem PySem.Spec L2
open PyProof.Rows (envOfC AllBare)
/-! ### C() of an own exception class whose __init__ does nothing -/
def sp0 : Sp := fun vs H Q _ => vs.length = 1 ∧ Q .non H
section
variable {X : Cx}
theorem mk_endN {pins : List (Addr × Obj)} {σ : L2.St} {H1 H2 : Hp} {Q : XK} {hp hp2 h2 : Heap} {g1 g2 : Array GenState} {d1 d2 : Drawn} {t1 t2 : Nat} {os1 os2 : OsState} {a C : Addr} (T : Raises X (.ref C)) (I1 : Inv X pins σ H1 ⟨hp, g1, d1, t1, os1⟩)
    (ha : hp.objs.size ≤ a) (k : ∀ b o, hp.get? b = some o → hp2.get? b = some o) (un : Un (frs X.stack) [] (upd H1 a (exo a C none)) H2 hp2 h2) (hok : HOk X.prog X.w H2 h2) (ho : os2 = os1) (hb : AllBare g2)
    (ea : H2 a = some (exo a C none)) (e2 : del H2 a = H1) (q : Q (.ref C) none H1) : MkP X pins σ Q (.ref a) ⟨h2, g2, d2, t2, os2⟩ := by
  obtain ⟨t0, hoe⟩ := exo_at hok ea
  have hn : H1 a = none := I1.hok.fresh ha
  obtain ⟨G, g1', g2'⟩ := restrict h2 fun b => decide (b ≠ a)
  have gk : ∀ b, b ≠ a → G.get? b = h2.get? b := fun b hb => g1' b (decide_eq_true hb)
  have ge : G.get? a = none := g2' a (by simp)
  have nha : ∀ {b : Addr} {o : Obj}, hp.get? b = some o → b ≠ a := fun {b o} z => Nat.ne_of_lt (Nat.lt_of_lt_of_le (Heap.lt_size z) ha)
  have up : ∀ {b : Addr}, b ≠ a → H1 b = none → upd H1 a (exo a C none) b = none := fun {b} hb n => by rw [upd_ne hb]; exact n
  have U : Un (frs X.stack) [] H1 H1 hp G := {
    keep := fun b o z n hf hx => by
      rw [gk b (nha z)]
      exact un.keep b o (k b o z) (up (nha z) n) hf hx
    slot := fun b o z n hf hx => by
      rw [gk b (nha z)]
      exact un.slot b o (k b o z) (up (nha z) n) hf hx
    free := fun b o z n hx => n
    there := fun b o z hx => by
      rw [gk b (nha z)]
      exact un.there b o (k b o z) hx
    tups := fun b xs z => z
    frzs := fun b o v z => z
    tbls := fun b ps z => ⟨#[], by rw [z]; simp⟩ }
  have hok3 : HOk X.prog X.w H1 G := fun b o z => by
    have hba : b ≠ a := fun e => by rw [e, hn] at z; cases z
    have z2 : H2 b = some o := by
      have := congrFun e2 b
      rw [del_ne hba] at this
      rw [this]; exact z
    have noa : ∀ {c : Addr}, H2 c = some (.own b) → c ≠ a := fun {c} hc => at_ne ea hc exo_own
    have back : ∀ {c : Addr}, c ≠ a → H2 c = H1 c := fun {c} hc => by
      have := congrFun e2 c
      rw [del_ne hc] at this
      exact this
    exact (hok b o z2).stay (fun c v hc y => by
        have hca : c ≠ a := by
          rcases hc with hc | hc
          · rw [hc]
            exact hba
          · exact noa hc
        rw [gk c hca]
        exact y)
      (fun c hc => by rw [← back (noa hc)]; exact hc) (fun c xs hc => by rw [← back (at_ne ea hc exo_tup)]; exact hc)
  have J : Inv X pins σ H1 ⟨G, g2, d2, t2, os2⟩ := I1.call' (ch := []) ho U hok3 hb (fun b z => absurd z (by simp))
  refine ⟨a, _, _, ⟨G, g2, d2, t2, os2⟩, _, .ref C, none, rfl, J, fun b o z => ?_, ge, hoe, ⟨rfl, rfl⟩, rfl, rfl, hn, rfl, hb, T, q⟩
  by_cases hba : b = a
  · rw [hba, ge] at z
    cases z
  · exact (gk b hba).symm.trans z
theorem pmk0 {x : Str} {C fI : Addr} {k : Nat} {fd : FuncData} {ps : List Str} {p pos : Pos} (T : OexC X.K C) (iC : PySem.W.findIn X.K (.ref C) "__init__" = some (some (.ref fI))) (tI : PySem.W.typeIn X.K (.ref fI) = some (.type "function"))
    (F1 : FnOk X.prog X.w X.K X.mg X.base CX0 k fI fd ps sp0) (hr : Room (k + 1) X.A) (hb : Binds X.K fd ps []) (hg : Gl X x) (hm : X.mg x = some (.ref C)) (hdb : (x == ("__debug__" : Str)) = false := by decide) :
    PMk X (.Call (.Name x p) [] [] pos) (fun σ H Q => Q (.ref C) none H) := by
  intro pins s σ H Q I h
  obtain ⟨nm, q, N, bs, bm, sn, sub, ab, col, dd, k0, k1, k2, k3, k5, hC, hbm⟩ := T.cls
  refine wpAny_Call_Name_kw (ld_glob I hg hm ?_ hdb)
  refine PySem.W.callWith_K0 I.kIn T.kC ?_
  obtain ⟨hp, g, dr, tk, os⟩ := s
  have hsz : hp.objs.size ≤ hp.objs.size + 1 := Nat.le_succ _
  have hn : H (hp.objs.size + 1) = none := I.hok.fresh hsz
  have kk : ∀ b o, hp.get? b = some o → ((hp.push (PySem.W.kdv_tup [])).push (PySem.HandSPX.excO C hp.objs.size)).get? b = some o := fun b o e => Heap.get?_push_of_some _ (Heap.get?_push_of_some _ e)
  have hget : ((hp.push (PySem.W.kdv_tup [])).push (PySem.HandSPX.excO C hp.objs.size)).get? (hp.objs.size + 1) = some (PySem.HandSPX.excO C hp.objs.size) := by heap_get
  have I2 : Inv X pins σ (upd H (hp.objs.size + 1) (exo (hp.objs.size + 1) C none)) ⟨(hp.push (PySem.W.kdv_tup [])).push (PySem.HandSPX.excO C hp.objs.size), g, dr, tk, os⟩ :=
    I.laid (t' := tk) (a := hp.objs.size + 1) (o := exo (hp.objs.size + 1) C none) (h' := (hp.push (PySem.W.kdv_tup [])).push (PySem.HandSPX.excO C hp.objs.size)) kk hsz (exo_ok hget)
  have r2 : Vals [V.ref (hp.objs.size + 1)] [Value.ref (hp.objs.size + 1)] := .cons rfl .nil
  have hq : sp0 [V.ref (hp.objs.size + 1)] (upd H (hp.objs.size + 1) (exo (hp.objs.size + 1) C none)) (fun v H2 => v = .non ∧ H2 = upd H (hp.objs.size + 1) (exo (hp.objs.size + 1) C none)) (fun _ _ _ => False) := ⟨rfl, rfl, rfl⟩
  have hl : ([Value.ref (hp.objs.size + 1)] ++ ([] : List Value)).length = ps.length := by
    have e := F1.len _ _ _ _ hq
    simpa using e
  refine wpAny_call (PySem.HandSPX.call_own F.excBase_ValueError (fun Y => PySem.HandSPX.refsVE_contains Y bm hbm) (I.kIn _ _ hC) (PySem.W.looks_findIn I.kIn iC) (fun self => PySem.W.bind_fn I.kIn self tI) (Nat.zero_le _)
    (codeAny_mono (F1.run _ X.stack _ _ ⟨[Value.ref (hp.objs.size + 1)], []⟩ [Value.ref (hp.objs.size + 1)] _ _ (fun _ _ _ => False) (hr.make C [] []) (I2.env0.make C [] []) (by have := hb _ [Value.ref (hp.objs.size + 1)] I2.kIn hl; rw [List.append_nil] at this; exact this) r2 hq) fun r s' hq' => ?_))
  cases r with
  | error er => exact (hq' : False).elim
  | ok fl =>
    cases fl with
    | ret u =>
      obtain ⟨v, H2, os2, bare2, un2, hok2, rv, ev, e2⟩ := hq'
      subst ev e2
      obtain ⟨h2, g2, d2, t2, os'⟩ := s'
      refine ⟨rv, mk_endN (raises_own T.exC T.tyC) I hsz kk un2 hok2 os2 bare2 upd_same (funext fun b => ?_) h⟩
      by_cases hb : b = hp.objs.size + 1
      · rw [hb, del_same, hn]
      · rw [del_ne hb, upd_ne hb]
    | next => exact False.elim hq'
    | brk => exact False.elim hq'
    | cont => exact False.elim hq'
/-! ### defs that do raise -/
/-- R: asked of the arguments, then an exception of the class at C is let out -/
def spR (C : Addr) (R : List Sl → Prop) : Sp := fun vs H _ E => ∃ (B : Bs) (ss : List Sl), SlAll B B.ex H ss vs ∧ B.Ok H ∧ R ss ∧ ∀ H', Ext B H H' → B.Ok H' → E (.ref C) none H'
structure FiX (P : Program) (w : World) (K : PySem.W.Frag) (mg : Str → Option Value) (base : Heap) (k : Nat) (x : Str) (st : Stmt) (ps : List Str) (C : Addr) (R : List Sl → Prop) : Prop where
  ex : ∃ (f : Addr) (fd : FuncData), Fun K x x st f fd ∧ Fg P w K mg base (L2.CX P w) k f fd ps (spR C R) ∧ mg x = some (.ref f) ∧ Binds K fd ps []
end
def EvX (X : Cx) (B : Bs) (ρ : Rho) (W : WX) (C : Addr) (e : Expr) : Prop := PE X e fun σ H _ => En B ρ σ H ∧ ∀ H', Ext B H H' → En B ρ σ H' → W (.ref C) none σ H'
def EvXA (X : Cx) (B : Bs) (ρ : Rho) (W : WX) (C : Addr) (e : List Expr) : Prop := PA X e fun σ H _ => En B ρ σ H ∧ ∀ H', Ext B H H' → En B ρ σ H' → W (.ref C) none σ H'
section
variable {X : Cx} {B : Bs} {ρ : Rho} {W : WX} {C : Addr} {P : Program} {w : World} {K : PySem.W.Frag} {mg : Str → Option Value} {base : Heap} {k : Nat} {x : Str} {st : Stmt} {ps N : List Str} {R : List Sl → Prop} {e a b : Expr} {es : List Expr} {p pos : Pos}
theorem evx_if {c : Expr} (h : EvT X B ρ c fun z => (z = true → EvX X B ρ W C a) ∧ (z = false → EvX X B ρ W C b)) : EvX X B ρ W C (.IfExp c a b pos) :=
  pe_imp (pe_ifExp h pe_s pe_s) fun σ H Q ⟨E, k⟩ => ⟨E, fun z H1 e1 E1 h1 => by
    cases z with
    | true => rw [if_pos rfl]; exact ⟨_, h1.1 rfl, E1, fun H2 e2 E2 => k H2 (e1.trans e2) E2⟩
    | false => rw [if_neg Bool.false_ne_true]; exact ⟨_, h1.2 rfl, E1, fun H2 e2 E2 => k H2 (e1.trans e2) E2⟩⟩
theorem evxa_here (h : EvX X B ρ W C e) (hs : starEach (e :: es) X.env = (false, eval e X.env) :: starEach es X.env := by rfl) (hes : ∃ t, PA X es t) : EvXA X B ρ W C (e :: es) := by
  obtain ⟨t, ht⟩ := hes
  exact pa_imp (pa_cons h ht hs) fun σ H Q q => q
theorem evxa_cons (h : EvE X B ρ e fun _ => EvXA X B ρ W C es) (hs : starEach (e :: es) X.env = (false, eval e X.env) :: starEach es X.env := by rfl) : EvXA X B ρ W C (e :: es) :=
  pa_imp (pa_cons h pa_s hs) fun σ H Q ⟨E, k⟩ => ⟨E, fun v H1 d e1 E1 d1 h1 => ⟨_, h1, E1, fun H2 e2 E2 => k H2 (e1.trans e2) E2⟩⟩
theorem evx_lst (h : EvXA X B ρ W C es) : EvX X B ρ W C (.List es pos) := pe_imp (pe_lst h) fun σ H Q q => q
/-- behind a call that raises -/
theorem call_fgX {f : Addr} {fd : FuncData} {sp : Sp} {pins : List (Addr × Obj)} {σ : L2.St} {H : Hp} {s : Shared} {Q : VK} {us : List Value} {ar : Args} {vs : List V} (F : Fg X.prog X.w X.K X.mg X.base (L2.CX X.prog X.w) k f fd ps sp) (hr : Rm k X.A) (tk : Takes X W)
    (I : Inv X pins σ H s) (hb : BindsTo s fd ar (ps.zip us)) (rv : Vals vs us) (h : sp vs H Q (WE W σ)) : codeAny (model X.prog X.w) X.A (.call (.ref f) ar) (fun r s' => (∃ u, r = .ok (.ret u) ∧ EP X pins σ Q u s') ∨ ∃ e, r = .error e ∧ X.xe e s') s :=
  codeAny_mono (F.run X.A X.stack s H ar us vs Q (WE W σ) hr I.env0 hb rv h) fun r s' hq => by
    cases r with
    | error e => exact .inr ⟨e, rfl, passAt tk σ pins H s e s' I hq⟩
    | ok fl =>
      cases fl with
      | ret u => exact .inl ⟨u, rfl, I.after hq⟩
      | next => exact hq.elim
      | brk => exact hq.elim
      | cont => exact hq.elim
theorem evx_call (S : Same X P w K mg base N) (F : FiX P w K mg base k x st ps C R) (tk : Takes X W) {j : Nat} (hr : Rm j X.A) (hk : k ≤ j) (hg : Gl X x) (h : EvA X B ρ (e :: es) fun ss => noOwn ss = true ∧ R ss)
    (hdb : (x == ("__debug__" : Str)) = false := by decide) (he : starEach (e :: es) X.env = (false, eval e X.env) :: starEach es X.env := by rfl) (hpl : (backTo pos (starEach es X.env)).any (·.1) = false := by rfl) : EvX X B ρ W C (.Call (.Name x p) (e :: es) [] pos) := by
  have F' : FiX X.prog X.w X.K X.mg X.base k x st ps C R := by rw [S.p, S.w, S.k, S.m, S.b]; exact F
  obtain ⟨f, fd, F1, F2, hm, hb⟩ := F'.ex
  refine ⟨fun pins s σ H Q I hq => ?_⟩
  obtain ⟨E, c⟩ := hq
  refine wpAny_Call_Name_kw (ld_glob I hg hm ?_ hdb)
  refine PySem.W.callWith_K (h₀ := X.base) I.ok.mod.kin F1.kp (thn (h.run pos pins s σ H (fun vs H1 => ∃ ss, Ext B H H1 ∧ En B ρ σ H1 ∧ SlAll B (exO B ρ σ) H1 ss vs ∧ noOwn ss = true ∧ R ss) I ⟨E, fun vs H1 ss e1 E1 d1 h1 => ⟨ss, e1, E1, d1, h1⟩⟩)
    fun us s1 ⟨vs, H1, I1, rv, ss, e1, E1, d1, n, hR⟩ => ⟨I1.kIn, ?_⟩) he hpl
  have hsp : spR C R vs H1 Q (WE W σ) := ⟨B.in ρ σ, ss, slAll_in n d1, E1.okIn, hR, fun H' x ok => c H' (e1.trans x) (E1.ext x (E1.okOut ok))⟩
  have la : (us ++ ([] : List Value)).length = ps.length := by rw [List.append_nil, ← rv.length]; exact F2.len _ _ _ (WE W σ) hsp
  have b := hb s1 us I1.kIn la
  rw [List.append_nil] at b
  refine wpAny_call (codeAny_mono (call_fgX (vs := vs) F2 (hr.mono hk) tk I1 b rv hsp) fun r s' hq => ?_)
  rcases hq with ⟨u, rfl, h2⟩ | ⟨e, rfl, h2⟩
  · exact h2
  · exact h2
theorem evx_kw {kws : List Keyword} (S : Same X P w K mg base N) (ks : List Str) (pm : List Nat) (F : FiX P w K mg base k x st ps C R) (tk : Takes X W) {j : Nat} (hr : Rm j X.A) (hk : k ≤ j) (hg : Gl X x)
    (hb : ∀ (kV doc pm' : Value) (an : Option Addr) (cdv ct : Value) (ws : List Value), ws.length = ks.length → bindArgs (PySem.W.fnOf x x (defArgs st) (defBody st) (defScope st) .none kV doc pm' an cdv ct) ⟨[], ks.zip ws⟩ = pure (ps.zip (pick pm ws)))
    (h : EvK X B ρ kws fun ss => ss.length = ks.length ∧ noOwn (pick pm ss) = true ∧ R (pick pm ss))
    (hall : (backToKw pos (keywordEach kws X.env)).all (·.1.isSome) = true := by rfl) (hks : (backToKw pos (keywordEach kws X.env)).filterMap (·.1) = ks := by rfl)
    (hdb : (x == ("__debug__" : Str)) = false := by decide)
    (hpl : ((backTo pos (starEach [] X.env)).any (·.1) || (backToKw pos (keywordEach kws X.env)).any (·.1.isNone)) = false := by rfl) : EvX X B ρ W C (.Call (.Name x p) [] kws pos) := by
  have F' : FiX X.prog X.w X.K X.mg X.base k x st ps C R := by rw [S.p, S.w, S.k, S.m, S.b]; exact F
  obtain ⟨f, fd, F1, F2, hm, _⟩ := F'.ex
  refine ⟨fun pins s σ H Q I h' => ?_⟩
  obtain ⟨E, c⟩ := h'
  refine wpAny_Call_Name_kw (ld_glob I hg hm ?_ hdb)
  refine PySem.W.callWith_KW0 (h₀ := X.base) I.ok.mod.kin F1.kp hall ?_ hpl
  refine thn (h.run pos pins s σ H (fun vs H1 => ∃ ss, Ext B H H1 ∧ En B ρ σ H1 ∧ SlAll B (exO B ρ σ) H1 ss vs ∧ ss.length = ks.length ∧ noOwn (pick pm ss) = true ∧ R (pick pm ss)) I ⟨E, fun vs H1 ss e1 E1 d1 h1 => ⟨ss, e1, E1, d1, h1⟩⟩)
    fun ws s2 ⟨zs, H2, I2, rz, ss, e1, E1, d1, hl, n, hR⟩ => ⟨I2.kIn, ?_⟩
  rw [hks]
  have hsp : spR C R (pick pm zs) H2 Q (WE W σ) := ⟨B.in ρ σ, pick pm ss, slAll_in n (pick_sl d1 pm), E1.okIn, hR, fun H' x ok => c H' (e1.trans x) (E1.ext x (E1.okOut ok))⟩
  have lw : ws.length = ks.length := by rw [← rz.length, slAll_length d1, hl]
  have b : BindsTo s2 fd ⟨[], ks.zip ws⟩ (ps.zip (pick pm ws)) := by
    obtain ⟨oc, od, kV, doc, pm', an, cdv, ct, osl, rfl, lk, hcd⟩ := F1.ex
    exact .of_eq (hb kV doc pm' an cdv ct ws lw)
  refine wpAny_call (codeAny_mono (call_fgX (vs := pick pm zs) F2 (hr.mono hk) tk I2 b (pick_vals rz pm) hsp) fun r s' hq => ?_)
  rcases hq with ⟨u, rfl, h2⟩ | ⟨e, rfl, h2⟩
  · exact h2
  · exact h2
/-- return e, e raising -/
theorem psx_ret (h : EvX X B ρ W C e) : PS X (.Return (some e) pos) fun _ σ H => En B ρ σ H ∧ ∀ H', Ext B H H' → En B ρ σ H' → W (.ref C) none σ H' := ps_imp (ps_ret h) fun D σ H q => q
end
end Vw

namespace Vw
open PySem PySem.Spec L2
section
variable {X : Cx} {B : Bs} {ρ : Rho} {C : Addr} {x n : Str} {c : Value} {i : Nat} {body suite : List Stmt} {b₀ : Stmt} {np pos pos' : Pos} {P0 : Po}
/-- a try whose body lets nothing out -/
theorem es_tryOk (i : Nat) (hs : X.stack = X.env :: X.outer) (hf : X.env.frame = some X.env.locals) (hN : X.N.Nodup) (hi : X.N[i]? = some n) (hln : X.env.kindOf n = some .local) (hc : Names X x c)
    (hb : ∀ (pn : List (Addr × Obj)) (xe : Value → Shared → Prop), PassesOwn (model X.prog X.w) X.A X.env xe → EvB (X.tr pn xe) B ρ body P0) : EvS X B ρ (.Try body [.ExceptHandler (some (.Name x np)) (some n) (b₀ :: suite) pos'] [] [] pos) P0 :=
  ps_try_as (i := i) (Wout := fun _ _ _ _ => False) (ts := fun _ _ _ _ _ _ => False) (tb := fun _ => tS B ρ P0) hs hf hN hi hln hc L2.takes0 (fun W pn xe _ po => hb pn xe po) fun a oe cls d pn _ _ => ⟨fun _ _ _ _ _ _ h => h.elim⟩
/-- a try whose body raises; the clause takes it -/
theorem es_tryX (i : Nat) (hs : X.stack = X.env :: X.outer) (hf : X.env.frame = some X.env.locals) (hN : X.N.Nodup) (hi : X.N[i]? = some n) (hln : X.env.kindOf n = some .local) (hc : Names X x c) (hm : PySem.W.exmOne X.K (.ref C) c = some true)
    (hb : ∀ (W : WX) (pn : List (Addr × Obj)) (xe : Value → Shared → Prop), Takes (X.tr pn xe) W → PassesOwn (model X.prog X.w) X.A X.env xe → PSs (X.tr pn xe) body fun _ σ H => En B ρ σ H ∧ ∀ H', Ext B H H' → En B ρ σ H' → W (.ref C) none σ H')
    (hsu : ∀ (a : Addr) (oe : Obj) (pn : List (Addr × Obj)), Zc (.ref C) none oe → (∃ vs, oe.data = .fields vs) → EvB (X.suite a ((a, oe) :: pn)) B (ρ.set i (some (.raw (.ref a)))) (b₀ :: suite) { nx := fun _ => False, rt := P0.rt }) :
    EvS X B ρ (.Try body [.ExceptHandler (some (.Name x np)) (some n) (b₀ :: suite) pos'] [] [] pos) P0 := by
  refine ps_imp (ps_try_as (i := i) (Wout := fun _ _ _ _ => False) (ts := fun a cls d D σ H => (cls = .ref C ∧ d = none) ∧ tS B (ρ.set i (some (.raw (.ref a)))) { nx := fun _ => False, rt := P0.rt } D σ H) hs hf hN hi hln hc L2.takes0 hb fun a oe cls d pn hz hd => ⟨fun pins s σ H D I ⟨⟨e1, e2⟩, q⟩ => ?_⟩) fun D σ H q => ?_
  · subst e1 e2
    exact (hsu a oe pn hz hd).run pins s σ H D I q
  · refine ⟨q.1, fun H' xx E' => ⟨true, hm, fun _ a ha => ⟨⟨rfl, rfl⟩, ?_⟩, fun z => nomatch z⟩⟩
    have no : ∀ ds, (Sl.raw (.ref a)) ≠ .own ds := fun ds z => by cases z
    refine ⟨E'.set (s := .raw (.ref a)) no rfl, fun _ _ _ _ _ z => z.elim, fun v H2 d x2 k hd hr => ?_, fun _ _ _ _ _ z => z.elim, fun _ _ _ _ _ z => z.elim⟩
    exact q.2.2.1 v H2 d (((XS.of_ext xx).trans E'.ok (XS.set fun ds z => no ds (Option.some.inj z))).transR x2) k hd hr
end
/-- isinstance(e, (c1, c2, ..)), e the exception that the suite holds -/
def rIsET (K : PySem.W.Frag) (D a : Addr) : List V → Hp → VK → Prop := fun xs H Q => ∃ (tp : Addr) (cs : List V) (us : List Value) (b : Bool), xs = [.ref a, .ref tp] ∧ H tp = some (.tup cs) ∧ Paired ClsV cs us ∧ PySem.W.kitAny K (.ref D) us = some b ∧ Q (.bl b) H
theorem call_isET {X : Cx} {a D : Addr} {oe : Obj} {pn : List (Addr × Obj)} (C : ExcC X.K D) (hz : Zc (.ref D) none oe) (hf : ∃ vs, oe.data = .fields vs) : CallR (X.suite a ((a, oe) :: pn)) (.builtin "isinstance") (rIsET X.K D a) := by
  intro pins s σ H xs us Q I r h
  obtain ⟨tp, cs, ws, b, rfl, hT, k, e, q⟩ := h
  obtain ⟨u1, u2, rfl, r1, r2⟩ := vals2 r
  cases (show u2 = Value.ref tp from r2)
  cases (show u1 = Value.ref a from r1)
  obtain ⟨hget, _⟩ := I.pin (a, oe) (List.mem_append.mpr (.inl List.mem_cons_self))
  obtain ⟨vs, hv⟩ := hf
  have J : PySem.W.InstAt s.heap a oe D none := by
    obtain ⟨oc, od, oda, osl⟩ := oe
    obtain ⟨h1, h2⟩ := hz
    dsimp only at h1 h2 hv
    subst h1 h2 hv
    exact ⟨hget, rfl, rfl, trivial⟩
  obtain ⟨_, its, rv, o, h1, h2, n, h3⟩ := (show ObjOk X.prog X.w H s.heap tp (.tup cs) from I.hok tp _ hT)
  have e3 := ClsV.all k rv
  subst e3
  obtain ⟨oc, od, dt, sl⟩ := o
  simp only at h2 h3
  subst h2 h3
  exact PySem.W.kia_tup (PySem.W.handS_kitx_exc C.hg C.hk C.hs C.hd C.ha C.hn C.ht C.hm) I.kIn J h1 e (fun z => nomatch z) fun tk => ⟨.bl b, H, I.tok tk, rfl, q⟩
section
variable {X : Cx} {a D : Addr} {oe : Obj} {pn : List (Addr × Obj)} {B : Bs} {ρ : Rho} {Φ : PyData → Prop} {n y y1 y2 y3 : Str} {p p1 p2 p3 q1 q2 q3 : Pos} {kt : Nat}
theorem ev_isE (C : ExcC X.K D) (hz : Zc (.ref D) none oe) (hf : ∃ vs, oe.data = .fields vs) (i : Nat) (hr : ρ[i]? = some (some (.raw (.ref a)))) (hN : X.N[i]? = some n) (hv : Vis X.env.scope n) (hg : Gl X "isinstance") (hm : X.mg "isinstance" = none)
    {E : Addr} {b : Bool} (hgy : Gl X y) (hmy : X.mg y = some (.ref E)) (hk : PySem.W.kitOne X.K (.ref D) (.ref E) = some b) (h : Φ (.bool b)) (hdn : (n == ("__debug__" : Str)) = false := by decide) (hcn : (n == ("__classdict__" : Str)) = false := by decide) (hdy : (y == ("__debug__" : Str)) = false := by decide)
    (he : starEach [.Name n p1, .Name y p2] (X.suite a ((a, oe) :: pn)).env = (false, eval (.Name n p1) (X.suite a ((a, oe) :: pn)).env) :: starEach [.Name y p2] (X.suite a ((a, oe) :: pn)).env := by rfl)
    (he2 : starEach [.Name y p2] (X.suite a ((a, oe) :: pn)).env = (false, eval (.Name y p2) (X.suite a ((a, oe) :: pn)).env) :: starEach [] (X.suite a ((a, oe) :: pn)).env := by rfl)
    (hpl : (backTo p3 (starEach [.Name y p2] (X.suite a ((a, oe) :: pn)).env)).any (·.1) = false := by rfl) : EvE (X.suite a ((a, oe) :: pn)) B ρ (.Call (.Name "isinstance" p) [.Name n p1, .Name y p2] [] p3) Φ :=
  pe_imp (pe_callB (X := X.suite a ((a, oe) :: pn)) (call_isE (pn := pn) C hz hf) hg hm (by decide +kernel) (pa_cons (pe_var hN hv hdn hcn) (pa_cons (pe_glob (v := .ref E) hgy hmy rfl hdy) pa_nil he2) he) (by decide) (by decide) he hpl) fun σ H Q ⟨Ee, k⟩ => by
    obtain ⟨v, e1, h1⟩ := Ee.sl i _ hr
    have h1' : v = .ref a := h1
    subst h1'
    exact ⟨.ref a, e1, .ref E, .ref E, b, rfl, fun u r => r, hk, k _ H _ Ext.refl Ee (Dn.bool.mpr rfl) h⟩
theorem ev_isEb {T : String} (C : ExcC X.K D) (hz : Zc (.ref D) none oe) (hf : ∃ vs, oe.data = .fields vs) (i : Nat) (hr : ρ[i]? = some (some (.raw (.ref a)))) (hN : X.N[i]? = some n) (hv : Vis X.env.scope n) (hg : Gl X "isinstance") (hm : X.mg "isinstance" = none)
    {b : Bool} (hgy : Gl X y) (hmy : X.mg y = none) (hvy : bootBuiltins y = some (.type T)) (hk : PySem.W.kitOne X.K (.ref D) (.type T) = some b) (h : Φ (.bool b)) (hny : y ≠ "__name__" := by decide) (hdn : (n == ("__debug__" : Str)) = false := by decide) (hcn : (n == ("__classdict__" : Str)) = false := by decide) (hdy : (y == ("__debug__" : Str)) = false := by decide)
    (he : starEach [.Name n p1, .Name y p2] (X.suite a ((a, oe) :: pn)).env = (false, eval (.Name n p1) (X.suite a ((a, oe) :: pn)).env) :: starEach [.Name y p2] (X.suite a ((a, oe) :: pn)).env := by rfl)
    (he2 : starEach [.Name y p2] (X.suite a ((a, oe) :: pn)).env = (false, eval (.Name y p2) (X.suite a ((a, oe) :: pn)).env) :: starEach [] (X.suite a ((a, oe) :: pn)).env := by rfl)
    (hpl : (backTo p3 (starEach [.Name y p2] (X.suite a ((a, oe) :: pn)).env)).any (·.1) = false := by rfl) : EvE (X.suite a ((a, oe) :: pn)) B ρ (.Call (.Name "isinstance" p) [.Name n p1, .Name y p2] [] p3) Φ :=
  pe_imp (pe_callB (X := X.suite a ((a, oe) :: pn)) (call_isE (pn := pn) C hz hf) hg hm (by decide +kernel) (pa_cons (pe_var hN hv hdn hcn) (pa_cons (pe_bltn (v := .ty T) hgy hmy hvy rfl hny hdy) pa_nil he2) he) (by decide) (by decide) he hpl) fun σ H Q ⟨Ee, k⟩ => by
    obtain ⟨v, e1, h1⟩ := Ee.sl i _ hr
    have h1' : v = .ref a := h1
    subst h1'
    exact ⟨.ref a, e1, .ty T, .type T, b, rfl, fun u r => r, hk, k _ H _ Ext.refl Ee (Dn.bool.mpr rfl) h⟩
/-- three own classes -/
theorem ev_isE3 (C : ExcC X.K D) (hz : Zc (.ref D) none oe) (hf : ∃ vs, oe.data = .fields vs) (i : Nat) (hr : ρ[i]? = some (some (.raw (.ref a)))) (hN : X.N[i]? = some n) (hv : Vis X.env.scope n) (hg : Gl X "isinstance") (hm : X.mg "isinstance" = none)
    {E1 E2 E3 : Addr} {b : Bool} (g1 : Gl X y1) (m1 : X.mg y1 = some (.ref E1)) (g2 : Gl X y2) (m2 : X.mg y2 = some (.ref E2)) (g3 : Gl X y3) (m3 : X.mg y3 = some (.ref E3)) (hk : PySem.W.kitAny X.K (.ref D) [.ref E1, .ref E2, .ref E3] = some b) (h : Φ (.bool b))
    (hdn : (n == ("__debug__" : Str)) = false := by decide) (hcn : (n == ("__classdict__" : Str)) = false := by decide) (d1 : (y1 == ("__debug__" : Str)) = false := by decide) (d2 : (y2 == ("__debug__" : Str)) = false := by decide) (d3 : (y3 == ("__debug__" : Str)) = false := by decide)
    (he : starEach [.Name n p1, .Tuple [.Name y1 q1, .Name y2 q2, .Name y3 q3] kt p2] (X.suite a ((a, oe) :: pn)).env = (false, eval (.Name n p1) (X.suite a ((a, oe) :: pn)).env) :: starEach [.Tuple [.Name y1 q1, .Name y2 q2, .Name y3 q3] kt p2] (X.suite a ((a, oe) :: pn)).env := by rfl)
    (he2 : starEach [.Tuple [.Name y1 q1, .Name y2 q2, .Name y3 q3] kt p2] (X.suite a ((a, oe) :: pn)).env = (false, eval (.Tuple [.Name y1 q1, .Name y2 q2, .Name y3 q3] kt p2) (X.suite a ((a, oe) :: pn)).env) :: starEach [] (X.suite a ((a, oe) :: pn)).env := by rfl)
    (t1 : starEach [.Name y1 q1, .Name y2 q2, .Name y3 q3] (X.suite a ((a, oe) :: pn)).env = (false, eval (.Name y1 q1) (X.suite a ((a, oe) :: pn)).env) :: starEach [.Name y2 q2, .Name y3 q3] (X.suite a ((a, oe) :: pn)).env := by rfl)
    (t2 : starEach [.Name y2 q2, .Name y3 q3] (X.suite a ((a, oe) :: pn)).env = (false, eval (.Name y2 q2) (X.suite a ((a, oe) :: pn)).env) :: starEach [.Name y3 q3] (X.suite a ((a, oe) :: pn)).env := by rfl)
    (t3 : starEach [.Name y3 q3] (X.suite a ((a, oe) :: pn)).env = (false, eval (.Name y3 q3) (X.suite a ((a, oe) :: pn)).env) :: starEach [] (X.suite a ((a, oe) :: pn)).env := by rfl)
    (hpl : (backTo p3 (starEach [.Tuple [.Name y1 q1, .Name y2 q2, .Name y3 q3] kt p2] (X.suite a ((a, oe) :: pn)).env)).any (·.1) = false := by rfl) :
    EvE (X.suite a ((a, oe) :: pn)) B ρ (.Call (.Name "isinstance" p) [.Name n p1, .Tuple [.Name y1 q1, .Name y2 q2, .Name y3 q3] kt p2] [] p3) Φ :=
  pe_imp (pe_callB (X := X.suite a ((a, oe) :: pn)) (call_isET (pn := pn) C hz hf) hg hm (by decide +kernel) (pa_cons (pe_var hN hv hdn hcn) (pa_cons (pe_tup (pa_cons (pe_glob (v := .ref E1) g1 m1 rfl d1) (pa_cons (pe_glob (v := .ref E2) g2 m2 rfl d2) (pa_cons (pe_glob (v := .ref E3) g3 m3 rfl d3) pa_nil t3) t2) t1)) pa_nil he2) he) (by decide) (by decide) he hpl) fun σ H Q ⟨Ee, k⟩ => by
    obtain ⟨v, e1, h1⟩ := Ee.sl i _ hr
    have h1' : v = .ref a := h1
    subst h1'
    exact ⟨.ref a, e1, Nat.le_trans (by decide : 3 ≤ 1000) (by decide), fun tp hp => ⟨tp, _, _, b, rfl, upd_same, .cons (.own E1) (.cons (.own E2) (.cons (.own E3) .nil)), hk, k _ _ (.bool b) (Ext.new hp) (Ee.new hp) (Dn.bool.mpr rfl) h⟩⟩
end
end Vw
namespace Vw
open PySem PySem.Spec L2
theorem Same.tr {X : Cx} {P : Program} {w : World} {K : PySem.W.Frag} {mg : Str → Option Value} {base : Heap} {N : List Str} (S : Same X P w K mg base N) {pn : List (Addr × Obj)} {xe : Value → Shared → Prop} (po : PassesOwn (model X.prog X.w) X.A X.env xe) : Same (X.tr pn xe) P w K mg base N :=
  ⟨S.p, S.w, S.k, S.m, S.b, S.n, S.nd, S.c, po⟩
theorem ratneg (u d : Int) : ((-u : Int) : Rat) / ((-d : Int) : Rat) = (u : Rat) / (d : Rat) := by
  rw [Rat.intCast_neg, Rat.intCast_neg, Rat.div_def, Rat.div_def]
  by_cases h : (d : Rat) = 0
  · rw [h]; simp
  · grind
theorem num_ne {q : Rat} (h : q ≠ 0) : q.num ≠ 0 := fun z => h (Rat.num_eq_zero.mp z)
theorem div_eq (p q : Rat) (h : q ≠ 0) : p / q = ((p.num * (q.den : Int) : Int) : Rat) / (((p.den : Int) * q.num : Int) : Rat) := by
  have hp := num_div p
  have hq := num_div q
  have h1 := den_ne p
  have h2 := den_ne q
  have h3 : (q.num : Rat) ≠ 0 := fun z => num_ne h (by
    have z' : ((q.num : Int) : Rat) = ((0 : Int) : Rat) := z
    exact Rat.intCast_inj.mp z')
  rw [Rat.intCast_mul, Rat.intCast_mul]
  generalize ((p.den : Int) : Rat) = pd at *
  generalize ((q.den : Int) : Rat) = qd at *
  generalize (p.num : Rat) = pn at *
  generalize (q.num : Rat) = qn at *
  subst hp hq
  grind
theorem Sz.div {a b : Nat} {p q : Rat} (hp : Sz a p) (hq : Sz b q) (h : q ≠ 0) : Sz (a + b) (p / q) := by
  rw [div_eq p q h]
  have hn := num_ne h
  have e1 := mul_lt2 hp.1 (show ((q.den : Int)).natAbs < 2 ^ b by simpa using hq.2)
  have e2 := mul_lt2 (show ((p.den : Int)).natAbs < 2 ^ a by simpa using hp.2) hq.1
  have dp := den_pos p
  by_cases hs : 0 < q.num
  · exact low_sz (Int.mul_pos dp hs) e1 e2
  · rw [← ratneg]
    refine low_sz ?_ (by rw [Int.natAbs_neg]; exact e1) (by rw [Int.natAbs_neg]; exact e2)
    have : 0 < (p.den : Int) * (-q.num) := Int.mul_pos dp (by omega)
    rw [Int.mul_neg] at this
    exact this
end Vw

namespace Vw
open PySem PySem.Spec L2
open PyProof.Rows (envOfC)
/-! ### rows of ints as data -/
theorem canInts : ∀ ns : List Int, PyData.canLayAll0 (ns.map PyData.int) = true
  | [] => rfl
  | n :: ns => by
    show (PyData.canLay0 (.int n) && PyData.canLayAll0 (ns.map PyData.int)) = true
    rw [canInts ns]
    simp [PyData.canLay0]
theorem depthInts : ∀ ns : List Int, PyData.depthAll (ns.map PyData.int) = 0
  | [] => by simp [PyData.depthAll]
  | n :: ns => by simp [PyData.depthAll, PyData.depth, depthInts ns]
theorem shapedInts (ns : List Int) : SeqAt.shaped (.list (ns.map PyData.int)) = true := by
  unfold SeqAt.shaped
  have h1 : PyData.canLay0 (.list (ns.map PyData.int)) = true := by
    simp only [PyData.canLay0]
    exact canInts ns
  rw [h1]
  simp only [PyData.depth, depthInts]
  rfl
theorem eqvInts0 : ∀ ns : List Int, PyData.eqv (.list (ns.map PyData.int)) (.list []) = ns.isEmpty
  | [] => by rfl
  | n :: ns => by simp [PyData.eqv, PyData.eqvAll]
theorem dpInts {K : PySem.W.Frag} {H : Hp} {b : Addr} {ns : List Int} (h : H b = some (.lst (ns.map V.int))) : Dp K H (.ref b) (.list (ns.map PyData.int)) :=
  Dn.dp (ex := fun _ => False) (.list (ns.map PyData.int)) (.ref b) (PyData.hasDict_of_canLay _ (SeqAt.canLay_of_shaped (shapedInts ns))) (Dn.list.mpr ⟨b, _, rfl, h, fun z => z, DnAll.ints ns⟩)
/-! ### products -/
theorem op_mulK {X : Cx} : OpR X (binaryOp .Mult) (rI (fun i j => IntMulOk i j) fun i j => .int (i * j)) := opI fun _ _ _ _ _ _ _ hc q => PyProof.Rows.mul_int q hc
theorem bits_le {j : Int} (h : Lt2 j 63) : Builtin.Int.intBits j ≤ 64 := by
  unfold Builtin.Int.intBits
  split
  · omega
  · have := PySem.Flt.log2_lt_of (show 0 < 63 by decide) h
    omega
theorem mulK_r {i j : Int} (h : Builtin.Int.intBits j ≤ 64) : IntMulOk i j := IntMulOk.of_right h
theorem mulK_l {i j : Int} (h : Builtin.Int.intBits i ≤ 64) : IntMulOk i j := IntMulOk.of_left h
/-! ### the source's dict -/
theorem k1 : ¬ (Str.ofString "far" = Str.ofString "count") := by decide
theorem k2 : ¬ (Str.ofString "cells" = Str.ofString "count") := by decide
theorem k3 : ¬ (Str.ofString "sum" = Str.ofString "count") := by decide
theorem k4 : ¬ (Str.ofString "far" = Str.ofString "sum") := by decide
theorem k5 : ¬ (Str.ofString "cells" = Str.ofString "sum") := by decide
theorem k6 : ¬ (Str.ofString "far" = Str.ofString "cells") := by decide
theorem val_turn {b c : Addr} {f t : Int} : valV (srcD b c f t) kCount = some (.int t) := by simp [valV, srcD, kFar, kCells, kSum, kCount, k1, k2, k3]
theorem val_fold {b c : Addr} {f t : Int} : valV (srcD b c f t) kSum = some (.int f) := by simp [valV, srcD, kFar, kCells, kSum, kCount, k4, k5]
theorem val_deep {b c : Addr} {f t : Int} : valV (srcD b c f t) kFar = some (.ref b) := by simp [valV, srcD, kFar, kCells, kSum, kCount]
theorem val_small {b c : Addr} {f t : Int} : valV (srcD b c f t) kCells = some (.ref c) := by simp [valV, srcD, kFar, kCells, kSum, kCount, k6]
theorem put_turn {b c : Addr} {f t t' : Int} : putK (srcD b c f t) kCount (.int t') = srcD b c f t' := by simp [putK, srcD, kFar, kCells, kSum, kCount, k1, k2, k3]
theorem atI_nat {α : Type} {xs : List α} {n : Nat} (h : n < xs.length) : atI xs (n : Int) = xs[n]? := by
  unfold atI ixN
  rw [if_pos (by omega), if_pos (by omega)]
  simp
section
variable {X : Cx} {B : Bs} {ρ : Rho} {e : Expr} {p p1 p2 p3 p4 p5 p6 pos : Pos} {Φ : PyData → Prop} {P0 : Po} {P : Program} {w : World} {K : PySem.W.Frag} {mg : Str → Option Value} {base : Heap} {N : List Str} {x : Str} {k j0 : Nat}
/-- the source in a frame -/
theorem En.src {σ : L2.St} {H : Hp} {i : Nat} (E : En B ρ σ H) (hr : ρ[i]? = some (some .src)) : ∃ a b c, B.src = some (a, b, c) ∧ σ[i]? = some (some (.ref a)) ∧ Src H a b c := by
  obtain ⟨v, e1, a, b, c, hs, rfl⟩ := E.sl i _ hr
  exact ⟨a, b, c, hs, e1, (E.ok.sr a b c hs).1⟩
/-- src['turn'], src['fold'] -/
theorem ev_srcI (S : Same X P w K mg base N) {key : Str} (hk : key = "count" ∨ key = "sum") (hr : Rm j0 X.A) {i : Nat} (ha : At N i x) (hρ : ρ[i]? = some (some .src)) (hv : Vis X.env.scope x) (h : ∀ t : Int, Φ (.int t)) (hd : (x == ("__debug__" : Str)) = false := by decide) (hcd : (x == ("__classdict__" : Str)) = false := by decide) :
    EvE X B ρ (.Subscript (.Name x p) (.Constant (.str key) k p1) pos) Φ :=
  pe_imp (pe_dget (hu_of hr.r) (pe_var (by rw [S.n]; exact ha.get) hv hd hcd) pe_str (fun _ _ => rfl)) fun σ H Q ⟨E, kk⟩ => by
    obtain ⟨a, b, c, hs, e1, deep, small, fold, turn, s⟩ := E.src hρ
    refine ⟨.ref a, e1, ?_⟩
    rcases hk with rfl | rfl
    · exact ⟨a, .int turn, rfl, by have := DGet.k (k := kCount) s.da; rw [val_turn] at this; exact this, kk _ H (.int turn) Ext.refl E (Dn.int.mpr rfl) (h turn)⟩
    · exact ⟨a, .int fold, rfl, by have := DGet.k (k := kSum) s.da; rw [val_fold] at this; exact this, kk _ H (.int fold) Ext.refl E (Dn.int.mpr rfl) (h fold)⟩
/-- src['turn'] = e -/
theorem es_putTurn (S : Same X P w K mg base N) (hr : Rm j0 X.A) {i : Nat} (ha : At N i x) (hρ : ρ[i]? = some (some .src)) (hv : Vis X.env.scope x) (h : EvE X B ρ e fun d => ∃ t : Int, d = .int t ∧ P0.nx ρ) (hd : (x == ("__debug__" : Str)) = false := by decide) (hcd : (x == ("__classdict__" : Str)) = false := by decide)
    (hs : swapsWith e (some (.Subscript (.Name x p) (.Constant (.str "count") k p1) p2)) pos.line X.env = pure false := by rfl) : EvS X B ρ (.Assign [.Subscript (.Name x p) (.Constant (.str "count") k p1) p2] e pos) P0 :=
  ps_imp (ps_dput (hu_of hr.r) (pe_var (by rw [S.n]; exact ha.get) hv hd hcd) pe_str h hs) fun D σ H q => ⟨q.1, fun v H1 d x1 E1 hd ⟨t, ed, hn⟩ => by
    subst ed
    obtain ⟨a, b, c, hs, e1, deep, small, fold, turn, s⟩ := E1.src hρ
    have ev : v = .int t := Dn.int.mp hd
    subst ev
    have hda := s.da
    have hSa : B.S a := ⟨a, b, c, hs, .inl rfl⟩
    have xx : Ext B H1 (upd H1 a (.dK (srcD b c fold t))) := fun y o e n => by rw [upd_ne (show y ≠ a from fun z => n (z ▸ hSa))]; exact e
    have nb : b ≠ a := fun z => by have := s.db; rw [z, s.da] at this; cases this
    have nc : c ≠ a := fun z => by have := s.dc; rw [z, s.da] at this; cases this
    have ok : B.Ok (upd H1 a (.dK (srcD b c fold t))) := by
      refine ⟨fun y hy => ?_, fun a' b' c' e' => ?_⟩
      · by_cases z : y = a
        · rw [z, upd_same]; intro q; cases q
        · rw [upd_ne z]; exact E1.ok.live y hy
      · rw [hs] at e'
        cases e'
        obtain ⟨_, h1, h2, h3⟩ := E1.ok.sr a b c hs
        exact ⟨⟨deep, small, fold, t, ⟨upd_same, by rw [upd_ne nb]; exact s.db, by rw [upd_ne nc]; exact s.dc, s.ne, s.le, s.ld, s.bc⟩⟩, h1, h2, h3⟩
    refine ⟨.ref a, e1, a, _, rfl, (by have := DPut.k (k := kCount) (v := .int t) s.da (by simp [srcD, sizeLine_eq]); rw [put_turn] at this; exact this), ?_⟩
    exact q.2.1 ρ σ _ ((XS.of_ext x1).trans E1.ok (XS.of_ext xx)) (E1.ext xx ok) hn⟩
/-- src['small'][int(t) % len(src['small'])] -/
theorem ev_srcCell (S : Same X P w K mg base N) (T : Txt mg) (hr : Rm j0 X.A) {i : Nat} (ha : At N i x) (hρ : ρ[i]? = some (some .src)) (hv : Vis X.env.scope x) (hg : Gl X "len") {k2 : Nat} {p8 p9 : Pos} (ht : EvE X B ρ e fun d => ∃ t : Int, d = .int t) (h : ∀ t : Int, Φ (.int t)) (hd : (x == ("__debug__" : Str)) = false := by decide) (hcd : (x == ("__classdict__" : Str)) = false := by decide)
    (he : starEach [.Subscript (.Name x p4) (.Constant (.str "cells") k2 p5) p6] X.env = (false, eval (.Subscript (.Name x p4) (.Constant (.str "cells") k2 p5) p6) X.env) :: starEach [] X.env := by rfl) (hpl : (backTo p8 (starEach [] X.env)).any (·.1) = false := by rfl) :
    EvE X B ρ (.Subscript (.Subscript (.Name x p) (.Constant (.str "cells") k p1) p2) (.BinOp e .Mod (.Call (.Name "len" p3) [.Subscript (.Name x p4) (.Constant (.str "cells") k2 p5) p6] [] p8) p9) pos) Φ := by
  have dg : ∀ {q q1 q2 : Pos} {kk : Nat}, PE X (.Subscript (.Name x q) (.Constant (.str "cells") kk q1) q2) (tDGet (fun σ H Q => ∃ v, σ[i]? = some (some v) ∧ Q v H) (tC (.str "cells"))) := pe_dget (hu_of hr.r) (pe_var (by rw [S.n]; exact ha.get) hv hd hcd) pe_str (fun _ _ => rfl)
  refine pe_imp (pe_ix ix_list dg (pe_op op_mod ht (pe_callB call_len hg (by rw [S.m]; exact T.len) (by decide +kernel) (pa_cons dg pa_nil he) (by decide) (by decide) he hpl)) (fun _ _ => rfl)) fun σ H Q ⟨E, kk⟩ => ?_
  obtain ⟨a, b, c, hs, e1, deep, small, fold, turn, s⟩ := E.src hρ
  have g1 : ∀ {H1 : Hp}, SrcS H1 a b c deep small fold turn → DGet H1 a (.str "cells") (some (.ref c)) := fun {H1} s1 => by have := DGet.k (k := kCells) s1.da; rw [val_small] at this; exact this
  refine ⟨.ref a, e1, a, .ref c, rfl, g1 s, E, fun v H1 d x1 E1 hd ⟨t, ed⟩ => ?_⟩
  subst ed
  obtain ⟨a', b', c', hs', e1', deep, small, fold, turn, s⟩ := E1.src hρ
  rw [hs] at hs'
  cases hs'
  have g2 : DGet H1 a (.str "cells") (some (.ref c)) := by have := DGet.k (k := kCells) s.da; rw [val_small] at this; exact this
  have hl : (0 : Int) < (small.map V.int).length := by rw [List.length_map]; have := s.ne; omega
  refine ⟨.ref a, e1', a, .ref c, rfl, g2, .ref c, _, rfl, .inl ⟨_, SqL.of s.dc, rfl⟩, t, _, Dn.int.mp hd, rfl, hl, ?_⟩
  have n1 := Int.emod_nonneg t (show ((small.map V.int).length : Int) ≠ 0 by omega)
  have n2 := Int.emod_lt_of_pos t hl
  obtain ⟨n, hn⟩ : ∃ n : Nat, t % ((small.map V.int).length : Int) = (n : Int) := ⟨_, (Int.toNat_of_nonneg n1).symm⟩
  have hlt : n < small.length := by rw [List.length_map] at hn n2; omega
  refine ⟨c, _, (n : Int), .int (small[n]'hlt), rfl, by rw [← hn], SqL.of s.dc, ?_, kk _ H1 (.int (small[n]'hlt)) x1 E1 (Dn.int.mpr rfl) (h _)⟩
  rw [atI_nat (by simpa using hlt)]
  simp [hlt]
/-- x = src['deep'] -/
theorem es_srcDeep (S : Same X P w K mg base N) (hr : Rm j0 X.A) {i j : Nat} {y : Str} (ha : At N i x) (hρ : ρ[i]? = some (some .src)) (hv : Vis X.env.scope x) (hy : At N j y) (hyl : Loc X.env.scope y) (h : ∀ a b c, B.src = some (a, b, c) → P0.nx (ρ.set j (some (.raw (.ref b))))) (hd : (x == ("__debug__" : Str)) = false := by decide) (hcd : (x == ("__classdict__" : Str)) = false := by decide)
    (hs : swapsWith (.Subscript (.Name x p) (.Constant (.str "far") k p1) p2) (some (.Name y p3)) pos.line X.env = pure false := by rfl)
    (hf : X.fn y = true ∨ X.env.scope.names.lookup y = some .local := by first | exact .inl rfl | exact .inr rfl | assumption) : EvS X B ρ (.Assign [.Name y p3] (.Subscript (.Name x p) (.Constant (.str "far") k p1) p2) pos) P0 :=
  ps_imp (ps_set S.nd (by rw [S.n]; exact hy.get) hyl (pe_dget (hu_of hr.r) (pe_var (by rw [S.n]; exact ha.get) hv hd hcd) pe_str (fun _ _ => rfl)) hs hf) fun D σ H q => by
    obtain ⟨a, b, c, hs, e1, deep, small, fold, turn, s⟩ := q.1.src hρ
    refine ⟨.ref a, e1, a, .ref b, rfl, (by have := DGet.k (k := kFar) s.da; rw [val_deep] at this; exact this), ?_⟩
    exact q.2.1 _ _ H (XS.set fun ds => by intro z; cases z) (q.1.set (s := .raw (.ref b)) (fun ds => by intro z; cases z) rfl) (h a b c hs)
/-- the deep cells: bd, where there are some -/
theorem es_deep (S : Same X P w K mg base N) (hr : Rm j0 X.A) {iy : Nat} {dp : Str} {bd : List Stmt} {tb : TS} {many : Int} (hdp : At N iy dp) (ρd : ∃ a b c, B.src = some (a, b, c) ∧ ρ[iy]? = some (some (.raw (.ref b)))) (vdp : Vis X.env.scope dp) (hb : PSs X bd tb)
    (hrd : ∀ D σ H a b c n r small fold turn, En B ρ σ H → σ[iy]? = some (some (.ref b)) → SrcS H a b c (n :: r) small fold turn → (∀ H' d, 0 ≤ d → d < many → (∀ y o, H y = some o → y ≠ a → y ≠ b → H' y = some o) → Src H' a b c → D.rt (.int d) H') → tb D σ H)
    (hnx : P0.nx ρ) (hrt : ∀ d : Int, 0 ≤ d → d < many → P0.rt (.int d)) (b1 : (dp == ("__debug__" : Str)) = false := by decide) (b2 : (dp == ("__classdict__" : Str)) = false := by decide) :
    EvS X B ρ (.If (.Compare (.Name dp p1) [.NotEq] [.List [] p2] p3) bd [] pos) P0 := by
  refine ps_imp (ps_if (pt_cmpR (op_neD hr.r.units) (pe_var (by rw [S.n]; exact hdp.get) vdp b1 b2) (pe_lst pa_nil) (nomark _)) hb pss_nil) fun D σ H q => ?_
  obtain ⟨a, b, c, hs, hρd⟩ := ρd
  have E := q.1
  obtain ⟨v, s1, hv⟩ := E.sl iy _ hρd
  have hv' : v = .ref b := hv
  subst hv'
  obtain ⟨⟨deep, small, fold, turn, s⟩, exa, exb, exc⟩ := E.ok.sr a b c hs
  refine ⟨.ref b, s1, Nat.zero_le _, fun p hp => ?_⟩
  have e1 : ∀ {y : Addr} {o : HO}, H y = some o → upd H p (.lst []) y = some o := fun {y o} e => by rw [upd_ne (ne_of_none e hp)]; exact e
  have E1 : En B ρ σ (upd H p (.lst [])) := E.new hp
  refine ⟨.list (deep.map PyData.int), .list [], dpInts (e1 s.db), dpInts (ns := []) upd_same, shapedInts deep, shapedInts [], ?_⟩
  rw [eqvInts0]
  refine ⟨_, rfl, ?_⟩
  cases deep with
  | nil => exact q.2.1 ρ σ _ (XS.of_ext (Ext.new hp)) E1 hnx
  | cons n r =>
    refine hrd D σ _ a b c n r small fold turn E1 s1 ⟨e1 s.da, e1 s.db, e1 s.dc, s.ne, s.le, s.ld, s.bc⟩ fun H' d h1 h2 hk hS => ?_
    have no : ∀ y, ¬ B.S y → y ≠ a ∧ y ≠ b := fun y n => ⟨fun z => n ⟨a, b, c, hs, .inl z⟩, fun z => n ⟨a, b, c, hs, .inr z⟩⟩
    refine q.2.2.1 (.int d) H' (.int d) (fun y o e n m => hk y o (e1 e) (no y n).1 (no y n).2) ⟨fun y hy => ?_, fun a' b' c' e' => ?_⟩ (Dn.int.mpr rfl) (hrt d h1 h2)
    · have l1 := E1.ok.live y hy
      cases e : upd H p (.lst []) y with
      | none => exact absurd e l1
      | some o =>
        obtain ⟨_, _, _, _, s'⟩ := hS
        by_cases z1 : y = a
        · rw [z1, s'.da]; intro z; cases z
        · by_cases z2 : y = b
          · rw [z2, s'.db]; intro z; cases z
          · rw [hk y o e z1 z2]; intro z; cases z
    · rw [hs] at e'
      cases e'
      exact ⟨hS, exa, exb, exc⟩
end
end Vw

namespace Vw
open PySem PySem.Spec L2
open PyProof.Rows (envOfC)
theorem SqL.more {K : PySem.W.Frag} {H H' : Hp} {a : Addr} {xs : List V} (h : SqL K H a xs) (k : ∀ y o, H y = some o → H' y = some o) : SqL K H' a xs := by
  rcases h with h | h
  · rcases h with h | ⟨o, h⟩
    · exact .inl (.inl (k _ _ h))
    · exact .inl (.inr ⟨o, k _ _ h⟩)
  · exact .inr h
section
variable {X : Cx} {B : Bs} {ρ : Rho} {a b c iter tg : Expr} {pos : Pos} {P0 : Po} {body : List Stmt}
theorem ps_par3 {ta : TA} (i j l : Nat) {x y z : Str} {px py pz pt : Pos} {kt k2 : Nat} {pt2 : Pos} (hc : X.calm = true) (hN : X.N.Nodup) (hi : X.N[i]? = some x) (hj : X.N[j]? = some y) (hk : X.N[l]? = some z) (hx : X.env.scope.names.lookup x = some .local)
    (hy : X.env.scope.names.lookup y = some .local) (hz : X.env.scope.names.lookup z = some .local) (h : PA X [a, b, c] ta)
    (hw : swappedStores [.Tuple [.Name x px, .Name y py, .Name z pz] kt pt] (.Tuple [a, b, c] k2 pt2) X.env = pure (some [x, y, z]) := by rfl)
    (hs : swapsWithSole [.Tuple [.Name x px, .Name y py, .Name z pz] kt pt] (.Tuple [a, b, c] k2 pt2) pos.line X.env = pure false := by rfl) :
    PS X (.Assign [.Tuple [.Name x px, .Name y py, .Name z pz] kt pt] (.Tuple [a, b, c] k2 pt2) pos) (fun D σ H => ta σ H fun vs H1 => ∃ v u w, vs = [v, u, w] ∧ D.nx (((σ.set l (some w)).set j (some u)).set i (some v)) H1) := by
  refine ⟨fun pins s σ H D I q => ?_⟩
  rw [exec_Assign_arm]
  refine wpAny_bind (wpAny_standAt ?_)
  rw [hs]
  refine wpAny_bind (wpAny_pure ?_)
  rw [if_neg (by decide)]
  refine wpAny_bind (PyProof.Rows.Tuple_ (thn (h.run _ pins s σ H _ I q) fun us s1 ⟨vs, H1, I1, rv, v, u, w, e, hn⟩ => ?_))
  subst e
  have lu : us.length = 3 := by rw [← rv.length]; rfl
  refine wpAny_newObj_type ?_ (by show us.length ≤ sizeLine; rw [lu]; decide)
  have I2 : Inv X pins σ H1 { s1 with heap := s1.heap.push { cls := .type "tuple", data := .seq us.toArray } } := I1.kept (t' := s1.toks) fun b o e => Heap.get?_push_of_some _ e
  rw [hw]
  refine wpAny_bind (wpAny_pure ?_)
  show wpAny (model X.prog X.w) X.A (do rule "assign.swapped-stores"; let items ← unpackItems (.ref s1.heap.objs.size) 3 none; assignInOrder ([x, y, z].reverse.map fun n => bindName X.env n) items.reverse; pure Flow.next) _ _ _
  refine wpAny_bind (wpAny_rule (wpAny_bind ?_))
  have eu : 3 = us.toArray.size := by simp [lu]
  rw [eu]
  refine PyProof.Rows.unpackItems_tuple (items := us.toArray) (I.ok.hd hc) (PyProof.Rows.IsTup.new s1.heap _) fun h' hx' => ?_
  have I3 := I2.kept (h' := h') (t' := s1.toks) fun b o e => hx' b o (Nat.ne_of_lt (Heap.lt_size e)) e
  refine wpAny_bind (thn (Q := fun _ s2 => SP X pins D .next s2) ?_ fun _ s2 q => wpAny_pure q)
  cases rv with
  | cons r1 rv =>
    cases rv with
    | cons r2 rv =>
      cases rv with
      | cons r3 rv =>
        cases rv
        refine PyProof.Rows.assignInOrder_cons (wpAny_bindName (store_ok I3 hN hk (.inl hz) r3 (fun s2 I2 => ?_) (.inr hz)))
        refine PyProof.Rows.assignInOrder_cons (wpAny_bindName (store_ok I2 hN hj (.inl hy) r2 (fun s3 I3 => ?_) (.inr hy)))
        refine PyProof.Rows.assignInOrder_cons (wpAny_bindName (store_ok I3 hN hi (.inl hx) r1 (fun s4 I4 => PyProof.Rows.assignInOrder_nil ?_) (.inr hx)))
        exact ⟨_, H1, I4, hn⟩
/-- for .. in what a raw reading tells -/
theorem es_forR {t : TE} {G : L2.St → Hp → Prop} {ds : List PyData} {T : PyData → Rho → (Rho → Prop) → Prop} (hp : PassesOwn (model X.prog X.w) X.A X.env X.xe) (hc : X.calm = true) (hg : EvG X B tg T) (hit : PE X iter t)
    (ht : ∀ σ H Q, En B ρ σ H → G σ H → (∀ v H1, Ext B H H1 → En B ρ σ H1 → Dn (exO B ρ σ) H1 (.list ds) v → Q v H1) → t σ H Q)
    (loop : LoopD X B ρ body P0 T ds.length fun k y => ds[k]? = some y) (hs : ∀ x, foldedSetIterable iter X.env x = pure x := by intro _; rfl) :
    PS X (.For tg iter body [] pos) (fun D σ H => G σ H ∧ tS B ρ P0 D σ H) := by
  obtain ⟨g, p1, q1⟩ := hg
  have hit' : PE X iter (fun σ H Q => G σ H ∧ En B ρ σ H ∧ ∀ v H1, Ext B H H1 → En B ρ σ H1 → Dn (exO B ρ σ) H1 (.list ds) v → Q v H1) := pe_imp hit fun σ H Q ⟨g, E, k⟩ => ht σ H Q E g k
  refine ps_imp (ps_for hp hc (pi_list hit') p1 (pss_s (st := body)) hs) fun D σ H ⟨hG, q⟩ => ⟨hG, q.1, fun v H1 x1 E1 hd => ?_⟩
  obtain ⟨W, w0, wt, wd⟩ := loop
  obtain ⟨a, xs, rfl, ha, na, hds⟩ := Dn.list.mp hd
  refine ⟨a, rfl, ⟨xs, SqL.of ha⟩, for_list (K := X.K) (a := a) (xs := xs) (fun i σ' H' => ∃ ρ', En B ρ' σ' H' ∧ XS B ρ σ H1 ρ' σ' H' ∧ W i ρ') ⟨ρ, E1, XS.of_ext Ext.refl, w0⟩ (fun i σ' H' _ ⟨ρ', E', x', _⟩ => SqL.of (x'.1 a _ ha (fun z => na (.inl (E1.ok.sx z))) fun z => na (.inr z))) ?_ ?_⟩
  · rintro i y σ' H' hy ⟨ρ', E', x', w'⟩
    obtain ⟨d, hdi, hdn⟩ := hds.get' hy
    have hlt : i < ds.length := (List.getElem?_eq_some_iff.mp hdi).1
    exact turn_of (tg := tg) q1 (tS_ext q x1 E1) x' E' (Dn.mono (fun y z => z.elim (fun z => .inl (.inl z)) fun z => (x'.2 y z).imp .inr id) (fun y o e n => x'.1 y o e (fun z => n (.inl (E1.ok.sx z))) fun z => n (.inr z)) d y hdn) (wt i d ρ' hlt hdi w') (H1 := H')
  · rintro σ' H' ⟨ρ', E', x', w'⟩
    rw [← hds.length] at w'
    exact q.2.1 ρ' σ' H' ((XS.of_ext x1).trans E1.ok x') E' (wd ρ' w')
end
/-- the source's promise: an own dict with own lists -/
def spSrc (K : PySem.W.Frag) : Sp := fun vs H Q _ => ∃ (a : Addr) (ns : List Int), vs = [.ref a] ∧ ns.length ≤ 63 ∧ SqL K H a (ns.map V.int) ∧
  ∀ x b c H', (∀ y o, H y = some o → H' y = some o) → H x = none → H b = none → H c = none → Src H' x b c → Q (.ref x) H'
theorem es_mono {X : Cx} {B : Bs} {ρ : Rho} {st : Stmt} {P0 : Po} {N1 : Rho → Prop} (h : EvS X B ρ st { P0 with nx := N1 }) (k : ∀ ρ, N1 ρ → P0.nx ρ) : EvS X B ρ st P0 :=
  ps_imp h fun D σ H q => ⟨q.1, fun ρ' σ' H' x E n => q.2.1 ρ' σ' H' x E (k ρ' n), q.2.2⟩
theorem own_put {ρ : Rho} {σ : L2.St} {i : Nat} {ds : List PyData} {q x : Addr} (h : Own (ρ.set i (some (.own ds))) (σ.set i (some (.ref q))) x) : Own ρ σ x ∨ x = q := by
  obtain ⟨j, es, e1, e2⟩ := h
  rcases getset e1 with ⟨ej, e⟩ | ⟨n, e⟩
  · rcases getset e2 with ⟨_, e'⟩ | ⟨n, _⟩
    · cases e'; exact .inr rfl
    · exact absurd ej n
  · rcases getset e2 with ⟨e', _⟩ | ⟨_, e'⟩
    · exact absurd e' n
    · exact .inl ⟨j, es, e, e'⟩
theorem slI {B : Bs} {xo : Addr → Prop} {H : Hp} {i : Int} : SlOk B xo H (.dat (.int i)) (.int i) := (Dn.int (ex := xo) (H := H)).mpr rfl
theorem ints_of {ex : Addr → Prop} {H : Hp} : ∀ {ns : List Int} {vs : List V}, DnAll ex H (ns.map PyData.int) vs → vs = ns.map V.int
  | [], vs, h => DnAll.nil.mp h
  | n :: ns, vs, h => by
    obtain ⟨v, r, rfl, h1, h2⟩ := DnAll.cons.mp h
    rw [Dn.int.mp h1, ints_of h2]
    rfl
/-- the dict that is told -/
theorem put4 {v1 v2 v3 v4 : V} : mergeK [] [(kFar, v1), (kCells, v2), (kSum, v3), (kCount, v4)] = [(kFar, v1), (kCells, v2), (kSum, v3), (kCount, v4)] := by
  simp [mergeK, putK, kFar, kCells, kSum, kCount, k1, k2, k3, k4, k5, k6]
end Vw

namespace Vw
open PySem PySem.Spec L2
/-! ### signs of fractions -/
def sgn (i : Int) : Int := if 0 < i then 1 else if i < 0 then -1 else 0
def rsgn (q : Rat) : Int := sgn q.num
/-- num over den is t over b -/
theorem is_eq {x : Rat} {t b : Int} (hb : b ≠ 0) (h : x = (t : Rat) / (b : Rat)) : x.num * b = t * (x.den : Int) := by
  have hx := num_div x
  have h1 := den_ne x
  have h2 : (b : Rat) ≠ 0 := fun z => hb (by
    have z' : ((b : Int) : Rat) = ((0 : Int) : Rat) := z
    exact Rat.intCast_inj.mp z')
  have : ((x.num * b : Int) : Rat) = ((t * (x.den : Int) : Int) : Rat) := by
    rw [Rat.intCast_mul, Rat.intCast_mul]
    generalize ((x.den : Int) : Rat) = d at *
    generalize (x.num : Rat) = n at *
    generalize (b : Rat) = b' at *
    generalize (t : Rat) = t' at *
    rw [h] at hx
    grind
  exact Rat.intCast_inj.mp this
theorem sgn_pos {i j k : Int} (hj : 0 < j) (hk : 0 < k) {n : Int} (h : n * j = i * k) : sgn n = sgn i := by
  unfold sgn
  have a1 : 0 < n ↔ 0 < n * j := ⟨fun h => Int.mul_pos h hj, fun h => Int.pos_of_mul_pos_left h hj⟩
  have a2 : 0 < i ↔ 0 < i * k := ⟨fun h => Int.mul_pos h hk, fun h => Int.pos_of_mul_pos_left h hk⟩
  have b1 : n < 0 ↔ n * j < 0 := ⟨fun h => Int.mul_neg_of_neg_of_pos h hj, fun h => by
    by_cases z : n < 0
    · exact z
    · have := Int.mul_nonneg (show 0 ≤ n by omega) (show 0 ≤ j by omega); omega⟩
  have b2 : i < 0 ↔ i * k < 0 := ⟨fun h => Int.mul_neg_of_neg_of_pos h hk, fun h => by
    by_cases z : i < 0
    · exact z
    · have := Int.mul_nonneg (show 0 ≤ i by omega) (show 0 ≤ k by omega); omega⟩
  rw [h] at a1 b1
  by_cases c : 0 < i * k
  · rw [if_pos (a1.mpr c), if_pos (a2.mpr c)]
  · rw [if_neg (fun z => c (a1.mp z)), if_neg (fun z => c (a2.mp z))]
    by_cases d : i * k < 0
    · rw [if_pos (b1.mpr d), if_pos (b2.mpr d)]
    · rw [if_neg (fun z => d (b1.mp z)), if_neg (fun z => d (b2.mp z))]
theorem order_rsgn (p q : Rat) : sgn (p.num * q.den - q.num * p.den) = rsgn (p - q) :=
  (sgn_pos (Int.mul_pos (den_pos p) (den_pos q)) (den_pos (p - q)) (is_eq (by have := Int.mul_pos (den_pos p) (den_pos q); omega) (sub_eq p q))).symm
theorem sgn_mul (i j : Int) : sgn (i * j) = sgn i * sgn j := by
  unfold sgn
  rcases Int.lt_trichotomy i 0 with h | h | h <;> rcases Int.lt_trichotomy j 0 with k | k | k
  · have := Int.mul_pos_of_neg_of_neg h k
    rw [if_pos this, if_neg (by omega), if_pos h, if_neg (by omega), if_pos k]; rfl
  · subst k; simp
  · have := Int.mul_neg_of_neg_of_pos h k
    rw [if_neg (by omega), if_pos this, if_neg (by omega), if_pos h, if_pos k]; rfl
  · subst h; simp
  · subst h; simp
  · subst h; simp
  · have := Int.mul_neg_of_pos_of_neg h k
    rw [if_neg (by omega), if_pos this, if_pos h, if_neg (by omega), if_pos k]; rfl
  · subst k; simp
  · have := Int.mul_pos h k
    rw [if_pos this, if_pos h, if_pos k]; rfl
theorem rsgn_mul (p q : Rat) : rsgn (p * q) = rsgn p * rsgn q := by
  unfold rsgn
  rw [← sgn_mul]
  exact sgn_pos (Int.mul_pos (den_pos p) (den_pos q)) (den_pos (p * q)) (is_eq (by have := Int.mul_pos (den_pos p) (den_pos q); omega) (mul_eq p q))
theorem rsgn_neg (p : Rat) : rsgn (-p) = 0 - rsgn p := by
  have e : (-p).num = -p.num := rfl
  unfold rsgn sgn
  rw [e]
  split <;> split <;> (try split) <;> (try split) <;> omega
theorem rsgn_zero : rsgn 0 = 0 := by decide
theorem rsgn_pos {t b : Int} (ht : 0 < t) (hb : 0 < b) : rsgn ((t : Rat) / (b : Rat)) = 1 := by
  have := sgn_pos hb (den_pos ((t : Rat) / (b : Rat))) (is_eq (by omega) rfl)
  unfold rsgn
  rw [this]
  unfold sgn
  rw [if_pos ht]
instance (i : Int) (k : Nat) : Decidable (Lt2 i k) := inferInstanceAs (Decidable (i.natAbs < 2 ^ k))
theorem sgn_lt (i : Int) : Lt2 (sgn i) 64 := by
  unfold sgn
  split
  · decide
  · split <;> decide
theorem rsgn_lt (q : Rat) : Lt2 (rsgn q) 64 := sgn_lt _
theorem cons_eq {α : Type} {a b : α} {r s : List α} (h : a = b) (t : r = s) : a :: r = b :: s := by rw [h, t]
/-! ### what repr shows -/
def Rp0 (d : PyData) : Prop := d.showable = true ∧ d.hasDict = false ∧ d.leavesShort 2000 = true ∧ d.depth ≤ 1 ∧ d.bulk ≤ 2
def Rp (d : PyData) : Prop := (d.showable = true ∧ (d.hasDict = false ∨ flatD d = true) ∧ d.shown.length ≤ sizeLine ∧ d.depth ≤ 100)
theorem leaf {i : Int} (h : Lt2 i 1900) : i.natAbs.log2 < 1920 ∧ (PyData.shown (.int i)).length ≤ 2000 := by
  have h1 : i.natAbs.log2 < 1900 := PySem.Flt.log2_lt_of (by decide) h
  refine ⟨by omega, ?_⟩
  have e := int_text_length_le (k := 1920) (by decide) (show i.natAbs.log2 < 1920 by omega)
  show (Str.ofString (toString i)).length ≤ 2000
  rw [ofString_length]
  omega
theorem Rp0.int {i : Int} (h : Lt2 i 1900) : Rp0 (.int i) := by
  obtain ⟨h1, h2⟩ := leaf h
  refine ⟨?_, ?_, ?_, ?_, ?_⟩
  · simpa [PyData.showable] using h1
  · simp [PyData.hasDict]
  · simpa [PyData.leavesShort] using h2
  · simp [PyData.depth]
  · simp [PyData.bulk]
theorem Rp0.fr {q : Rat} (h : Sz 1900 q) : Rp0 (fr q) := by
  obtain ⟨h1, h2⟩ := leaf h.nn
  obtain ⟨h3, h4⟩ := leaf h.dd
  unfold Vw.fr
  refine ⟨?_, ?_, ?_, ?_, ?_⟩
  · simp only [PyData.showable, PyData.showableAll]
    simp [h1, h3]
    simpa using h3
  · simp [PyData.hasDict, PyData.hasDictAll]
  · simp only [PyData.leavesShort, PyData.leavesShortAll]
    simp [h2, h4]
  · simp [PyData.depth, PyData.depthAll]
  · simp [PyData.bulk, PyData.bulkAll]
def Rps : List PyData → Prop
  | [] => True
  | d :: r => Rp0 d ∧ Rps r
theorem Rps.sh : ∀ {ds : List PyData}, Rps ds → PyData.showableAll ds = true ∧ PyData.hasDictAll ds = false ∧ PyData.leavesShortAll 2000 ds = true ∧ PyData.depthAll ds ≤ 1 ∧ PyData.bulkAll ds ≤ 3 * ds.length
  | [], _ => ⟨by simp [PyData.showableAll], by simp [PyData.hasDictAll], by simp [PyData.leavesShortAll], by simp [PyData.depthAll], by simp [PyData.bulkAll]⟩
  | d :: r, ⟨⟨h1, h2, h3, h4, h5⟩, h⟩ => by
    obtain ⟨k1, k2, k3, k4, k5⟩ := Rps.sh h
    refine ⟨?_, ?_, ?_, ?_, ?_⟩
    · simp [PyData.showableAll, h1, k1]
    · simp [PyData.hasDictAll, h2, k2]
    · simp [PyData.leavesShortAll, h3, k3]
    · simp only [PyData.depthAll]; omega
    · simp only [PyData.bulkAll, List.length_cons]; omega
theorem Rp.list {ds : List PyData} (h : Rps ds) (hl : Nat.ble ds.length 100 = true) : Rp (.list ds) := by
  obtain ⟨k1, k2, k3, k4, k5⟩ := h.sh
  have hl' := Nat.le_of_ble_eq_true hl
  refine ⟨?_, ?_, ?_, ?_⟩
  · simpa [PyData.showable] using k1
  · exact .inl (by simpa [PyData.hasDict] using k2)
  · have := PyData.shown_le_bulk 2000 (by decide) (.list ds) (by simpa [PyData.leavesShort] using k3)
    simp only [PyData.bulk] at this
    rw [sizeLine_eq]
    omega
  · simp only [PyData.depth]; omega
theorem Rp0.rp {d : PyData} (h : Rp0 d) : Rp d := by
  obtain ⟨h1, h2, h3, h4, h5⟩ := h
  refine ⟨h1, .inl h2, ?_, by omega⟩
  have := PyData.shown_le_bulk 2000 (by decide) d h3
  rw [sizeLine_eq]
  have e : (2000 + 2) * d.bulk ≤ 2002 * 2 := Nat.mul_le_mul_left _ h5
  omega
section
variable {X : Cx} {B : Bs} {ρ : Rho} {a b : Expr} {p1 p2 p3 p4 pos : Pos} {Φ : PyData → Prop} {Ψ : Bool → Prop} {P : Program} {w : World} {K : PySem.W.Frag} {mg : Str → Option Value} {base : Heap} {N : List Str}
/-- texts compared -/
theorem od_eqS {x y : Str} (h : Φ (.bool (decide (V.str x = V.str y)))) : OpD B ρ rEq (.str x) (.str y) Φ := fun σ H v u Q E d1 d2 k => by
  rw [Dn.str.mp d1, Dn.str.mp d2]
  exact ⟨rfl, k _ H _ Ext.refl E (Dn.bool.mpr rfl) h⟩
theorem od_neS {x y : Str} (h : Φ (.bool (!decide (V.str x = V.str y)))) : OpD B ρ rNe (.str x) (.str y) Φ := fun σ H v u Q E d1 d2 k => by
  rw [Dn.str.mp d1, Dn.str.mp d2]
  exact ⟨rfl, k _ H _ Ext.refl E (Dn.bool.mpr rfl) h⟩
/-- repr(a) == repr(b), alike -/
theorem ev_reprEq (S : Same X P w K mg base N) (T : Txt mg) {j : Nat} (hr : Rm j X.A) (hg : Gl X "repr") (h : EvE X B ρ a fun d => Rp d ∧ EvE X B ρ b fun f => f = d ∧ Φ (.bool true))
    (he : starEach [a] X.env = (false, eval a X.env) :: starEach [] X.env := by rfl) (hpl : (backTo p2 (starEach [] X.env)).any (·.1) = false := by rfl) (he' : starEach [b] X.env = (false, eval b X.env) :: starEach [] X.env := by rfl) (hpl' : (backTo p4 (starEach [] X.env)).any (·.1) = false := by rfl) :
    EvE X B ρ (.Compare (.Call (.Name "repr" p1) [a] [] p2) [.Eq] [.Call (.Name "repr" p3) [b] [] p4] pos) Φ :=
  ev_cmp op_eq (nomark _) (ev_repr S T hr hg (ev_mono h fun d ⟨hR, hb⟩ => ⟨hR, ev_repr S T hr hg (ev_mono hb fun f ⟨e, hΦ⟩ => by
    subst e
    exact ⟨hR, od_eqS (by rw [decide_eq_true (Eq.refl _)]; exact hΦ)⟩) he' hpl'⟩) he hpl)
/-- repr(a) != repr(b), alike -/
theorem et_reprNe (S : Same X P w K mg base N) (T : Txt mg) {j : Nat} (hr : Rm j X.A) (hg : Gl X "repr") (h : EvE X B ρ a fun d => Rp d ∧ EvE X B ρ b fun f => f = d ∧ Ψ false)
    (he : starEach [a] X.env = (false, eval a X.env) :: starEach [] X.env := by rfl) (hpl : (backTo p2 (starEach [] X.env)).any (·.1) = false := by rfl) (he' : starEach [b] X.env = (false, eval b X.env) :: starEach [] X.env := by rfl) (hpl' : (backTo p4 (starEach [] X.env)).any (·.1) = false := by rfl) :
    EvT X B ρ (.Compare (.Call (.Name "repr" p1) [a] [] p2) [.NotEq] [.Call (.Name "repr" p3) [b] [] p4] pos) Ψ :=
  et_cmp op_ne (nomark _) (ev_repr S T hr hg (ev_mono h fun d ⟨hR, hb⟩ => ⟨hR, ev_repr S T hr hg (ev_mono hb fun f ⟨e, hΨ⟩ => by
    subst e
    exact ⟨hR, od_neS ⟨false, by simp, hΨ⟩⟩) he' hpl'⟩) he hpl)
end
end Vw

namespace Vw
open PySem PySem.Spec L2
theorem eqv_fr (x : Rat) : PyData.eqv (fr x) (fr x) = true := by simp [fr, PyData.eqv, PyData.eqvAll]
theorem sh_fr (x : Rat) : SeqAt.shaped (fr x) = true := by rfl
section
variable {X : Cx} {B : Bs} {ρ : Rho} {P : Po} {e : Expr} {pos : Pos}
/-- x.append(e), e read while x stands still; it tells a fraction -/
theorem es_appendF (i : Nat) {x : Str} {ds : List PyData} {p1 p2 p3 : Pos} (hr : ρ[i]? = some (some (.own ds))) (hN : X.N[i]? = some x) (hv : Vis X.env.scope x)
    (h : EvE X B (ρ.set i (some (.dat (.list ds)))) e fun d => ∃ q, d = fr q ∧ ds.length < sizeLine ∧ P.nx (ρ.set i (some (.own (ds ++ [fr q]))))) (hd : (x == ("__debug__" : Str)) = false := by decide) (hcd : (x == ("__classdict__" : Str)) = false := by decide)
    (hbase : attributeBase (.Name x p1) "append" X.env (eval (.Name x p1) X.env) = eval (.Name x p1) X.env := by rfl)
    (hfew : ((backTo p3 (starEach [e] X.env)).all (fun x => !x.1) && (backToKw p3 (keywordEach [] X.env)).all (fun x => x.1.isSome)
      && decide ([e].length + ([] : List Keyword).length + (if ([] : List Keyword).isEmpty then 0 else 1) < 30)) = true := by rfl)
    (hline : (p2.endLine == p3.line) = true := by rfl) (hs : starEach [e] X.env = (false, eval e X.env) :: starEach [] X.env := by rfl)
    (hsw : swapsWith (.Call (.Attribute (.Name x p1) "append" p2) [e] [] p3) none pos.line X.env = pure false := by rfl) :
    EvS X B ρ (.Expr (.Call (.Attribute (.Name x p1) "append" p2) [e] [] p3) pos) P := by
  refine ps_imp (ps_expr (pe_bm PySem.F.plainAttrs_list PySem.F.slot_list_append PySem.F.type_list_append mt_append (pe_var hN hv hd hcd) (pa_cons h pa_nil hs) hbase hfew hline hs rfl) hsw) fun D σ H q => ?_
  obtain ⟨v, e1, p, vs, rfl, hp, np, hds⟩ := q.1.sl i _ hr
  have Ef := q.1.freeze hr
  refine ⟨_, e1, .inl ⟨rfl, _, SqL.of hp⟩, Ef, fun w H1 d x1 E1 dd ⟨qq, hq, hl, hn⟩ => ?_⟩
  subst hq
  have hp1 : H1 p = some (.lst vs) := x1 p _ hp fun z => np (q.1.ok.sx z)
  have E1' : En B ρ σ H1 := q.1.ext x1 E1.ok
  have hds1 := q.1.dnAll x1 hds
  have dd' : Dn (exO B ρ σ) H1 (fr qq) w := by
    obtain ⟨a, xs, rfl, ha, na, hx⟩ := Dn.tuple.mp dd
    refine Dn.tuple.mpr ⟨a, xs, rfl, ha, fun z => ?_, ?_⟩
    · rcases z with z | z
      · exact na (.inl z)
      · obtain ⟨_, _, e, _⟩ := E1'.ownLive z
        rw [ha] at e; cases e
    · obtain ⟨v1, r1, rfl, k1, k2⟩ := DnAll.cons.mp hx
      obtain ⟨v2, r2, rfl, k3, k4⟩ := DnAll.cons.mp k2
      have k5 := DnAll.nil.mp k4
      subst k5
      exact DnAll.cons.mpr ⟨v1, _, rfl, Dn.int.mpr (Dn.int.mp k1), DnAll.cons.mpr ⟨v2, _, rfl, Dn.int.mpr (Dn.int.mp k3), DnAll.nil.mpr rfl⟩⟩
  obtain ⟨E2, x2⟩ := E1'.putOwn (es := ds ++ [fr qq]) (vs := vs ++ [w]) hr e1 (hds1.append (DnAll.cons.mpr ⟨w, [], rfl, dd', DnAll.nil.mpr rfl⟩))
  refine ⟨p, vs, w, rfl, rfl, hp1, by rw [← hds.length]; exact hl, q.2.1 _ _ _ ((XS.of_ext x1).trans E1'.ok (XS.put hr x2)) E2 hn⟩
theorem es_for2 {P0 : Program} {w : World} {K : PySem.W.Frag} {mg : Str → Option Value} {base : Heap} {N : List Str} (S : Same X P0 w K mg base N) {i j : Nat} {x y : Str} {px py pt : Pos} {kt : Nat} {iter : Expr} {body : List Stmt} (hi : At N i x) (hj : At N j y) (hx : Loc X.env.scope x) (hy : Loc X.env.scope y)
    (h : EvE X B ρ iter fun d => ∃ ds, d = .list ds ∧ LoopD X B ρ body P (fun d ρ C => ∃ a b, d = .tuple [a, b] ∧ C ((ρ.set i (some (.dat a))).set j (some (.dat b)))) ds.length fun k y => ds[k]? = some y) (hs : ∀ x, foldedSetIterable iter X.env x = pure x := by intro _; rfl)
    (hf : X.fn x = true ∨ X.env.scope.names.lookup x = some .local := by first | exact .inl rfl | exact .inr rfl | assumption) (hf2 : X.fn y = true ∨ X.env.scope.names.lookup y = some .local := by first | exact .inl rfl | exact .inr rfl | assumption) :
    EvS X B ρ (.For (.Tuple [.Name x px, .Name y py] kt pt) iter body [] pos) P := by
  obtain ⟨g, p1, q1⟩ : EvG X B (.Tuple [.Name x px, .Name y py] kt pt) _ := eg_tup S.c (egs_cons (eg_nm S hi hx hf) (egs_cons (eg_nm S hj hy hf2) egs_nil))
  exact es_for S.po S.c (T := fun d ρ C => ∃ a b, d = .tuple [a, b] ∧ C ((ρ.set i (some (.dat a))).set j (some (.dat b)))) ⟨g, p1, fun d ρ C v σ H Q ⟨a, b, e, hc⟩ => q1 d ρ C v σ H Q ⟨[a, b], e, rfl, a, [b], rfl, b, [], rfl, rfl, hc⟩⟩ h hs
theorem es_for1 {P0 : Program} {w : World} {K : PySem.W.Frag} {mg : Str → Option Value} {base : Heap} {N : List Str} (S : Same X P0 w K mg base N) {i : Nat} {x : Str} {px : Pos} {iter : Expr} {body : List Stmt} (hi : At N i x) (hx : Loc X.env.scope x)
    (h : EvE X B ρ iter fun d => ∃ ds, d = .list ds ∧ LoopD X B ρ body P (fun d ρ C => C (ρ.set i (some (.dat d)))) ds.length fun k y => ds[k]? = some y) (hs : ∀ x, foldedSetIterable iter X.env x = pure x := by intro _; rfl)
    (hf : X.fn x = true ∨ X.env.scope.names.lookup x = some .local := by first | exact .inl rfl | exact .inr rfl | assumption) :
    EvS X B ρ (.For (.Name x px) iter body [] pos) P := es_for S.po S.c (eg_nm S hi hx hf) h hs
/-- a call of a def by its raw promise -/
theorem pe_callG {P0 : Program} {w : World} {K : PySem.W.Frag} {mg : Str → Option Value} {base : Heap} {N : List Str} (S : Same X P0 w K mg base N) {k j : Nat} {f : Addr} {fd : FuncData} {ps : List Str} {sp : Sp} {x : Str} {st : Stmt} {a : Expr} {p cp : Pos} {ta : TA} (F1 : Fun K x x st f fd) (F : Fg P0 w K mg base CX0 k f fd ps sp) (hr : Rm j X.A) (hk : k ≤ j) (hm : mg x = some (.ref f))
    (hb : Binds K fd ps []) (hg : Gl X x) (ha : PA X [a] ta) (hdb : (x == ("__debug__" : Str)) = false := by decide) (he : starEach [a] X.env = (false, eval a X.env) :: starEach [] X.env := by rfl) (hpl : (backTo cp (starEach [] X.env)).any (·.1) = false := by rfl) :
    PE X (.Call (.Name x p) [a] [] cp) (fun σ H Q => ta σ H fun vs H1 => sp vs H1 Q E0) := by
  obtain ⟨e1, e2, e3, e4, e5, _⟩ := S
  subst e1 e2 e3 e4 e5
  refine ⟨fun pins s σ H Q I hq => ?_⟩
  refine wpAny_Call_Name_kw (ld_glob I hg hm ?_ hdb)
  refine PySem.W.callWith_K (h₀ := X.base) I.ok.mod.kin F1.kp (thn (ha.run cp pins s σ H _ I hq) fun us s1 ⟨vs, H1, I1, rv, h1⟩ => ⟨I1.kIn, ?_⟩) he hpl
  refine call_fg (E := E0) F (hr.mono hk) hb .nil pass0 I1 rv ?_
  rw [List.append_nil]
  exact h1
end
end Vw
/-! ### the law's call: as the promises of the guards' kind want it -/
namespace Vw
open PySem PySem.Spec L2
open PyProof.Rows
/-- from a tracked script to the row's claim -/
theorem call_at {Pg : Program} {wd : World} {Kw : PySem.W.Frag} {mG mB : Str → Option Value} {lv : Nat} {fA sA : Addr} {fD : FuncData} {nm : Str} {pr : Sp} {s : Shared} {xs : List Value}
    (kin : Kw.In s.heap) (nsg : s.heap.Ns mainGlobals mG) (nsb : s.heap.Ns builtinsNs mB) (boot : ∀ y : Str, y ≠ "__name__" → mB y = bootBuiltins y) (nol : s.heap.NoLimit) (g0 : s.gens = #[])
    (scr : s.heap.get? sA = some { cls := .type "list", data := .seq xs.toArray }) (room : Rm lv callerA) (G : ∀ b0 : Heap, Fg Pg wd Kw mG b0 CX0 lv fA fD [nm] pr) (bnd : ∀ (s' : Shared) (u : Value), BindsTo s' fD ⟨[u], []⟩ [(nm, u)])
    (H : Hp) (onl : Only H) (hok : HOk Pg wd H s.heap) (only1 : ∀ b, H b ≠ none → b = sA) (fre : H sA ≠ none → Kw.lookup sA = none) (ask : pr [.ref sA] H (fun v _ => v = .bl true) E0) :
    codeAny (model Pg wd) callerA (.call (.ref fA) ⟨[.ref sA], []⟩) (fun r s' => r = .ok (.ret (.bool true)) ∧ OldK s.heap s'.heap ∧ s'.os = s.os ∧ AllBare s'.gens) s := by
  have free : ∀ {b : Addr} {o : Obj}, s.heap.get? b = some o → (∀ o', s.heap.get? b = some o' → b = sA → H sA ≠ none → False) → H b = none := fun {b o} e no => by
    cases q : H b with
    | none => rfl
    | some u =>
      have eb := only1 b (by rw [q]; exact fun z => nomatch z)
      exact (no o e eb (by rw [← eb, q]; exact fun z => nomatch z)).elim
  have dictFree : ∀ {b : Addr} {o : Obj} {es : Array DictEntry} {ep : Nat}, s.heap.get? b = some o → o.data = .dict es ep → H b = none := fun {b o es ep} e d => free e fun o' e' eb _ => by
    rw [eb, scr] at e
    injection e with e
    rw [← e] at d
    cases d
  have keepNs : ∀ {b : Addr} {m : Str → Option Value}, s.heap.Ns b m → (hidT s.heap H).Ns b m := fun h => by
    obtain ⟨o, es, ep, e, d, r⟩ := h
    exact ⟨o, es, ep, hidT_get e (dictFree e d), d, r⟩
  have kin' : Kw.In (hidT s.heap H) := fun b o e => hidT_get (kin b o e) (free (kin b o e) fun _ _ eb nn => by
    rw [eb] at e
    rw [fre nn] at e
    cases e)
  obtain ⟨mc, c1, c2⟩ := nol
  have env : Env0 Pg wd Kw mG (hidT s.heap H) callerA [] s H := by
    refine ⟨rfl, ⟨kin', keepNs nsg, ⟨mB, keepNs nsb, boot⟩, ⟨mc, keepNs c1, c2⟩⟩, fun b o => of_hidT, Nat.le_of_eq (hidT_size _ _), trivial, fun b hb => ?_, hok, .of_eq g0⟩
    exact absurd hb (by simp [frs])
  refine codeAny_mono ((G _).run callerA [] s H _ [.ref sA] [.ref sA] _ _ room env (bnd s (.ref sA)) (.cons rfl .nil) ask) fun r s' post => ?_
  match r, post with
  | .ok (.ret u), ⟨v, H', hos, hbare, un, ok', rv, hv⟩ =>
    have hv' : v = .bl true := hv
    subst hv'
    have hu : u = Value.bool true := rv
    subst hu
    refine ⟨rfl, OldK.of_keep fun b o e => ?_, hos, hbare⟩
    rcases onl b with hb | ⟨ob, ys, hb⟩
    · exact un.keep b o e hb (by simp [frs]) (by simp)
    · have i1 := (hok b _ hb).1
      have i2 := (ok' b _ (un.frzs b ob _ hb)).1
      rw [e] at i1
      injection i1 with i1
      rw [i1]
      exact i2
  | .error e, post => exact (post : False).elim
/-- the row's goal -/
theorem walk_g {l : PySem.W.OpenLaw} {n lv : Nat} {q : Program} {loose : List Str} {XP : (Str → Option Value) → Heap → Prop} {YP : World → Heap → Prop} {d : DefRec} {Kw : Params → PySem.W.Frag} {pr : PySem.W.Frag → Sp} {nm : Str}
    (most : l.most = some n) (line : n ≤ sizeLine) (nod : d.params.defaults = []) (room : Rm lv callerA) (hY : ∀ (w : World) (h : Heap), YP w h → (Kw w.params).In h)
    (mk : ∀ (w : World) (mg : Str → Option Value) (fA : Addr) (h : Heap), (Kw w.params).In h → h.Ns mainGlobals mg → mg d.name = some (.ref fA) →
      ∃ fD : FuncData, (∀ (s : Shared) (u : Value), BindsTo s fD ⟨[u], []⟩ [(nm, u)]) ∧ ∀ b0 : Heap, Fg l.prog w (Kw w.params) mg b0 CX0 lv fA fD [nm] (pr (Kw w.params)))
    (ask : ∀ (K : PySem.W.Frag) (H : Hp) (a : Addr) (is : List Int), is.length ≤ n → SqL K H a (is.map V.int) → pr K [.ref a] H (fun v _ => v = .bl true) E0) :
    PySem.W.WalkO q loose XP YP l.row.toRowW d [] (fun f vs => PySem.call f vs) := by
  refine Att.attach_call most nod fun w s₀ s mg mb fA o pm cd doc a vs is Gr Y ho hd hcd hmg hobj hints hlen hg => ?_
  have kin := hY w _ Y
  obtain ⟨fD, bnd, G⟩ := mk w mg fA _ kin Gr.T.g hmg
  have go := call_at kin Gr.T.g Gr.T.b Gr.T.builtins Gr.T.nolimit hg hobj room G bnd
  have rv := vals_ints hints
  have lv' : vs.length = is.length := hints.length
  cases hk : (Kw w.params).lookup a with
  | some o =>
    have e := kin a o hk
    rw [hobj] at e
    injection e with e
    subst e
    refine go (fun _ => none) (fun _ => .inl rfl) (fun b u z => nomatch (show (none : Option HO) = some u from z)) (fun b z => absurd rfl z) (fun z => absurd rfl z) (ask _ _ a is hlen (.inr ?_))
    refine ⟨_, vs.toArray, _, hk, rfl, rfl, rfl, ?_, by simpa using rv⟩
    rw [List.size_toArray, lv']
    exact Nat.le_trans hlen line
  | none =>
    let fz : HO := .frz { cls := .type "list", data := .seq vs.toArray } (.lst (is.map V.int))
    have at_a : upd (fun _ => none) a fz a = some fz := upd_same
    have off : ∀ {b : Addr}, b ≠ a → upd (fun _ => none) a fz b = none := fun {b} nb => by rw [upd_ne nb]
    refine go (upd (fun _ => none) a fz) (fun b => ?_) (fun b u z => ?_) (fun b z => ?_) (fun _ => hk) (ask _ _ a is hlen (.inl (.inr ⟨_, at_a⟩)))
    · by_cases nb : b = a
      · rw [nb]; exact .inr ⟨_, _, at_a⟩
      · exact .inl (off nb)
    · by_cases nb : b = a
      · rw [nb, at_a] at z
        injection z with z
        subst z nb
        refine ⟨hobj, ?_, vs, _, rv, hobj⟩
        rw [List.length_map]
        exact Nat.le_trans hlen line
      · rw [off nb] at z
        cases z
    · by_cases nb : b = a
      · exact nb
      · exact absurd (off nb) z
end Vw

namespace Vw
open PySem PySem.Spec L2
/-! ### more of expressions -/
section
variable {X : Cx} {B : Bs} {ρ : Rho} {e a b c : Expr} {p pos p1 p2 p3 : Pos} {Φ : PyData → Prop} {P : Po} {P0 : Program} {w : World} {K : PySem.W.Frag} {mg : Str → Option Value} {base : Heap} {N : List Str}
def rLcm : List V → Hp → VK → Prop := fun xs H Q => ∃ i j : Int, xs = [.int i, .int j] ∧ (Lt2 i 9000 ∧ Lt2 j 9000) ∧ Q (.int ((Nat.lcm i.natAbs j.natAbs : Nat) : Int)) H
theorem lg {i : Int} (h : Lt2 i 9000) : i.natAbs.log2 < 9000 := PySem.Flt.log2_lt_of (by decide) h
theorem lcmOne (a : Nat) : Nat.lcm 1 a = a := by simp
theorem cr_lcm : CallR X (.builtin "math.lcm") rLcm := by
  intro pins s σ H xs us Q I r h
  obtain ⟨i, j, rfl, ⟨hi, hj⟩, q⟩ := h
  obtain ⟨t, u, rfl⟩ := Vals.int2 r
  have l1 := lg hi
  have l2 := lg hj
  have e1 : ∀ m n : Nat, m.log2 < 9000 → n.log2 < 9000 → ¬ (max m n).log2 / 30 + 1 > 450 := fun m n h1 h2 => by
    rcases Nat.le_total m n with h | h
    · rw [Nat.max_eq_right h]; omega
    · rw [Nat.max_eq_left h]; omega
  have sz : ((((Nat.lcm 1 i.natAbs).lcm j.natAbs : Nat) : Int)).natAbs.log2 < bitsLine := by
    rw [lcmOne, Int.natAbs_natCast]
    have h1 : Nat.lcm i.natAbs j.natAbs < 2 ^ 18000 := by
      refine Nat.lt_of_le_of_lt (show Nat.lcm i.natAbs j.natAbs ≤ i.natAbs * j.natAbs from ?_) ?_
      · unfold Nat.lcm; exact Nat.div_le_self _ _
      · exact mul_lt2 (a := 9000) (b := 9000) hi hj |> fun h => by rw [Int.natAbs_mul] at h; exact h
    have := PySem.Flt.log2_lt_of (n := Nat.lcm i.natAbs j.natAbs) (show 0 < 18000 by decide) h1
    exact Nat.lt_trans this (show 18000 < bitsLine by unfold bitsLine; omega)
  refine call_function_meets PySem.W.MGF.kind_lcm PySem.W.MGF.plain_lcm PySem.W.MGF.entry_lcm (PySem.W.MGF.args_lcm _ _) (PySem.W.mg_run_lcm i t j u (e1 _ _ (by decide) l1) (e1 _ _ l1 l2) sz).meets ?_
  rw [lcmOne]
  exact ⟨.int _, H, I.tok _, ⟨_, rfl⟩, q⟩
theorem cd_lcm {i j : Int} (hi : Lt2 i 9000) (hj : Lt2 j 9000) (h : Φ (.int (Nat.lcm i.natAbs j.natAbs : Nat))) : CallD B ρ rLcm [.dat (.int i), .dat (.int j)] Φ := fun σ H vs Q E hs k => by
  obtain ⟨v, u, rfl, h1, h2⟩ := sl2 hs
  rw [sdi h1, sdi h2]
  exact ⟨i, j, rfl, ⟨hi, hj⟩, k _ H _ Ext.refl E (Dn.int.mpr rfl) h⟩
theorem ev_lcm (S : Same X P0 w K mg base N) (hm : mg "lcm" = some (.builtin "math.lcm")) (hg : Gl X "lcm") (h : EvE X B ρ a fun x => EvE X B ρ b fun y => ∃ i j : Int, x = .int i ∧ y = .int j ∧ Lt2 i 9000 ∧ Lt2 j 9000 ∧ Φ (.int (Nat.lcm i.natAbs j.natAbs : Nat)))
    (he : starEach [a, b] X.env = (false, eval a X.env) :: starEach [b] X.env := by rfl) (he2 : starEach [b] X.env = (false, eval b X.env) :: starEach [] X.env := by rfl) (hpl : (backTo pos (starEach [b] X.env)).any (·.1) = false := by rfl) : EvE X B ρ (.Call (.Name "lcm" p) [a, b] [] pos) Φ :=
  ev_callBf cr_lcm hg (by rw [S.m]; exact hm) (ea_cons (ev_mono h fun d h1 => ea_cons (ev_mono h1 fun f ⟨i, j, e1, e2, l1, l2, h2⟩ => by subst e1 e2; exact ea_nil (cd_lcm l1 l2 h2)) he2) he) (by decide) he hpl
/-- t + u of tuples -/
theorem od_catT {ds es : List PyData} (hl : ds.length + es.length ≤ sizeLine) (h : Φ (.tuple (ds ++ es))) : OpD B ρ (rCatA X.K) (.tuple ds) (.tuple es) Φ := fun σ H v u Q E d1 d2 k => by
  obtain ⟨p, xs, rfl, hp, np, r1⟩ := Dn.tuple.mp d1
  obtain ⟨q, ys, rfl, hq, nq, r2⟩ := Dn.tuple.mp d2
  refine ⟨p, q, xs, ys, rfl, rfl, SqT.of hp, SqT.of hq, by rw [← r1.length, ← r2.length]; exact hl, fun e => ?_, fun _ e => ?_, fun _ _ l hl => ?_⟩
  · subst e
    have : ds = [] := List.length_eq_zero_iff.mp (by rw [r1.length]; rfl)
    subst this
    exact k _ H _ Ext.refl E d2 h
  · subst e
    have : es = [] := List.length_eq_zero_iff.mp (by rw [r2.length]; rfl)
    subst this
    exact k _ H _ Ext.refl E d1 (by simpa using h)
  · exact k _ _ _ (Ext.new hl) (E.new hl) (Dn.tuple.mpr ⟨l, _, rfl, upd_same, E.nx hl, E.dnAll (Ext.new hl) (r1.append r2)⟩) h
theorem ev_catT (h : EvE X B ρ a fun x => EvE X B ρ b fun y => ∃ ds es, x = .tuple ds ∧ y = .tuple es ∧ ds.length + es.length ≤ sizeLine ∧ Φ (.tuple (ds ++ es))) : EvE X B ρ (.BinOp a .Add b pos) Φ :=
  ev_op op_catA (ev_mono h fun x h1 => ev_mono h1 fun y ⟨ds, es, e1, e2, hl, h2⟩ => by subst e1 e2; exact od_catT hl h2)
/-- t[lo:hi], all of it too -/
theorem ev_cutT {lo hi : Option Expr} (h : EvE X B ρ e fun d => EvO X B ρ lo fun l => EvO X B ρ hi fun u => ∃ ds, d = .tuple ds ∧ Φ (.tuple (cutD ds l u))) : EvE X B ρ (.Subscript e (.Slice lo hi none p2) pos) Φ :=
  pe_imp (pe_slice sl_tupA h po_s po_s) fun σ H Q ⟨E, k⟩ => ⟨E, fun v H1 d x1 E1 hd h1 => ⟨_, h1, E1, fun l H2 x2 E2 h2 => ⟨_, h2, E2, fun u H3 x3 E3 ⟨ds, ed, hΦ⟩ => by
    subst ed
    have hd3 := E2.dn x3 (E1.dn x2 hd)
    obtain ⟨q, xs, rfl, ha, na, r⟩ := Dn.tuple.mp hd3
    refine ⟨q, xs, rfl, SqT.of ha, fun hw => ?_, fun _ l hl => ?_⟩
    · have e : cutD ds l u = ds := by
        unfold cutD
        rw [r.length, hw.1, hw.2, List.drop_zero, Nat.sub_zero]
        exact List.take_of_length_le (by rw [r.length]; exact Nat.le_refl _)
      rw [e] at hΦ
      exact k _ _ _ (x1.trans (x2.trans x3)) E3 (Dn.tuple.mpr ⟨q, xs, rfl, ha, na, r⟩) hΦ
    · refine k _ _ (.tuple (cutD ds _ u)) ((x1.trans (x2.trans x3)).trans (Ext.new hl)) (E3.new hl) (Dn.tuple.mpr ⟨l, _, rfl, upd_same, E3.nx hl, ?_⟩) hΦ
      unfold cutD cutV
      rw [r.length]
      exact E3.dnAll (Ext.new hl) ((r.drop _).take _)⟩⟩⟩
theorem DnAll.rev {ex : Addr → Prop} {H : Hp} : ∀ {ds : List PyData} {vs : List V}, DnAll ex H ds vs → DnAll ex H ds.reverse vs.reverse
  | [], vs, h => by rw [DnAll.nil.mp h]; exact DnAll.nil.mpr rfl
  | d :: ds, vs, h => by
    obtain ⟨v, r, rfl, h1, h2⟩ := DnAll.cons.mp h
    rw [List.reverse_cons, List.reverse_cons]
    exact (DnAll.rev h2).append (DnAll.cons.mpr ⟨v, [], rfl, h1, DnAll.nil.mpr rfl⟩)
/-- xs[::-1] -/
theorem ev_back {k1 : Nat} (h : EvE X B ρ e fun d => ∃ ds, d = .list ds ∧ Φ (.list ds.reverse)) : EvE X B ρ (.Subscript e (.Slice none none (some (.UnaryOp .USub (.Constant (.int 1) k1 p1) p2)) p3) pos) Φ :=
  pe_imp (pe_revL h) fun σ H Q ⟨E, k⟩ => ⟨E, fun v H1 d x1 E1 hd ⟨ds, ed, hΦ⟩ => by
    subst ed
    obtain ⟨q, xs, rfl, ha, na, r⟩ := Dn.list.mp hd
    exact ⟨q, xs, rfl, SqL.of ha, fun l hl => k _ _ (.list ds.reverse) (x1.trans (Ext.new hl)) (E1.new hl) (Dn.list.mpr ⟨l, _, rfl, upd_same, E1.nx hl, E1.dnAll (Ext.new hl) r.rev⟩) hΦ⟩⟩
theorem DnAll.rep {ex : Addr → Prop} {H : Hp} {ds : List PyData} {vs : List V} (h : DnAll ex H ds vs) : ∀ n : Nat, DnAll ex H (List.replicate n ds).flatten (List.replicate n vs).flatten
  | 0 => DnAll.nil.mpr rfl
  | n + 1 => by
    rw [List.replicate_succ, List.replicate_succ, List.flatten_cons, List.flatten_cons]
    exact h.append (DnAll.rep h n)
/-- xs * n, as a fresh list -/
theorem ef_rep {Ξ : List PyData → Prop} (h : EvE X B ρ a fun x => EvE X B ρ b fun y => ∃ ds n, x = .list ds ∧ y = .int n ∧ n < 2 ^ 20 ∧ -(2 ^ 20) < n ∧ ds.length * n.toNat ≤ sizeLine ∧ Ξ (List.replicate n.toNat ds).flatten) : EvF X B ρ (.BinOp a .Mult b pos) Ξ :=
  pe_imp (pe_op op_rep h pe_s) fun σ H Q ⟨E, k⟩ => ⟨E, fun v H1 x e1 E1 d1 hb => ⟨_, hb, E1, fun u H2 y e2 E2 d2 ⟨ds, n, ex, ey, l1, l2, hl, hΞ⟩ => by
    subst ex ey
    have d1' := E1.dn e2 d1
    obtain ⟨q, xs, rfl, hp, np, r1⟩ := Dn.list.mp d1'
    refine ⟨q, n, xs, rfl, Dn.int.mp d2, hp, by omega, by omega, by rw [← r1.length]; exact hl, fun l hl => ?_⟩
    refine k l _ _ _ ((e1.trans e2).trans (Ext.new hl)) ((e1.trans e2).none E2.ok hl) (E2.ok.new hl) (E2.add hl) upd_same (E2.nx hl) ?_ hΞ
    exact (DnAll.mono (exAdd hl) (fun z o e _ => by rw [upd_ne (ne_of_none e hl)]; exact e) _ _ r1).rep _⟩⟩
/-- xs * n -/
theorem ev_rep (h : EvE X B ρ a fun x => EvE X B ρ b fun y => ∃ ds n, x = .list ds ∧ y = .int n ∧ n < 2 ^ 20 ∧ -(2 ^ 20) < n ∧ ds.length * n.toNat ≤ sizeLine ∧ Φ (.list (List.replicate n.toNat ds).flatten)) : EvE X B ρ (.BinOp a .Mult b pos) Φ :=
  ev_of_f (ef_rep h) fun ds h => h
/-! ### op= -/
theorem iop_mulW : OpR X (inplaceOp .Mult) (rI CMulW fun i j => .int (i * j)) := opI fun _ _ _ _ _ _ _ hc q => PyProof.Rows.imul_int q hc.ok
/-- name op= e, ints -/
theorem es_aug {i : Nat} {x : Str} {op : Operator} {r : R2} {pos' : Pos} (S : Same X P0 w K mg base N) (hop : OpR X (inplaceOp op) r) (ha : At N i x) (hx : Loc X.env.scope x) {d0 : PyData} (hr : ρ[i]? = some (some (.dat d0)))
    (h : EvE X B ρ e fun d => OpD B ρ r d0 d fun d2 => P.nx (ρ.set i (some (.dat d2)))) (hf : X.fn x = true ∨ X.env.scope.names.lookup x = some .local := by first | exact .inl rfl | exact .inr rfl | assumption) : EvS X B ρ (.AugAssign (.Name x pos') op e pos) P := by
  have hN : X.N[i]? = some x := by rw [S.n]; exact ha.get
  refine ps_imp (ps_aug (i := i) S.nd hN hx h (ti := r) (fun pins s σ H x y v u Q I rx ry q => hop pins s σ H x y v u Q I rx ry q) hf) fun D σ H q => ?_
  obtain ⟨v, e1, hv⟩ := q.1.sl i _ hr
  refine ⟨v, e1, q.1, fun y H1 d x1 E1 dd ho => ?_⟩
  refine ho σ H1 v y _ E1 (E1.dn Ext.refl (q.1.dn x1 hv)) dd fun z H2 d2 x2 E2 dz hn => ?_
  exact q.2.1 _ _ H2 (((XS.of_ext x1).trans E1.ok (XS.of_ext x2)).trans E2.ok (XS.set fun ds => by intro z; cases z)) (E2.set (s := .dat d2) (fun ds => by intro z; cases z) dz) hn
theorem get_list : PGet X (fun o i H Q => ∃ p xs k j v, o = .ref p ∧ i = .int k ∧ H p = some (.lst xs) ∧ 0 ≤ k ∧ j = k.toNat ∧ xs[j]? = some v ∧ Q v H) := by
  intro pins s σ H o i ov iv Q I ro ri h
  obtain ⟨p, xs, k, j, v, rfl, rfl, hp, h0, rfl, hv, q⟩ := h
  cases ro
  obtain ⟨t, rfl⟩ := ri
  obtain ⟨its, r, pl, hz⟩ := I.list (SqL.of hp)
  obtain ⟨u, eu, ru⟩ := r.get hv
  have hl := r.length
  have hk : k.toNat < xs.length := (List.getElem?_eq_some_iff.mp hv).1
  have h63 : sizeLine < 2 ^ 62 := by decide
  exact wpAny_getItem_list (x := u) pl.isList h0 (by omega) (by simpa using eu) ⟨v, H, I, ru, q⟩
end
end Vw

namespace Vw
open PySem PySem.Spec L2
/-! ### data without lists -/
mutual
def noLst : PyData → Bool
  | .list _ => false
  | .dict _ => false
  | .tuple ds => noLstAll ds
  | .none => true
  | .bool _ => true
  | .int _ => true
  | .str _ => true
def noLstAll : List PyData → Bool
  | [] => true
  | d :: r => noLst d && noLstAll r
end
mutual
theorem Dn.thaw {ex ex' : Addr → Prop} {H : Hp} (hx : ∀ x, ex' x → ex x ∨ ∃ vs, H x = some (.lst vs)) : ∀ (d : PyData) (v : V), noLst d = true → Dn ex H d v → Dn ex' H d v
  | .none, v, _, h => Dn.none.mpr (Dn.none.mp h)
  | .bool _, v, _, h => Dn.bool.mpr (Dn.bool.mp h)
  | .int _, v, _, h => Dn.int.mpr (Dn.int.mp h)
  | .str _, v, _, h => Dn.str.mpr (Dn.str.mp h)
  | .list _, v, n, h => by unfold noLst at n; cases n
  | .dict _, v, n, h => by unfold noLst at n; cases n
  | .tuple ds, v, n, h => by
    unfold noLst at n
    obtain ⟨a, xs, rfl, ha, na, r⟩ := Dn.tuple.mp h
    refine Dn.tuple.mpr ⟨a, xs, rfl, ha, fun z => ?_, DnAll.thaw hx ds xs n r⟩
    rcases hx a z with z | ⟨vs, z⟩
    · exact na z
    · rw [ha] at z; cases z
theorem DnAll.thaw {ex ex' : Addr → Prop} {H : Hp} (hx : ∀ x, ex' x → ex x ∨ ∃ vs, H x = some (.lst vs)) : ∀ (ds : List PyData) (vs : List V), noLstAll ds = true → DnAll ex H ds vs → DnAll ex' H ds vs
  | [], vs, _, h => DnAll.nil.mpr (DnAll.nil.mp h)
  | d :: ds, vs, n, h => by
    unfold noLstAll at n
    obtain ⟨n1, n2⟩ := Bool.and_eq_true_iff.mp n
    obtain ⟨v, r, rfl, h1, h2⟩ := DnAll.cons.mp h
    exact DnAll.cons.mpr ⟨v, r, rfl, Dn.thaw hx d v n1 h1, DnAll.thaw hx ds r n2 h2⟩
end
theorem En.thaw {B : Bs} {ρ : Rho} {σ : L2.St} {H : Hp} (E : En B ρ σ H) {ρ' : Rho} {d : PyData} {v : V} (n : noLst d = true) (h : Dn (exO B ρ' σ) H d v) : Dn (exO B ρ σ) H d v :=
  Dn.thaw (fun x z => by
    rcases z with z | z
    · exact .inl (.inl z)
    · obtain ⟨_, vs, e, _⟩ := E.ownLive z
      exact .inr ⟨vs, e⟩) d v n h
section
variable {X : Cx} {B : Bs} {ρ : Rho} {e a b c : Expr} {p pos pos' p1 p2 p3 : Pos} {Φ : PyData → Prop} {P : Po} {P0 : Program} {w : World} {K : PySem.W.Frag} {mg : Str → Option Value} {base : Heap} {N : List Str} {body : List Stmt}
/-- x.append(e), e read while x stands still; it tells data without lists -/
theorem es_appendN (S : Same X P0 w K mg base N) {i : Nat} {x : Str} {ds : List PyData} (hN : At N i x) (hr : ρ[i]? = some (some (.own ds))) (hv : Vis X.env.scope x)
    (h : EvE X B (ρ.set i (some (.dat (.list ds)))) e fun d => noLst d = true ∧ ds.length < sizeLine ∧ P.nx (ρ.set i (some (.own (ds ++ [d]))))) (hd : (x == ("__debug__" : Str)) = false := by decide) (hcd : (x == ("__classdict__" : Str)) = false := by decide)
    (hbase : attributeBase (.Name x p1) "append" X.env (eval (.Name x p1) X.env) = eval (.Name x p1) X.env := by rfl)
    (hfew : ((backTo p3 (starEach [e] X.env)).all (fun x => !x.1) && (backToKw p3 (keywordEach [] X.env)).all (fun x => x.1.isSome)
      && decide ([e].length + ([] : List Keyword).length + (if ([] : List Keyword).isEmpty then 0 else 1) < 30)) = true := by rfl)
    (hline : (p2.endLine == p3.line) = true := by rfl) (hs : starEach [e] X.env = (false, eval e X.env) :: starEach [] X.env := by rfl)
    (hsw : swapsWith (.Call (.Attribute (.Name x p1) "append" p2) [e] [] p3) none pos.line X.env = pure false := by rfl) :
    EvS X B ρ (.Expr (.Call (.Attribute (.Name x p1) "append" p2) [e] [] p3) pos) P := by
  refine ps_imp (ps_expr (pe_bm PySem.F.plainAttrs_list PySem.F.slot_list_append PySem.F.type_list_append mt_append (pe_var (by rw [S.n]; exact hN.get) hv hd hcd) (pa_cons h pa_nil hs) hbase hfew hline hs rfl) hsw) fun D σ H q => ?_
  obtain ⟨v, e1, p, vs, rfl, hp, np, hds⟩ := q.1.sl i _ hr
  refine ⟨_, e1, .inl ⟨rfl, _, SqL.of hp⟩, q.1.freeze hr, fun w H1 d x1 E1 dd ⟨nl, hl, hn⟩ => ?_⟩
  have hp1 : H1 p = some (.lst vs) := x1 p _ hp fun z => np (q.1.ok.sx z)
  have E1' : En B ρ σ H1 := q.1.ext x1 E1.ok
  obtain ⟨E2, x2⟩ := E1'.putOwn (es := ds ++ [d]) (vs := vs ++ [w]) hr e1 ((q.1.dnAll x1 hds).append (DnAll.cons.mpr ⟨w, [], rfl, E1'.thaw nl dd, DnAll.nil.mpr rfl⟩))
  exact ⟨p, vs, w, rfl, rfl, hp1, by rw [← hds.length]; exact hl, q.2.1 _ _ _ ((XS.of_ext x1).trans E1'.ok (XS.put hr x2)) E2 hn⟩
/-- x[b] op= e at an own list of ints, e read while x stands still -/
theorem es_augI (S : Same X P0 w K mg base N) {op : Operator} {r : R2} (hop : OpR X (inplaceOp op) r) {i : Nat} {x : Str} {ds : List PyData} (hN : At N i x) (hr : ρ[i]? = some (some (.own ds))) (hv : Vis X.env.scope x)
    (h : EvE X B (ρ.set i (some (.dat (.list ds)))) b fun y => ∃ k d0, y = .int k ∧ 0 ≤ k ∧ ds[k.toNat]? = some d0 ∧ EvE X B (ρ.set i (some (.dat (.list ds)))) e fun d => OpD B (ρ.set i (some (.dat (.list ds)))) r d0 d fun d2 => noLst d2 = true ∧ P.nx (ρ.set i (some (.own (ds.set k.toNat d2)))))
    (hd : (x == ("__debug__" : Str)) = false := by decide) (hcd : (x == ("__classdict__" : Str)) = false := by decide)
    (ha : ∀ ov iv new, augStore b ov iv new = (do holding [new, ov, iv] (setItem ov iv new); release [new, ov, iv] []; pure .next) := by intros; rfl) :
    EvS X B ρ (.AugAssign (.Subscript (.Name x p1) b p2) op e pos) P := by
  refine ps_imp (ps_augS (pe_var (by rw [S.n]; exact hN.get) hv hd hcd) h get_list (pe_s (e := e)) (tip := r) (fun pins s σ H x y v u Q I rx ry q => hop pins s σ H x y v u Q I rx ry q) set_list ha) fun D σ H q => ?_
  obtain ⟨v, e1, p, vs, rfl, hp, np, hds⟩ := q.1.sl i _ hr
  refine ⟨_, e1, q.1.freeze hr, fun y H1 d x1 E1 dd ⟨k, d0, ed, k0, hk, he⟩ => ?_⟩
  subst ed
  have hp1 : H1 p = some (.lst vs) := x1 p _ hp fun z => np (q.1.ok.sx z)
  have E1' : En B ρ σ H1 := q.1.ext x1 E1.ok
  have hds1 := q.1.dnAll x1 hds
  obtain ⟨v0, hv0, dv0⟩ := hds1.get hk
  have lt : k.toNat < vs.length := (List.getElem?_eq_some_iff.mp hv0).1
  refine ⟨p, vs, k, k.toNat, v0, rfl, Dn.int.mp dd, hp1, k0, rfl, hv0, _, he, E1, fun y2 H2 d2 x2 E2 dd2 ho => ?_⟩
  have dv0' : Dn (exO B (ρ.set i (some (.dat (.list ds)))) σ) H2 d0 v0 := by
    refine E1.dn x2 (Dn.mono (fun y z => .inl (z.imp id fun z => ?_)) (fun _ _ e _ => e) d0 v0 dv0)
    exact own_set (i := i) (s := some (.dat (.list ds))) (v := some (.ref p)) (fun ds z => by cases z) (by
      have : σ.set i (some (.ref p)) = σ := List.ext_getElem? fun j => by
        by_cases hj : i = j
        · subst hj
          rw [List.getElem?_set_self ((List.getElem?_eq_some_iff.mp e1).1), e1]
        · rw [List.getElem?_set_ne hj]
      rw [this]; exact z)
  refine ho σ H2 v0 y2 _ E2 dv0' dd2 fun z H3 d3 x3 E3 dz ⟨nl, hn⟩ => ?_
  have x13 := x2.trans x3
  have hp3 : H3 p = some (.lst vs) := x13 p _ hp1 fun z => np (q.1.ok.sx z)
  have E3' : En B ρ σ H3 := E1'.ext x13 E3.ok
  obtain ⟨E4, x4⟩ := E3'.putOwn (es := ds.set k.toNat d3) (vs := vs.set k.toNat z) hr e1 ((E1'.dnAll x13 hds1).set k.toNat (E3'.thaw nl dz))
  refine ⟨p, vs, k, k.toNat, rfl, Dn.int.mp dd, hp3, ?_, q.2.1 _ _ _ ((XS.of_ext (x1.trans x13)).trans E3'.ok (XS.put hr x4)) E4 hn⟩
  unfold ixN
  rw [if_pos k0, if_pos (by omega)]
/-- for .. in range(a, b, c) -/
theorem es_range3 {tg : Expr} {T : PyData → Rho → (Rho → Prop) → Prop} (hp : PassesOwn (model X.prog X.w) X.A X.env X.xe) (hc : X.calm = true) (hgl : Gl X "range") (hm : X.mg "range" = none) (hg : EvG X B tg T)
    (h : EvE X B ρ a fun d => EvE X B ρ b fun d2 => EvE X B ρ c fun d3 => ∃ (i j k : Int) (n : Nat), d = .int i ∧ d2 = .int j ∧ d3 = .int k ∧ RgC i j k n ∧ LoopD X B ρ body P T n fun m y => y = .int (i + (m : Nat) * k))
    (h3 : starEach [a, b, c] X.env = (false, eval a X.env) :: starEach [b, c] X.env := by rfl) (h2 : starEach [b, c] X.env = (false, eval b X.env) :: starEach [c] X.env := by rfl) (h1 : starEach [c] X.env = (false, eval c X.env) :: starEach [] X.env := by rfl)
    (hpl : (backTo pos (starEach [b, c] X.env)).any (·.1) = false := by rfl)
    (hs : ∀ x, foldedSetIterable (.Call (.Name "range" p) [a, b, c] [] pos) X.env x = pure x := by intro _; rfl) : EvS X B ρ (.For tg (.Call (.Name "range" p) [a, b, c] [] pos) body [] pos') P := by
  obtain ⟨g, p1, q1⟩ := hg
  refine ps_imp (ps_for hp hc (pi_range3 hgl hm (pa_cons h (pa_cons pe_s (pa_cons pe_s pa_nil h1) h2) h3) h3 hpl) p1 (pss_s (st := body)) hs) fun D σ H q => ⟨q.1, fun v H1 d x1 E1 hd hb => ⟨_, hb, E1, fun v2 H2 d2 x2 E2 hd2 hc => ⟨_, hc, E2, fun v3 H3 d3 x3 E3 hd3 ⟨i, j, k, n, ed, ed2, ed3, rg, W, w0, wt, wd⟩ => ?_⟩⟩⟩
  subst ed ed2 ed3
  refine ⟨i, j, k, n, by rw [Dn.int.mp hd, Dn.int.mp hd2, Dn.int.mp hd3], rg, for_rangeC (lo := i) (c := k) (n := n) (fun m σ' H' => ∃ ρ', En B ρ' σ' H' ∧ XS B ρ σ H3 ρ' σ' H' ∧ W m ρ') ⟨ρ, E3, XS.of_ext Ext.refl, w0⟩ ?_ ?_⟩
  · rintro m σ' H' hi ⟨ρ', E', x', w'⟩
    exact turn_of (tg := tg) q1 (tS_ext q (x1.trans (x2.trans x3)) E3) x' E' (Dn.int.mpr rfl) (wt m _ ρ' hi rfl w') (H1 := H')
  · rintro σ' H' ⟨ρ', E', x', w'⟩
    exact q.2.1 ρ' σ' H' ((XS.of_ext (x1.trans (x2.trans x3))).trans E3.ok x') E' (wd ρ' w')
end
end Vw

namespace Vw
open PySem PySem.Spec L2
/-! ### comprehensions over any iterator that lays new pairs -/
section
variable {X : Cx} {scope : Scope} {B : Bs} {ρ : Rho} {σ : L2.St} {H1 : Hp} {D : Addr} {vs : List Nat} {elt : Expr} {T : PyData → Rho → (Rho → Prop) → Prop} {n : Nat} {at_ : Nat → PyData → Prop} {Ξ : List PyData → Prop}
theorem CompP.new {J : Nat → List PyData → Prop} {i : Nat} {H : Hp} {q : Addr} {o : HO} (h : CompP B ρ σ H1 D J i H) (hq : H q = none) : CompP B ρ σ H1 D J i (upd H q o) := by
  obtain ⟨acc, avs, hl, ha, hj, E, x, ok⟩ := h
  exact ⟨acc, avs, by rw [upd_ne (ne_of_none hl hq)]; exact hl, E.dnAll (Ext.new hq) ha, hj, E.new hq, x.trans (Ext.new hq), ok.new hq⟩
theorem CompP.dn {J : Nat → List PyData → Prop} {i : Nat} {H : Hp} (E1 : En B ρ σ H1) (hD : H1 D = none) (h : CompP B ρ σ H1 D J i H) {d : PyData} {v : V} (hd : Dn (exO B ρ σ) H1 d v) : Dn (exO (B.add D) ρ σ) H d v := by
  obtain ⟨acc, avs, hl, ha, hj, E, x, ok⟩ := h
  exact Dn.mono (fun z h => exAdd hD z h) (fun z o e n => x z o e fun h => n (.inl (E1.ok.sx h))) d v hd
theorem CompP.lst {J : Nat → List PyData → Prop} {i : Nat} {H : Hp} (E1 : En B ρ σ H1) (h : CompP B ρ σ H1 D J i H) {a : Addr} {o : HO} (ha : H1 a = some o) (na : ¬ exO B ρ σ a) : H a = some o := by
  obtain ⟨acc, avs, hl, _, hj, E, x, ok⟩ := h
  exact x a _ ha fun z => na (.inl (E1.ok.sx z))
theorem comp_gen {Jt : It} {J : Nat → List PyData → Prop} {g : TG} {H : Hp} {Q : VK} (E1 : En B ρ σ H1) (hD : H1 D = none) (x1 : Ext B H H1)
    (k : ∀ p H' ds vs, Ext B H H' → H p = none → B.Ok H' → En (B.add p) ρ σ H' → H' p = some (.lst vs) → ¬ exO B ρ σ p → DnAll (exO (B.add p) ρ σ) H' ds vs → Ξ ds → Q (.ref p) H')
    (q1 : ∀ B d ρ C v σ H Q, T d ρ C → En B ρ σ H → Dn (exO B ρ σ) H d v → (∀ ρ' σ', En B ρ' σ' H → wipe σ' vs = wipe σ vs → C ρ' → Q σ' H) → g v σ H Q)
    (j0 : J 0 []) (jd : ∀ acc, J n acc → Ξ acc)
    (jt : ∀ i d acc (B' : Bs), B'.src = B.src → i < n → at_ i d → J i acc → T d (blkR ρ vs) fun ρ2 => ∀ (s : Shared) (H : Hp) (C : Addr) (cl : List (Str × Addr)) (fp : List Addr), EvE (X.blk s H scope (compEnvC scope cl C X.env) fp) B' ρ2 elt fun y => acc.length < sizeLine ∧ J (i + 1) (acc ++ [y]))
    (go : ∀ i H, i < n → CompP B ρ σ H1 D J i H → Jt.go i H) (st : ∀ H, CompP B ρ σ H1 D J n H → Jt.stop n H)
    (yl : ∀ i H x H', i < n → CompP B ρ σ H1 D J i H → Jt.yld i H x H' → ∃ d, at_ i d ∧ CompP B ρ σ H1 D J i H' ∧ Dn (exO (B.add D) ρ σ) H' d x) :
    ∃ W : Nat → Nat → Hp → Prop, (∃ m, W 0 m (upd H1 D (.lst []))) ∧ ∀ i m H, W i m H →
      (Jt.stop i H ∧ Q (.ref D) H) ∨ (Jt.go i H ∧ ∃ Nx : Hp → Prop, (∀ H', Nx H' → ∃ m', m' < m ∧ W (i + 1) m' H') ∧ ∀ x H', Jt.yld i H x H' → g x (wipe σ vs) H' fun σ2 H2 => wipe σ2 vs = wipe σ vs ∧ tYes σ2 H2 fun b H3 =>
        if b = true then sEc X scope elt σ2 H3 fun y H4 => ∃ acc, H4 D = some (.lst acc) ∧ acc.length < sizeLine ∧ Nx (upd H4 D (.lst (acc ++ [y]))) else Nx H3) := by
  refine ⟨fun i m H => m = n - i ∧ i ≤ n ∧ CompP B ρ σ H1 D J i H, ⟨n, by simp, Nat.zero_le _, comp_start E1 hD j0⟩, ?_⟩
  rintro i m H' ⟨rfl, hi, p⟩
  by_cases hlt : i < n
  · refine .inr ⟨go i H' hlt p, CompP B ρ σ H1 D J (i + 1), fun H' p' => ⟨n - (i + 1), by omega, rfl, hlt, p'⟩, fun x H2 y => ?_⟩
    obtain ⟨d, had, p2, hd⟩ := yl i H' x H2 hlt p y
    exact comp_turn E1 hD q1 (fun acc B' hB hj => jt i d acc B' hB hlt had hj) p2 hd
  · have e : i = n := by omega
    subst e
    exact .inl ⟨st H' p, comp_end k E1 hD x1 jd p⟩
end
/-! ### enumerate of a tuple -/
def IteT (K : PySem.W.Frag) (a : Addr) : It :=
  ⟨fun i H => ∃ (xs : List V) (x : V), SqT K H a xs ∧ xs[i]? = some x, fun i H v H' => ∃ q x, v = .ref q ∧ H q = none ∧ H' = upd H q (.tup [.int (i : Nat), x]) ∧ ∀ xs, SqT K H a xs → xs[i]? = some x, fun i H => ∃ xs : List V, SqT K H a xs ∧ xs.length ≤ i⟩
theorem turn_enumT {P : Program} {w : World} {K : PySem.W.Frag} {elts : List Expr} {kk : Nat} {tpos : Pos} (a e it : Addr) :
    Turn P w K (.Tuple elts kk tpos) (IteT K a) [e, it] e (fun i h => (∃ old, IsEnum h e it ((i : Nat) : Int) old) ∧ h.IsTupleIter it a i ∧ e ≠ it ∧ a ≠ it ∧ e ≠ a) where
  mem := List.mem_cons_self
  obj := fun i h st b hb => by
    obtain ⟨⟨old, he⟩, ⟨o, ho, hc, hd⟩, _⟩ := st
    rcases List.mem_cons.mp hb with rfl | hb
    · exact ⟨_, he, fun v q => nomatch q⟩
    · have hb := List.mem_singleton.mp hb
      subst hb
      exact ⟨o, ho, fun v q => by rw [hd] at q; cases q⟩
  keep := fun i h h' st k => let ⟨⟨old, he⟩, hi, hne⟩ := st; ⟨⟨old, k e List.mem_cons_self _ he⟩, hi.at fun o q => k it (List.mem_cons_of_mem _ List.mem_cons_self) o q, hne⟩
  item := by
    intro X hP hw hK hc i pins s σ H E I hf st hg
    subst hP hw hK
    obtain ⟨⟨old, he⟩, hit, hne, nai, nea⟩ := st
    obtain ⟨xs, x, hq, hx⟩ := hg
    obtain ⟨its, rv, p, hz⟩ := I.tuple hq
    obtain ⟨u, hu, ru⟩ := rv.get hx
    have hel : e < s.heap.objs.size := Heap.lt_size he
    have hil : it < s.heap.objs.size := by obtain ⟨_, q, _⟩ := hit; exact Heap.lt_size q
    have hi : i < its.length := (List.getElem?_eq_some_iff.mp hu).1
    have Dr := Draws.tuple (prog := X.prog) (w := X.w) (A := X.A.in1) (I.ok.hd hc) it a nai its.toArray
    refine wpAny_pyNext_enum_itemD Dr he ⟨hit, p⟩ (by rw [List.size_toArray]; exact hi) hne (by simp [hne, nea]) fun u2 h' tk hu2 ho hst hT hsz hk => ?_
    have eu : u2 = u := by
      have hu2' : its.toArray[i]? = some u2 := hu2
      have : its[i]? = some u2 := by simpa using hu2'
      rw [hu] at this
      exact (Option.some.inj this).symm
    subst eu
    refine ⟨_, rfl, wpAny_letOwnedTupleGo_enum (s := { s with heap := h', toks := tk + 1 }) ho fun h'' he' sb => ?_⟩
    have hT2 : h''.get? s.heap.objs.size = some { cls := .type "tuple", data := .seq #[.int i tk, u2] } := (sb.2 _ (Nat.ne_of_gt hel)).trans hT
    have nw : ObjOk X.prog X.w (upd H s.heap.objs.size (.tup [.int (i : Nat), x])) h'' s.heap.objs.size (.tup [.int (i : Nat), x]) :=
      ⟨show 2 ≤ sizeLine by decide, [.int i tk, u2], .cons ⟨_, rfl⟩ (.cons ru .nil), ⟨_, hT2, rfl, _, rfl⟩⟩
    have I1 : Inv X pins σ (upd H s.heap.objs.size (.tup [.int (i : Nat), x])) { s with heap := h'', toks := tk + 1 } :=
      I.turnedNew (ch := [e, it]) (fun b ob hb q => (sb.2 b (fun z => hb (by simp [z]))).trans (hk b ob (fun z => hb (by simp [z])) (fun z => hb (by simp [z])) q)) hf (Nat.le_refl _) nw
    refine ⟨.ref s.heap.objs.size, _, I1, rfl, ⟨_, x, rfl, I.hok.fresh (Nat.le_refl _), rfl, fun ys hy => by rw [I.tuple_inj hy hq]; exact hx⟩, ⟨⟨u2, ?_⟩, hst.1.at fun o q => (sb.2 it (Ne.symm hne)).trans q, hne, nai, nea⟩, fun b hb => ?_⟩
    · rw [show ((i + 1 : Nat) : Int) = (i : Int) + 1 from Int.natCast_succ i]; exact he'
    · have hb' : b < s.heap.objs.size := by
        rcases List.mem_cons.mp hb with rfl | hb
        · exact hel
        · rw [List.mem_singleton.mp hb]; exact hil
      rw [upd_ne (Nat.ne_of_lt hb')]
      exact (hf b hb).1
  done := by
    intro X hP hw hK hc i pins s σ H E I hf st hg
    subst hP hw hK
    obtain ⟨⟨old, he⟩, hit, hne, nai, nea⟩ := st
    obtain ⟨xs, hq, hx⟩ := hg
    obtain ⟨its, rv, p, hz⟩ := I.tuple hq
    obtain ⟨f0, f1, f2, f3, f4, f5⟩ := hf it (List.mem_cons_of_mem _ List.mem_cons_self)
    have hT : s.TypeIs (.ref e) "enumerate" := ⟨_, he, rfl⟩
    have hh : X.A.in1.handled = none := I.ok.hd hc
    have hl := rv.length
    unfold pyNext
    refine wpAny_bind (wpAny_attempt (wpAny_callSpecial?_slot (name := Str.ofString "__next__") hT F.slot_enumerate_next (wpAny_call_entry F.slot_enumerate_next hT F.entry_enumerate_next ?_ (F.args_enumerate_next_1 _))))
    show wpAny _ _ (field (.ref e) 2 >>= _) _ _ _
    refine wpAny_bind (wpAny_field he rfl (x := .ref it) rfl ?_)
    refine wpAny_bind (wpAny_nextOf_tuple_end hh hit p (by simp; omega) fun h' x he' hx' => ?_)
    obtain ⟨o, ho, hc'⟩ := hx'
    refine wpAny_bind (wpAny_isInstance (T := "StopIteration") (b := true) ⟨o, ho, hc'⟩ isSubtype_stop ?_)
    exact wpAny_pure ⟨rfl, I.turned (t' := s.toks) (fun b o hb q => he' b o hb q) f0 f1 f3 f4 f5⟩
  self := fun A i s Q E st h => let ⟨⟨_, he⟩, _⟩ := st; wpAny_pyIter_enum he h
theorem meets_enum1 {v : Value} {o : Obj} {H : Heap → Prop} (Bg : Begins v o H) :
    Meets (Builtin.«enumerate.__new__» ⟨[.type "enumerate", v], []⟩) (fun _ R s => H s.heap ∧
      R (.ok (.ret (.ref (s.heap.push o).objs.size))) { s with heap := (s.heap.push o).push { cls := .type "enumerate", data := .fields #[.none, .bool false, .ref s.heap.objs.size, rawInt 0, .none, .none] } }) :=
  .of_wp fun prog w A R s h => by
    obtain ⟨hp, gl, dd, tk, os⟩ := s
    obtain ⟨h0, h1⟩ := h
    have sb := sub_enumerate
    have it : ∀ {A' : Around} {E : Value → Shared → Prop} {Q : Value → Shared → Prop}, Q (.ref hp.objs.size) ⟨hp.push o, gl, dd, tk, os⟩ → wpAny (model prog w) A' (pyIter v) Q E ⟨hp, gl, dd, tk, os⟩ := fun q => Bg.iter prog w _ _ ⟨hp, gl, dd, tk, os⟩ _ h0 q
    wp_walk using it
    refine wpAny_stack_any fun st => wpAny_pure ?_
    split
    · rename_i c _ _ _ _ _
      cases (c == Value.type "enumerate") <;> (wp_walk using it; exact ⟨_, rfl, h1⟩)
    · wp_walk using it
      exact ⟨_, rfl, h1⟩
theorem enum1_begins {prog : Program} {w : World} {A : Around} {E : Value → Shared → Prop} {s : Shared} {v : Value} {o : Obj} {H : Heap → Prop} {Q : Value → Shared → Prop} (Bg : Begins v o H) (h1 : H s.heap)
    (h : ∀ h', IsEnum h' (s.heap.objs.size + 1) s.heap.objs.size 0 .none → h'.get? s.heap.objs.size = some o → (∀ b o, s.heap.get? b = some o → h'.get? b = some o) → Q (.ref (s.heap.objs.size + 1)) { s with heap := h' }) :
    wpAny (model prog w) A (call (.type "enumerate") [v]) Q E s := by
  refine callType_new F.called_enumerate (by decide) (F.typeCall_enumerate_1 _) (F.newCall_enumerate_1 _) (fun obj => F.args_object_init_2 obj _) F.entry_enumerate_new (meets_enum1 Bg) ⟨h1, ?_⟩
  have sz : (s.heap.push o).objs.size = s.heap.objs.size + 1 := Heap.size_push ..
  show _ ∧ _
  rw [sz]
  have en : IsEnum ((s.heap.push o).push { cls := .type "enumerate", data := .fields #[.none, .bool false, .ref s.heap.objs.size, rawInt 0, .none, .none] }) (s.heap.objs.size + 1) s.heap.objs.size 0 .none := by
    have hh := Heap.get?_push_size (s.heap.push o) (o := { cls := .type "enumerate", data := .fields #[.none, .bool false, .ref s.heap.objs.size, rawInt 0, .none, .none] }) rfl
    rwa [sz] at hh
  exact ⟨⟨_, en, rfl⟩, h _ en (Heap.get?_push_of_some _ (Heap.get?_push_size _ Bg.free)) fun b o x => Heap.get?_push_of_some _ (Heap.get?_push_of_some _ x)⟩
def iEnumT (K : PySem.W.Frag) (ta : TA) : TI := fun σ H R => ta σ H fun vs H1 => ∃ a xs, vs = [.ref a] ∧ SqT K H1 a xs ∧ R (IteT K a) H1
theorem pi_enumT {X : Cx} {e : Expr} {ta : TA} {p pos tpos : Pos} {elts : List Expr} {kk : Nat} (hg : Gl X "enumerate") (hm : X.mg "enumerate" = none) (ha : PA X [e] ta) (hs : starEach [e] X.env = [(false, eval e X.env)] := by rfl) :
    PI X (.Tuple elts kk tpos) (.Call (.Name "enumerate" p) [e] [] pos) (iEnumT X.K ta) := by
  refine ⟨fun pins s σ H R I h => ?_⟩
  refine PyProof.Rows.Call_ (ld_blt I hg hm PyProof.Rows.boot_enumerate (PyProof.Rows.callWith_type1 (thn (ha.run pos pins s σ H _ I h) fun us s1 ⟨vs, H1, I1, r1, q1⟩ => ?_) hs rfl))
  obtain ⟨a, xs, ex, hq, q⟩ := q1
  subst ex
  cases r1 with
  | cons r rr =>
    cases rr
    cases r
    obtain ⟨its, rv, p', hz⟩ := I1.tuple hq
    have la : a < s1.heap.objs.size := by obtain ⟨_, q, _⟩ := id p'; exact Heap.lt_size q
    refine enum1_begins (begins_tuple a its.toArray) p' fun h' he hit hk => wpAny_pyIter_enum he ?_
    have I2 : Inv X pins σ H1 { s1 with heap := h' } := I1.kept (t' := s1.toks) hk
    refine ⟨s1.heap.objs.size + 1, [s1.heap.objs.size + 1, s1.heap.objs.size], _, _, H1, rfl, I2, turn_enumT a (s1.heap.objs.size + 1) s1.heap.objs.size, ⟨⟨.none, he⟩, ⟨_, hit, rfl, rfl⟩, Nat.succ_ne_self _, Nat.ne_of_lt la, ?_⟩, fun b hb => ?_, q⟩
    · exact Nat.ne_of_gt (Nat.lt_succ_of_lt la)
    · have hle : s1.heap.objs.size ≤ b := by
        rcases List.mem_cons.mp hb with rfl | hb
        · exact Nat.le_succ _
        · rw [List.mem_singleton.mp hb]; exact Nat.le_refl _
      exact I1.fpOk hle (I1.hok.fresh hle)
end Vw

namespace Vw
open PySem PySem.Spec L2
section
variable {X : Cx} {scope : Scope} {B : Bs} {ρ : Rho} {vs : List Nat} {elt : Expr} {T : PyData → Rho → (Rho → Prop) → Prop} {e a b : Expr} {pos p pos' p2 p3 spos py : Pos} {own : List (Str × Nat)} {Ξ : List PyData → Prop} {elts : List Expr} {kk : Nat} {tpos : Pos} {P : Po} {y : Str}
theorem egcs_one {e0 : Expr} {T0 : PyData → Rho → (Rho → Prop) → Prop} (h1 : EvGc X scope e0 vs T0)
    (hs : ∀ (s : Shared) (H : Hp) (C : Addr) (cl : List (Str × Addr)) (fp : List Addr), (assignEach [e0] (X.blk s H scope (compEnvC scope cl C X.env) fp).env).map (·.2) = assign e0 (X.blk s H scope (compEnvC scope cl C X.env) fp).env :: (assignEach [] (X.blk s H scope (compEnvC scope cl C X.env) fp).env).map (·.2) := by intro s H C cl fp; rfl) :
    EvGcs X scope [e0] vs fun ds ρ C => ∃ d, ds = [d] ∧ T0 d ρ C := by
  obtain ⟨g, p1, q1⟩ := h1
  refine ⟨gCons g gNil, fun s H C cl fp => pgs_cons (p1 s H C cl fp) pgs_nil (hs s H C cl fp), fun B ds ρ C us σ H Q ⟨d, e1, ht⟩ E hd k => ?_⟩
  subst e1
  obtain ⟨v, vr, rfl, d1, d2⟩ := DnAll.cons.mp hd
  have e2 := DnAll.nil.mp d2
  subst e2
  exact ⟨v, [], rfl, q1 B d ρ _ v σ H _ ht E d1 fun ρ' σ' E2 hw hc => ⟨rfl, k ρ' σ' E2 hw hc⟩⟩
/-! [elt for tg in enumerate(t)], t a tuple -/
def AtEn (ds : List PyData) (k : Nat) (y : PyData) : Prop := ∃ z, ds[k]? = some z ∧ y = .tuple [.int (k : Nat), z]
theorem ef_lcE_read {g : TG} (q1 : ∀ B d ρ C v σ H Q, T d ρ C → En B ρ σ H → Dn (exO B ρ σ) H d v → (∀ ρ' σ', En B ρ' σ' H → wipe σ' vs = wipe σ vs → C ρ' → Q σ' H) → g v σ H Q) (σ : L2.St) (H : Hp) (Q : VK) (hq : tF B ρ Ξ σ H Q) :
    tLc (iEnumT X.K (tCons (tE B ρ fun d => ∃ ds, d = .tuple ds ∧ CompD X scope B ρ vs elt T ds.length (AtEn ds) Ξ) tNil)) g tYes (sEc X scope elt) vs σ H Q := by
  obtain ⟨E, k⟩ := hq
  refine ⟨E, fun v H1 d x1 E1 hd ⟨ds, ed, J, j0, jt, jd⟩ => ?_⟩
  subst ed
  obtain ⟨q, xs, rfl, ha, na, hds⟩ := Dn.tuple.mp hd
  have hl := hds.length
  refine ⟨q, xs, rfl, SqT.of ha, fun D hD => comp_gen E1 hD x1 k q1 j0 jd jt (fun i H' hi p => ?_) (fun H' p => ⟨xs, SqT.of (p.lst E1 ha na), by omega⟩) (fun i H' x H2 hi p y => ?_)⟩
  · have hx : xs[i]? = some (xs[i]'(by omega)) := List.getElem?_eq_getElem (by omega)
    exact ⟨xs, _, SqT.of (p.lst E1 ha na), hx⟩
  · obtain ⟨t, u, rfl, ht, rfl, hu⟩ := y
    have hx := hu xs (SqT.of (p.lst E1 ha na))
    obtain ⟨d, hdi, hdn⟩ := hds.get' hx
    refine ⟨.tuple [.int (i : Nat), d], ⟨d, hdi, rfl⟩, p.new ht, Dn.tuple.mpr ⟨t, _, rfl, upd_same, ?_, ?_⟩⟩
    · obtain ⟨_, _, hlD, _, _, E', _, _⟩ := id p
      exact E'.nx ht
    · refine DnAll.cons.mpr ⟨_, _, rfl, Dn.int.mpr rfl, DnAll.cons.mpr ⟨_, _, rfl, (p.new (o := .tup [.int (i : Nat), u]) ht).dn E1 hD hdn, DnAll.nil.mpr rfl⟩⟩
theorem ef_lcE (vs : List Nat) (hc : X.calm = true) (hN : X.N.Nodup) (hv : own.map (·.2) = vs) (hgl : Gl X "enumerate") (hm : X.mg "enumerate" = none) (hg : EvGc X scope (.Tuple elts kk tpos) vs T) (ok : BlkOk X.N X.env.scope scope own)
    (h : EvE X B ρ a fun d => ∃ ds, d = .tuple ds ∧ CompD X scope B ρ vs elt T ds.length (AtEn ds) Ξ) (hst : starEach [a] X.env = [(false, eval a X.env)] := by rfl)
    (hs : ∀ x, foldedSetIterable (.Call (.Name "enumerate" p) [a] [] pos') X.env x = pure x := by intro _; rfl) :
    EvF X B ρ (.ListComp elt [⟨.Tuple elts kk tpos, .Call (.Name "enumerate" p) [a] [] pos', [], 0⟩] scope pos) Ξ := by
  subst hv
  obtain ⟨g, p1, q1⟩ := hg
  exact pe_imp (pe_lc hc hN (pi_enumT hgl hm (pa_cons h pa_nil hst) hst) ok p1 (fun _ _ _ _ _ => pts_nil) pe_sc hs) (ef_lcE_read q1)
/-! [elt for tg in zip(t, u)], both lists or both tuples -/
def AtZip (ds es : List PyData) (k : Nat) (y : PyData) : Prop := ∃ z w, ds[k]? = some z ∧ es[k]? = some w ∧ y = .tuple [z, w]
def Both (d f : PyData) (ds es : List PyData) : Prop := (d = .list ds ∧ f = .list es) ∨ (d = .tuple ds ∧ f = .tuple es)
theorem ef_lcZ_read {g : TG} (q1 : ∀ B d ρ C v σ H Q, T d ρ C → En B ρ σ H → Dn (exO B ρ σ) H d v → (∀ ρ' σ', En B ρ' σ' H → wipe σ' vs = wipe σ vs → C ρ' → Q σ' H) → g v σ H Q) (σ : L2.St) (H : Hp) (Q : VK) (hq : tF B ρ Ξ σ H Q) :
    tLc (RZ.iZipA X.K (tCons (tE B ρ fun d => EvE X B ρ b fun f => ∃ ds es, Both d f ds es ∧ CompD X scope B ρ vs elt T (min ds.length es.length) (AtZip ds es) Ξ) (tCons (sE X b) tNil))) g tYes (sEc X scope elt) vs σ H Q := by
  obtain ⟨E, k⟩ := hq
  refine ⟨E, fun v H1 d x1 E1 hd hb => ⟨_, hb, E1, fun v2 H2 f x2 E2 hf ⟨ds, es, bo, J, j0, jt, jd⟩ => ?_⟩⟩
  rcases bo with ⟨ed, ef⟩ | ⟨ed, ef⟩ <;> subst ed <;> subst ef
  · obtain ⟨q, xs, rfl, ha, na, hds⟩ := Dn.list.mp (E1.dn x2 hd)
    obtain ⟨r, ys, rfl, hr, nr, hes⟩ := Dn.list.mp hf
    have hl := hds.length
    have hl2 := hes.length
    refine ⟨q, r, xs, ys, rfl, .inl ⟨SqL.of ha, SqL.of hr, fun D hD => comp_gen E2 hD (x1.trans x2) k q1 j0 jd jt (fun i H' hi p => ?_) (fun H' p => ⟨xs, ys, SqL.of (p.lst E2 ha na), SqL.of (p.lst E2 hr nr), by omega⟩) (fun i H' x H2 hi p y => ?_)⟩⟩
    · exact ⟨xs, ys, _, _, SqL.of (p.lst E2 ha na), SqL.of (p.lst E2 hr nr), List.getElem?_eq_getElem (by omega), List.getElem?_eq_getElem (by omega)⟩
    · obtain ⟨t, u, w, rfl, ht, rfl, hu, hw⟩ := y
      obtain ⟨d, hdi, hdn⟩ := hds.get' (hu xs (SqL.of (p.lst E2 ha na)))
      obtain ⟨f, hfi, hfn⟩ := hes.get' (hw ys (SqL.of (p.lst E2 hr nr)))
      refine ⟨.tuple [d, f], ⟨d, f, hdi, hfi, rfl⟩, p.new ht, Dn.tuple.mpr ⟨t, _, rfl, upd_same, ?_, ?_⟩⟩
      · obtain ⟨_, _, hlD, _, _, E', _, _⟩ := id p
        exact E'.nx ht
      · have pn := p.new (o := .tup [u, w]) ht
        exact DnAll.cons.mpr ⟨_, _, rfl, pn.dn E2 hD hdn, DnAll.cons.mpr ⟨_, _, rfl, pn.dn E2 hD hfn, DnAll.nil.mpr rfl⟩⟩
  · obtain ⟨q, xs, rfl, ha, na, hds⟩ := Dn.tuple.mp (E1.dn x2 hd)
    obtain ⟨r, ys, rfl, hr, nr, hes⟩ := Dn.tuple.mp hf
    have hl := hds.length
    have hl2 := hes.length
    refine ⟨q, r, xs, ys, rfl, .inr ⟨SqT.of ha, SqT.of hr, fun D hD => comp_gen E2 hD (x1.trans x2) k q1 j0 jd jt (fun i H' hi p => ?_) (fun H' p => ⟨xs, ys, SqT.of (p.lst E2 ha na), SqT.of (p.lst E2 hr nr), by omega⟩) (fun i H' x H2 hi p y => ?_)⟩⟩
    · exact ⟨xs, ys, _, _, SqT.of (p.lst E2 ha na), SqT.of (p.lst E2 hr nr), List.getElem?_eq_getElem (by omega), List.getElem?_eq_getElem (by omega)⟩
    · obtain ⟨t, u, w, rfl, ht, rfl, hu, hw⟩ := y
      obtain ⟨d, hdi, hdn⟩ := hds.get' (hu xs (SqT.of (p.lst E2 ha na)))
      obtain ⟨f, hfi, hfn⟩ := hes.get' (hw ys (SqT.of (p.lst E2 hr nr)))
      refine ⟨.tuple [d, f], ⟨d, f, hdi, hfi, rfl⟩, p.new ht, Dn.tuple.mpr ⟨t, _, rfl, upd_same, ?_, ?_⟩⟩
      · obtain ⟨_, _, hlD, _, _, E', _, _⟩ := id p
        exact E'.nx ht
      · have pn := p.new (o := .tup [u, w]) ht
        exact DnAll.cons.mpr ⟨_, _, rfl, pn.dn E2 hD hdn, DnAll.cons.mpr ⟨_, _, rfl, pn.dn E2 hD hfn, DnAll.nil.mpr rfl⟩⟩
theorem ef_lcZ (vs : List Nat) (hc : X.calm = true) (hN : X.N.Nodup) (hv : own.map (·.2) = vs) (hgl : Gl X "zip") (hm : X.mg "zip" = none) (hg : EvGc X scope (.Tuple elts kk tpos) vs T) (ok : BlkOk X.N X.env.scope scope own)
    (h : EvE X B ρ a fun d => EvE X B ρ b fun f => ∃ ds es, Both d f ds es ∧ CompD X scope B ρ vs elt T (min ds.length es.length) (AtZip ds es) Ξ)
    (h2 : starEach [a, b] X.env = (false, eval a X.env) :: starEach [b] X.env := by rfl) (h1 : starEach [b] X.env = (false, eval b X.env) :: starEach [] X.env := by rfl) (hpl : (backTo pos' (starEach [b] X.env)).any (·.1) = false := by rfl)
    (hs : ∀ x, foldedSetIterable (.Call (.Name "zip" p) [a, b] [] pos') X.env x = pure x := by intro _; rfl) :
    EvF X B ρ (.ListComp elt [⟨.Tuple elts kk tpos, .Call (.Name "zip" p) [a, b] [] pos', [], 0⟩] scope pos) Ξ := by
  subst hv
  obtain ⟨g, p1, q1⟩ := hg
  exact pe_imp (pe_lc hc hN (RZ.pi_zipA hgl hm (pa_cons h (pa_cons pe_s pa_nil h1) h2) h2 hpl) ok p1 (fun _ _ _ _ _ => pts_nil) pe_sc hs) (ef_lcZ_read q1)
theorem es_lcZ (i : Nat) (vs : List Nat) (hc : X.calm = true) (hN : X.N.Nodup) (hy : X.N[i]? = some y) (hyl : X.env.scope.names.lookup y = some .local) (hv : own.map (·.2) = vs) (hgl : Gl X "zip") (hm : X.mg "zip" = none) (hg : EvGc X scope (.Tuple elts kk tpos) vs T) (ok : BlkOk X.N X.env.scope scope own)
    (h : EvE X B ρ a fun d => EvE X B ρ b fun f => ∃ ds es, Both d f ds es ∧ CompD X scope B ρ vs elt T (min ds.length es.length) (AtZip ds es) fun ds => P.nx (ρ.set i (some (.own ds))))
    (h2 : starEach [a, b] X.env = (false, eval a X.env) :: starEach [b] X.env := by rfl) (h1 : starEach [b] X.env = (false, eval b X.env) :: starEach [] X.env := by rfl) (hpl : (backTo pos' (starEach [b] X.env)).any (·.1) = false := by rfl)
    (hs : ∀ x, foldedSetIterable (.Call (.Name "zip" p) [a, b] [] pos') X.env x = pure x := by intro _; rfl)
    (hsw : swapsWith (.ListComp elt [⟨.Tuple elts kk tpos, .Call (.Name "zip" p) [a, b] [] pos', [], 0⟩] scope pos) (some (.Name y py)) spos.line X.env = pure true := by rfl) :
    EvS X B ρ (.Assign [.Name y py] (.ListComp elt [⟨.Tuple elts kk tpos, .Call (.Name "zip" p) [a, b] [] pos', [], 0⟩] scope pos) spos) P := by
  subst hv
  obtain ⟨g, p1, q1⟩ := hg
  exact ps_imp (ps_setLc hc hN hy hyl hsw (RZ.pi_zipA hgl hm (pa_cons h (pa_cons pe_s pa_nil h1) h2) h2 hpl) ok p1 (fun _ _ _ _ _ => pts_nil) pe_sc hs) fun D σ H q => ef_lcZ_read q1 σ H _ ⟨q.1, fun p H' ds vs x nh ok E hp np hd hr => q.2.1 _ _ H' (XS.own x nh) (E.setOwn ok hp np hd) hr⟩
end
end Vw

namespace Vw
/-! polynomials over the fractions: lists of factors, the one of power 0 first -/
def ev : List Rat → Rat → Rat
  | [], _ => 0
  | c :: l, x => c + x * ev l x
def dv : List Rat → Rat → Rat
  | [], _ => 0
  | _ :: l, x => ev l x + x * dv l x
def padd : List Rat → List Rat → List Rat
  | [], q => q
  | p, [] => p
  | a :: p, b :: q => (a + b) :: padd p q
def psc (f : Rat) (p : List Rat) : List Rat := p.map (· * f)
def pmul : List Rat → List Rat → List Rat
  | [], _ => []
  | c :: p, q => padd (psc c q) (0 :: pmul p q)
def trim : List Rat → List Rat
  | [] => []
  | c :: l => match trim l with
    | [] => if c = 0 then [] else [c]
    | d :: r => c :: d :: r
def Nm (p : List Rat) : Prop := trim p = p
/-- dividing by (x - a): what is left first, then the quotient -/
def sdiv (a : Rat) : List Rat → List Rat
  | [] => []
  | c :: l => (c + a * (sdiv a l).headD 0) :: sdiv a l
theorem ev_padd : ∀ (p q : List Rat) (x : Rat), ev (padd p q) x = ev p x + ev q x
  | [], q, x => by simp [padd, ev, Rat.zero_add]
  | a :: p, [], x => by simp [padd, ev, Rat.add_zero]
  | a :: p, b :: q, x => by simp only [padd, ev, ev_padd p q x]; grind
theorem ev_psc (f : Rat) : ∀ (p : List Rat) (x : Rat), ev (psc f p) x = f * ev p x
  | [], x => by simp [psc, ev]
  | a :: p, x => by
    have := ev_psc f p x
    simp only [psc, List.map_cons, ev] at *
    rw [this]; grind
theorem ev_pmul : ∀ (p q : List Rat) (x : Rat), ev (pmul p q) x = ev p x * ev q x
  | [], q, x => by simp [pmul, ev]
  | a :: p, q, x => by simp only [pmul, ev_padd, ev_psc, ev, ev_pmul p q x]; grind
theorem ev_trim : ∀ (p : List Rat) (x : Rat), ev (trim p) x = ev p x
  | [], x => rfl
  | c :: l, x => by
    have := ev_trim l x
    unfold trim
    cases h : trim l with
    | nil =>
      rw [h] at this
      simp only [ev] at this ⊢
      rw [← this]
      by_cases e : c = 0
      · rw [if_pos e, e]; simp [ev]; grind
      · rw [if_neg e]; simp [ev]
    | cons d r => rw [h] at this; simp only [ev] at this ⊢; rw [← this]
theorem trim_len : ∀ p : List Rat, (trim p).length ≤ p.length
  | [] => Nat.le_refl _
  | c :: l => by
    have := trim_len l
    unfold trim
    cases h : trim l with
    | nil => by_cases e : c = 0 <;> simp [e]
    | cons d r => rw [h] at this; simpa using this
theorem trim_nm : ∀ p : List Rat, Nm (trim p)
  | [] => rfl
  | c :: l => by
    have ih := trim_nm l
    unfold trim
    cases h : trim l with
    | nil =>
      by_cases e : c = 0
      · rw [if_pos e]; rfl
      · rw [if_neg e]; simp [Nm, trim, e]
    | cons d r =>
      rw [h] at ih
      unfold Nm at ih ⊢
      show trim (c :: d :: r) = _
      rw [trim, ih]
theorem trim_sub : ∀ (p : List Rat) (c : Rat), c ∈ trim p → c ∈ p
  | [], c, h => h
  | a :: l, c, h => by
    have ih := trim_sub l
    unfold trim at h
    cases e : trim l with
    | nil =>
      rw [e] at h
      by_cases z : a = 0
      · simp [z] at h
      · simp [z] at h; simp [h]
    | cons d r =>
      rw [e] at h ih
      simp only [List.mem_cons] at h ⊢
      rcases h with h | h
      · exact .inl h
      · exact .inr (ih c (by simpa using h))
theorem Nm.tail {a b : Rat} {p : List Rat} (h : Nm (a :: b :: p)) : Nm (b :: p) := by
  unfold Nm at h ⊢
  rw [trim] at h
  cases e : trim (b :: p) with
  | nil => rw [e] at h; by_cases z : a = 0 <;> simp [z] at h
  | cons d r => rw [e] at h; simpa using h
theorem Nm.cons {a b : Rat} {p : List Rat} (h : Nm (b :: p)) : Nm (a :: b :: p) := by
  unfold Nm at h ⊢
  rw [trim, h]
theorem Nm.one {a : Rat} (h : a ≠ 0) : Nm [a] := by simp [Nm, trim, h]
theorem Nm.one' {a : Rat} (h : Nm [a]) : a ≠ 0 := fun e => by subst e; simp [Nm, trim] at h
theorem Nm.nil : Nm [] := rfl
theorem sdiv_len (a : Rat) : ∀ l : List Rat, (sdiv a l).length = l.length
  | [] => rfl
  | c :: l => by simp [sdiv, sdiv_len a l]
/-- x less a divides what is 0 at a -/
theorem ev_sdiv (a : Rat) : ∀ (l : List Rat) (x : Rat), ev l x = (sdiv a l).headD 0 + (x - a) * ev (sdiv a l).tail x
  | [], x => by simp [ev, sdiv]; grind
  | c :: l, x => by
    have ih := ev_sdiv a l x
    simp only [sdiv, List.headD_cons, List.tail_cons, ev]
    rw [ih]
    cases h : sdiv a l with
    | nil => simp [ev]; grind
    | cons d r => simp only [List.headD_cons, List.tail_cons, ev]; grind
theorem sdiv_zero (a : Rat) : ∀ l : List Rat, (∀ c ∈ sdiv a l, c = 0) → ∀ c ∈ l, c = 0
  | [], _, c, h => by cases h
  | d :: l, h, c, hc => by
    have h1 := h _ (by simp [sdiv] : (d + a * (sdiv a l).headD 0) ∈ sdiv a (d :: l))
    have h2 : ∀ c ∈ sdiv a l, c = 0 := fun c hc => h c (by simp [sdiv, hc])
    have h3 : (sdiv a l).headD 0 = 0 := by
      cases e : sdiv a l with
      | nil => rfl
      | cons b r => exact h2 b (by simp [e])
    simp only [List.mem_cons] at hc
    rcases hc with rfl | hc
    · rw [h3] at h1; grind
    · exact sdiv_zero a l h2 c hc
/-- 0 at as many places as it has factors -/
theorem zeros_of : ∀ (n : Nat) (l : List Rat), l.length ≤ n → ∀ (N : Nat), (∀ k : Nat, N ≤ k → ev l (k : Rat) = 0) → ∀ c ∈ l, c = 0
  | 0, l, hl, N, h, c, hc => by
    have : l = [] := List.length_eq_zero_iff.mp (by omega)
    subst this; cases hc
  | n + 1, l, hl, N, h, c, hc => by
    have hN := h N (Nat.le_refl _)
    have e0 : (sdiv (N : Rat) l).headD 0 = 0 := by
      have := ev_sdiv (N : Rat) l (N : Rat)
      rw [hN] at this
      have z : (N : Rat) - N = 0 := by grind
      rw [z] at this
      grind
    have key : ∀ c ∈ (sdiv (N : Rat) l).tail, c = 0 := by
      refine zeros_of n _ (by simp [sdiv_len]; omega) (N + 1) fun k hk => ?_
      have := ev_sdiv (N : Rat) l (k : Rat)
      rw [h k (by omega), e0] at this
      have ne : (k : Rat) - N ≠ 0 := fun z => by
        have : (k : Rat) = (N : Rat) := by grind
        have : k = N := by exact_mod_cast this
        omega
      have : ((k : Rat) - N) * ev (sdiv (N : Rat) l).tail (k : Rat) = 0 := by grind
      exact (Rat.mul_eq_zero.mp this).resolve_left ne
    refine sdiv_zero (N : Rat) l (fun c hc => ?_) c hc
    cases e : sdiv (N : Rat) l with
    | nil => rw [e] at hc; cases hc
    | cons b r =>
      rw [e] at hc key e0
      simp only [List.mem_cons] at hc
      rcases hc with rfl | hc
      · exact e0
      · exact key c hc
theorem coef_add : ∀ (p q : List Rat) (i : Nat), (padd p q).getD i 0 = p.getD i 0 + q.getD i 0
  | [], q, i => by simp [padd]; grind
  | a :: p, [], i => by simp [padd]; grind
  | a :: p, b :: q, 0 => by simp [padd]
  | a :: p, b :: q, i + 1 => by simpa [padd] using coef_add p q i
theorem coef_sc (f : Rat) (p : List Rat) (i : Nat) : (psc f p).getD i 0 = p.getD i 0 * f := by
  simp only [psc, List.getD_eq_getElem?_getD, List.getElem?_map]
  cases p[i]? <;> simp
/-- told by its values -/
theorem ev_ext {p q : List Rat} (h : ∀ x, ev p x = ev q x) (i : Nat) : p.getD i 0 = q.getD i 0 := by
  have z := zeros_of _ (padd p (psc (-1) q)) (Nat.le_refl _) 0 fun k _ => by
    rw [ev_padd, ev_psc, h]; grind
  have e := coef_add p (psc (-1) q) i
  rw [coef_sc] at e
  have : (padd p (psc (-1) q)).getD i 0 = 0 := by
    rw [List.getD_eq_getElem?_getD]
    cases e : (padd p (psc (-1) q))[i]? with
    | none => rfl
    | some c => exact z c (List.mem_of_getElem? e)
  rw [this] at e
  grind
theorem coef_nil {p : List Rat} (hp : Nm p) (h : ∀ i, p.getD i 0 = 0) : p = [] := by
  induction p with
  | nil => rfl
  | cons a p ih =>
    have h0 : a = 0 := by simpa using h 0
    cases p with
    | nil => exact absurd h0 hp.one'
    | cons b p =>
      have := ih hp.tail fun i => by simpa using h (i + 1)
      cases this
theorem nm_ext : ∀ {p q : List Rat}, Nm p → Nm q → (∀ i, p.getD i 0 = q.getD i 0) → p = q
  | [], q, _, hq, h => (coef_nil hq fun i => by rw [← h i]; simp).symm
  | p, [], hp, _, h => coef_nil hp fun i => by rw [h i]; simp
  | a :: p, b :: q, hp, hq, h => by
    have e : a = b := by simpa using h 0
    have t : ∀ {a : Rat} {p : List Rat}, Nm (a :: p) → Nm p := fun {a p} h => by
      cases p with
      | nil => exact rfl
      | cons b p => exact h.tail
    rw [e, nm_ext (t hp) (t hq) fun i => by simpa using h (i + 1)]
theorem len_ext {p q : List Rat} (hl : p.length = q.length) (h : ∀ x, ev p x = ev q x) : p = q := by
  refine List.ext_getElem hl fun i h1 h2 => ?_
  have := ev_ext h i
  simpa [List.getD_eq_getElem?_getD, List.getElem?_eq_getElem h1, List.getElem?_eq_getElem h2] using this
theorem nm_ev {p q : List Rat} (hp : Nm p) (hq : Nm q) (h : ∀ x, ev p x = ev q x) : p = q := nm_ext hp hq (ev_ext h)
end Vw

namespace Vw
def slF : Nat → List Rat → List Rat
  | _, [] => []
  | k, c :: l => ((k : Rat) * c) :: slF (k + 1) l
def slq (p : List Rat) : List Rat := slF 1 p.tail
def hqF : Nat → List Rat → List Rat
  | _, [] => []
  | k, c :: l => (c / ((k : Rat) + 1)) :: hqF (k + 1) l
def hq (p : List Rat) : List Rat := if p = [] then [] else 0 :: hqF 0 p
def stF (f : Rat) : Rat → List Rat → List Rat
  | _, [] => []
  | g, c :: l => (c * g) :: stF f (g * f) l
def shF (f : Rat) : Nat → List Rat → List Rat
  | 0, _ => []
  | n + 1, l => (sdiv f l).headD 0 :: shF f n (sdiv f l).tail
def shiftQ (p : List Rat) (f : Rat) : List Rat := shF f p.length p
def stretchQ (p : List Rat) (f : Rat) : List Rat := trim (stF f 1 p)

theorem cast_ne (k : Nat) : ((k : Rat) + 1) ≠ 0 := by
  have : ((k + 1 : Nat) : Rat) ≠ 0 := fun h => by
    have : k + 1 = 0 := by exact_mod_cast h
    omega
  intro h; apply this; rw [← h]; push_cast; rfl
theorem slF_len : ∀ (k : Nat) (l : List Rat), (slF k l).length = l.length
  | _, [] => rfl
  | k, c :: l => by simp [slF, slF_len (k + 1) l]
theorem hqF_len : ∀ (k : Nat) (l : List Rat), (hqF k l).length = l.length
  | _, [] => rfl
  | k, c :: l => by simp [hqF, hqF_len (k + 1) l]
theorem stF_len (f : Rat) : ∀ (g : Rat) (l : List Rat), (stF f g l).length = l.length
  | _, [] => rfl
  | g, c :: l => by simp [stF, stF_len f (g * f) l]
theorem shF_len (f : Rat) : ∀ (n : Nat) (l : List Rat), (shF f n l).length = n
  | 0, l => rfl
  | n + 1, l => by simp [shF, shF_len f n]
theorem shiftQ_len (p : List Rat) (f : Rat) : (shiftQ p f).length = p.length := shF_len f _ p
theorem ev_slF : ∀ (k : Nat) (l : List Rat) (x : Rat), ev (slF k l) x = (k : Rat) * ev l x + x * dv l x
  | k, [], x => by simp [slF, ev, dv]; grind
  | k, c :: l, x => by
    simp only [slF, ev, dv, ev_slF (k + 1) l x]
    have : ((k + 1 : Nat) : Rat) = (k : Rat) + 1 := by push_cast; rfl
    rw [this]; grind
theorem ev_slq (p : List Rat) (x : Rat) : ev (slq p) x = dv p x := by
  cases p with
  | nil => rfl
  | cons c l =>
    show ev (slF 1 l) x = _
    rw [ev_slF]; simp only [dv]
    have : ((1 : Nat) : Rat) = 1 := by norm_cast
    rw [this]; grind
theorem slF_hqF : ∀ (k : Nat) (l : List Rat), slF (k + 1) (hqF k l) = l
  | _, [] => rfl
  | k, c :: l => by
    simp only [hqF, slF, slF_hqF (k + 1) l]
    have e : ((k + 1 : Nat) : Rat) = (k : Rat) + 1 := by push_cast; rfl
    have := cast_ne k
    rw [e]
    congr 1
    grind
theorem slq_hq (p : List Rat) : slq (hq p) = p := by
  unfold hq slq
  by_cases h : p = []
  · rw [if_pos h, h]; rfl
  · rw [if_neg h]; exact slF_hqF 0 p
theorem ev_hq0 (p : List Rat) : ev (hq p) 0 = 0 := by
  unfold hq
  by_cases h : p = []
  · rw [if_pos h]; rfl
  · rw [if_neg h]; simp [ev]; grind
theorem dv_hq (p : List Rat) (x : Rat) : dv (hq p) x = ev p x := by rw [← ev_slq, slq_hq]
theorem ev_zero0 (p : List Rat) : ev p 0 = p.getD 0 0 := by cases p <;> simp [ev]; grind
theorem coef_slF : ∀ (k : Nat) (l : List Rat) (i : Nat), (slF k l).getD i 0 = ((k + i : Nat) : Rat) * l.getD i 0
  | k, [], i => by simp [slF]
  | k, c :: l, 0 => by simp [slF]
  | k, c :: l, i + 1 => by
    have := coef_slF (k + 1) l i
    simp only [slF, List.getD_cons_succ] at this ⊢
    rw [this, show k + 1 + i = k + (i + 1) by omega]
theorem coef_zero : ∀ {l : List Rat}, (∀ i, l.getD i 0 = 0) → ∀ x, ev l x = 0 ∧ dv l x = 0
  | [], _, x => ⟨rfl, rfl⟩
  | c :: l, h, x => by
    have h0 : c = 0 := by simpa using h 0
    obtain ⟨h1, h2⟩ := coef_zero (l := l) (fun i => by simpa using h (i + 1)) x
    simp only [ev, dv, h0, h1, h2]; constructor <;> grind
theorem coef_ev : ∀ {p q : List Rat}, (∀ i, p.getD i 0 = q.getD i 0) → ∀ x, ev p x = ev q x ∧ dv p x = dv q x
  | [], q, h, x => by
    obtain ⟨h1, h2⟩ := coef_zero (l := q) (fun i => by rw [← h i]; simp) x
    exact ⟨h1.symm, h2.symm⟩
  | p, [], h, x => coef_zero (l := p) (fun i => by rw [h i]; simp) x
  | a :: p, b :: q, h, x => by
    have h0 : a = b := by simpa using h 0
    obtain ⟨h1, h2⟩ := coef_ev (p := p) (q := q) (fun i => by simpa using h (i + 1)) x
    simp only [ev, dv, h0, h1, h2]; exact ⟨trivial, trivial⟩
theorem dv_ext {p q : List Rat} (h : ∀ x, ev p x = ev q x) (x : Rat) : dv p x = dv q x := (coef_ev (ev_ext h) x).2
/-- the slope tells the rest -/
theorem ev_of_dv {p q : List Rat} (h : ∀ x, dv p x = dv q x) (h0 : ev p 0 = ev q 0) (x : Rat) : ev p x = ev q x := by
  refine (coef_ev (fun i => ?_) x).1
  cases i with
  | zero => rw [← ev_zero0, ← ev_zero0]; exact h0
  | succ i =>
    have := ev_ext (p := slq p) (q := slq q) (fun x => by rw [ev_slq, ev_slq]; exact h x) i
    unfold slq at this
    rw [coef_slF, coef_slF] at this
    have e : ((1 + i : Nat) : Rat) ≠ 0 := by
      rw [show 1 + i = i + 1 by omega]; intro z; exact cast_ne i (by rw [← z]; push_cast; rfl)
    have t : ∀ l : List Rat, l.tail.getD i 0 = l.getD (i + 1) 0 := fun l => by cases l <;> simp
    rw [t, t] at this
    grind
theorem dv_padd : ∀ (p q : List Rat) (x : Rat), dv (padd p q) x = dv p x + dv q x
  | [], q, x => by simp [padd, dv, Rat.zero_add]
  | a :: p, [], x => by simp [padd, dv, Rat.add_zero]
  | a :: p, b :: q, x => by simp only [padd, dv, ev_padd, dv_padd p q x]; grind
theorem dv_psc (f : Rat) : ∀ (p : List Rat) (x : Rat), dv (psc f p) x = f * dv p x
  | [], x => by simp [psc, dv]
  | a :: p, x => by
    have := dv_psc f p x
    have e := ev_psc f p x
    simp only [psc, List.map_cons, dv] at *
    rw [this, e]; grind
theorem dv_pmul : ∀ (p q : List Rat) (x : Rat), dv (pmul p q) x = dv p x * ev q x + ev p x * dv q x
  | [], q, x => by simp [pmul, dv, ev]; grind
  | a :: p, q, x => by simp only [pmul, dv_padd, dv_psc, dv, ev, ev_pmul, dv_pmul p q x]; grind
theorem dv_trim (p : List Rat) (x : Rat) : dv (trim p) x = dv p x := dv_ext (ev_trim p) x
theorem ev_stF (f : Rat) : ∀ (g : Rat) (l : List Rat) (x : Rat), ev (stF f g l) x = g * ev l (f * x)
  | g, [], x => by simp [stF, ev]
  | g, c :: l, x => by simp only [stF, ev, ev_stF f (g * f) l x]; grind
theorem dv_stF (f : Rat) : ∀ (g : Rat) (l : List Rat) (x : Rat), dv (stF f g l) x = g * f * dv l (f * x)
  | g, [], x => by simp [stF, dv]
  | g, c :: l, x => by simp only [stF, dv, dv_stF f (g * f) l x, ev_stF]; grind
theorem ev_stretchQ (p : List Rat) (f x : Rat) : ev (stretchQ p f) x = ev p (f * x) := by
  unfold stretchQ; rw [ev_trim, ev_stF]; grind
theorem dv_stretchQ (p : List Rat) (f x : Rat) : dv (stretchQ p f) x = f * dv p (f * x) := by
  unfold stretchQ; rw [dv_trim, dv_stF]; grind
theorem ev_shF (f : Rat) : ∀ (n : Nat) (l : List Rat), l.length ≤ n → ∀ x, ev (shF f n l) x = ev l (x + f)
  | 0, l, h, x => by
    have : l = [] := List.length_eq_zero_iff.mp (by omega)
    subst this; rfl
  | n + 1, l, h, x => by
    have := ev_sdiv f l (x + f)
    simp only [shF, ev]
    rw [ev_shF f n (sdiv f l).tail (by simp [sdiv_len]; omega) x, this]
    grind
theorem ev_shiftQ (p : List Rat) (f x : Rat) : ev (shiftQ p f) x = ev p (x + f) := ev_shF f _ p (Nat.le_refl _) x
def shX (f : Rat) : List Rat → List Rat
  | [] => []
  | c :: l => padd [c] (pmul [f, 1] (shX f l))
theorem ev_shX (f : Rat) : ∀ (l : List Rat) (x : Rat), ev (shX f l) x = ev l (x + f) ∧ dv (shX f l) x = dv l (x + f)
  | [], x => ⟨rfl, rfl⟩
  | c :: l, x => by
    obtain ⟨h1, h2⟩ := ev_shX f l x
    simp only [shX, ev_padd, dv_padd, ev_pmul, dv_pmul, h1, h2, ev, dv]
    constructor <;> grind
theorem dv_shiftQ (p : List Rat) (f x : Rat) : dv (shiftQ p f) x = dv p (x + f) := by
  rw [← (ev_shX f p x).2]
  exact dv_ext (fun x => by rw [ev_shiftQ, (ev_shX f p x).1]) x
theorem nm_len {p q : List Rat} (hp : Nm p) (h : ∀ x, ev p x = ev q x) : p.length ≤ q.length := by
  have : p = trim q := nm_ev hp (trim_nm q) fun x => by rw [ev_trim]; exact h x
  rw [this]; exact trim_len q
theorem nm_shiftQ {p : List Rat} (hp : Nm p) (f : Rat) : Nm (shiftQ p f) := by
  have e1 := nm_len hp (q := shiftQ (trim (shiftQ p f)) (-f)) fun x => by
    rw [ev_shiftQ, ev_trim, ev_shiftQ]; congr 1; grind
  rw [shiftQ_len] at e1
  have e2 := trim_len (shiftQ p f)
  have e3 := shiftQ_len p f
  have : trim (shiftQ p f) = shiftQ p f := len_ext (by omega) (ev_trim _)
  exact this
/-! the last factor -/
theorem nm_last : ∀ {p : List Rat}, Nm p ↔ p = [] ∨ p.getD (p.length - 1) 0 ≠ 0
  | [] => ⟨fun _ => .inl rfl, fun _ => rfl⟩
  | [a] => ⟨fun h => .inr (by simpa using h.one'), fun h => by
      rcases h with h | h
      · cases h
      · exact Nm.one (by simpa using h)⟩
  | a :: b :: p => by
    have ih := nm_last (p := b :: p)
    constructor
    · intro h
      rcases ih.mp h.tail with z | z
      · cases z
      · exact .inr (by simpa using z)
    · intro h
      rcases h with z | z
      · cases z
      · exact (ih.mpr (.inr (by simpa using z))).cons
theorem nm_slF {k : Nat} (hk : 0 < k) : ∀ {l : List Rat}, Nm l → Nm (slF k l) := fun {l} h => by
  rw [nm_last] at h ⊢
  rcases h with rfl | h
  · exact .inl rfl
  · right
    rw [slF_len, coef_slF]
    have : ((k + (l.length - 1) : Nat) : Rat) ≠ 0 := fun z => by
      have : k + (l.length - 1) = 0 := by exact_mod_cast z
      omega
    intro z
    rcases Rat.mul_eq_zero.mp z with q | q
    · exact this q
    · exact h q
theorem nm_tail : ∀ {p : List Rat}, Nm p → Nm p.tail
  | [], h => rfl
  | [a], h => rfl
  | a :: b :: p, h => h.tail
theorem nm_slq {p : List Rat} (h : Nm p) : Nm (slq p) := nm_slF (by omega) (nm_tail h)
theorem coef_hqF : ∀ (k : Nat) (l : List Rat) (i : Nat), (hqF k l).getD i 0 = l.getD i 0 / ((k : Rat) + (i : Rat) + 1)
  | k, [], i => by simp [hqF]; grind
  | k, c :: l, 0 => by simp [hqF]; congr 1; grind
  | k, c :: l, i + 1 => by
    have := coef_hqF (k + 1) l i
    simp only [hqF, List.getD_cons_succ] at this ⊢
    rw [this]; congr 1; push_cast; grind
theorem nm_hq {p : List Rat} (h : Nm p) : Nm (hq p) := by
  unfold hq
  by_cases e : p = []
  · rw [if_pos e]; rfl
  · rw [if_neg e]
    rw [nm_last] at h ⊢
    rcases h with h | h
    · exact absurd h e
    right
    have l0 : 0 < p.length := List.length_pos_iff.mpr e
    simp only [List.length_cons, hqF_len, Nat.add_sub_cancel]
    obtain ⟨m, hm⟩ : ∃ m, p.length = m + 1 := ⟨p.length - 1, by omega⟩
    rw [hm] at h ⊢
    rw [List.getD_cons_succ, coef_hqF]
    simp only [Nat.add_sub_cancel] at h
    have c1 := cast_ne m
    have e1 : ((0 : Nat) : Rat) + (m : Rat) + 1 = (m : Rat) + 1 := by grind
    rw [e1]
    intro z
    apply h
    have : p.getD m 0 / ((m : Rat) + 1) * ((m : Rat) + 1) = p.getD m 0 := by grind
    rw [← this, z]; grind
theorem pmul_len : ∀ {p q : List Rat}, p ≠ [] → q ≠ [] → (pmul p q).length = p.length + q.length - 1
  | [], q, h, _ => absurd rfl h
  | [a], q, _, hq => by
    have l : ∀ p q : List Rat, (padd p q).length = max p.length q.length := by
      intro p
      induction p with
      | nil => intro q; simp [padd]
      | cons a p ih => intro q; cases q with
        | nil => simp [padd]
        | cons b q => simp [padd, ih]
    have : 0 < q.length := List.length_pos_iff.mpr hq
    simp [pmul, l, psc]; omega
  | a :: b :: p, q, _, hq => by
    have l : ∀ p q : List Rat, (padd p q).length = max p.length q.length := by
      intro p
      induction p with
      | nil => intro q; simp [padd]
      | cons a p ih => intro q; cases q with
        | nil => simp [padd]
        | cons b q => simp [padd, ih]
    have ih := pmul_len (p := b :: p) (q := q) (by simp) hq
    have : 0 < q.length := List.length_pos_iff.mpr hq
    rw [pmul, l, List.length_cons, ih]
    simp [psc]; omega
theorem coef_pmul_last : ∀ {p q : List Rat}, p ≠ [] → q ≠ [] → (pmul p q).getD (p.length + q.length - 2) 0 = p.getD (p.length - 1) 0 * q.getD (q.length - 1) 0
  | [], q, h, _ => absurd rfl h
  | [a], q, _, hq => by
    have : 0 < q.length := List.length_pos_iff.mpr hq
    rw [pmul, coef_add, coef_sc]
    have e : (0 :: pmul [] q).getD ([a].length + q.length - 2) 0 = 0 := by
      obtain ⟨m, hm⟩ : ∃ m, [a].length + q.length - 2 = m := ⟨_, rfl⟩
      rw [hm]
      cases m <;> simp [pmul]
    rw [e, show [a].length + q.length - 2 = q.length - 1 by simp; omega]
    simp; grind
  | a :: b :: p, q, _, hq => by
    have ih := coef_pmul_last (p := b :: p) (q := q) (by simp) hq
    have h0 : 0 < q.length := List.length_pos_iff.mpr hq
    rw [pmul, coef_add, coef_sc]
    have e1 : q.getD ((a :: b :: p).length + q.length - 2) 0 = 0 := by
      rw [List.getD_eq_getElem?_getD, List.getElem?_eq_none (by simp; omega)]; rfl
    have e2 : (a :: b :: p).length + q.length - 2 = ((b :: p).length + q.length - 2) + 1 := by simp; omega
    rw [e1, e2, List.getD_cons_succ, ih]
    simp; grind
theorem nm_pmul {p q : List Rat} (hp : Nm p) (hq : Nm q) (h1 : p ≠ []) (h2 : q ≠ []) : Nm (pmul p q) := by
  rw [nm_last] at hp hq ⊢
  have a := hp.resolve_left h1
  have b := hq.resolve_left h2
  right
  have l1 : 0 < p.length := List.length_pos_iff.mpr h1
  have l2 : 0 < q.length := List.length_pos_iff.mpr h2
  rw [pmul_len h1 h2, show p.length + q.length - 1 - 1 = p.length + q.length - 2 by omega, coef_pmul_last h1 h2]
  intro z
  rcases Rat.mul_eq_zero.mp z with z | z
  · exact a z
  · exact b z
def multQ (p q : List Rat) : List Rat := if p = [] ∨ q = [] then [] else pmul p q
theorem ev_multQ (p q : List Rat) (x : Rat) : ev (multQ p q) x = ev p x * ev q x := by
  unfold multQ
  by_cases h : p = [] ∨ q = []
  · rw [if_pos h]; rcases h with rfl | rfl <;> simp [ev]
  · rw [if_neg h, ev_pmul]
theorem nm_multQ {p q : List Rat} (hp : Nm p) (hq : Nm q) : Nm (multQ p q) := by
  unfold multQ
  by_cases h : p = [] ∨ q = []
  · rw [if_pos h]; rfl
  · rw [if_neg h]; exact nm_pmul hp hq (fun e => h (.inl e)) (fun e => h (.inr e))
end Vw

namespace Vw
def ql (r : List Int) : List Rat := r.map fun i : Int => (i : Rat)
def polQ (r : List Int) (b : Int) : List Rat := r.map fun t : Int => (t : Rat) / (b : Rat)
theorem ql_len (r : List Int) : (ql r).length = r.length := by simp [ql]
theorem polQ_len (r : List Int) (b : Int) : (polQ r b).length = r.length := by simp [polQ]
theorem ev_polQ (b : Int) : ∀ (r : List Int) (x : Rat), ev (polQ r b) x = ev (ql r) x / (b : Rat)
  | [], x => by simp [polQ, ql, ev]; grind
  | c :: r, x => by
    have := ev_polQ b r x
    simp only [polQ, ql, List.map_cons, ev] at *
    rw [this]; grind
theorem ev_append : ∀ (a b : List Rat) (x : Rat), ev (a ++ b) x = ev a x + x ^ a.length * ev b x
  | [], b, x => by simp [ev]; grind
  | c :: a, b, x => by simp only [List.cons_append, ev, ev_append a b x, List.length_cons]; grind
theorem ev_set : ∀ (l : List Rat) (i : Nat) (c d : Rat) (x : Rat), l[i]? = some d → ev (l.set i c) x = ev l x + (c - d) * x ^ i
  | [], i, c, d, x, h => by simp at h
  | a :: l, 0, c, d, x, h => by simp at h; subst h; simp only [List.set_cons_zero, ev]; grind
  | a :: l, i + 1, c, d, x, h => by
    simp at h
    simp only [List.set_cons_succ, ev, ev_set l i c d x h]; grind
theorem ql_set (l : List Int) (i : Nat) (c : Int) : ql (l.set i c) = (ql l).set i (c : Rat) := by simp [ql, List.map_set]
theorem ql_get {l : List Int} {i : Nat} {d : Int} (h : l[i]? = some d) : (ql l)[i]? = some (d : Rat) := by simp [ql, h]
theorem ql_app (a b : List Int) : ql (a ++ b) = ql a ++ ql b := by simp [ql]
theorem ql_take (a : List Int) (n : Nat) : ql (a.take n) = (ql a).take n := by simp [ql, List.map_take]
theorem ql_drop (a : List Int) (n : Nat) : ql (a.drop n) = (ql a).drop n := by simp [ql, List.map_drop]
/-! the row of a polynomial -/
def rowU (p : List Rat) : Nat := p.foldl (fun b c => Nat.lcm b c.den) 1
def rowT (p : List Rat) : List Int := p.map fun c => c.num * ((rowU p : Int) / (c.den : Int))
theorem fold_dvd : ∀ (p : List Rat) (b : Nat), b ∣ p.foldl (fun b c => Nat.lcm b c.den) b ∧ ∀ c ∈ p, c.den ∣ p.foldl (fun b c => Nat.lcm b c.den) b
  | [], b => ⟨Nat.dvd_refl _, fun c h => by cases h⟩
  | a :: p, b => by
    obtain ⟨h1, h2⟩ := fold_dvd p (Nat.lcm b a.den)
    simp only [List.foldl_cons]
    refine ⟨Nat.dvd_trans (Nat.dvd_lcm_left _ _) h1, fun c hc => ?_⟩
    simp only [List.mem_cons] at hc
    rcases hc with rfl | hc
    · exact Nat.dvd_trans (Nat.dvd_lcm_right _ _) h1
    · exact h2 c hc
theorem lcm_le (a b : Nat) : Nat.lcm a b ≤ a * b := by
  unfold Nat.lcm; exact Nat.div_le_self _ _
theorem fold_pos : ∀ (p : List Rat) (b : Nat), 0 < b → 0 < p.foldl (fun b c => Nat.lcm b c.den) b
  | [], b, h => h
  | a :: p, b, h => fold_pos p _ (Nat.lcm_pos h (Rat.den_pos a))
theorem rowU_pos (p : List Rat) : 0 < rowU p := fold_pos p 1 (by decide)
theorem fold_le {k : Nat} : ∀ (p : List Rat) (b j : Nat), (∀ c ∈ p, c.den < 2 ^ k) → b ≤ 2 ^ j → p.foldl (fun b c => Nat.lcm b c.den) b ≤ 2 ^ (j + k * p.length)
  | [], b, j, _, h => by simpa using h
  | a :: p, b, j, hp, h => by
    have h1 := hp a (by simp)
    have := fold_le (k := k) p (Nat.lcm b a.den) (j + k) (fun c hc => hp c (by simp [hc])) (by
      refine Nat.le_trans (lcm_le _ _) ?_
      rw [Nat.pow_add]
      exact Nat.mul_le_mul h (Nat.le_of_lt h1))
    simp only [List.foldl_cons, List.length_cons]
    rw [show j + k * (p.length + 1) = j + k + k * p.length by rw [Nat.mul_add]; omega]
    exact this
theorem rowT_len (p : List Rat) : (rowT p).length = p.length := by simp [rowT]
theorem num_den (c : Rat) : (c.num : Rat) = c * (c.den : Rat) := by
  have h := Rat.mkRat_self c
  rw [Rat.mkRat_eq_div] at h
  have : (c.den : Rat) ≠ 0 := fun z => by
    have : c.den = 0 := by exact_mod_cast z
    exact c.den_nz this
  have h' : (c.num : Rat) / (c.den : Rat) = c := by simpa using h
  grind
theorem row_one (c : Rat) (u : Nat) (h : c.den ∣ u) : ((c.num * ((u : Int) / (c.den : Int)) : Int) : Rat) = c * (u : Rat) := by
  obtain ⟨m, rfl⟩ := h
  have d : (c.den : Int) ≠ 0 := by have := c.den_nz; omega
  have : ((c.den * m : Nat) : Int) / (c.den : Int) = (m : Int) := by
    rw [Int.natCast_mul, Int.mul_ediv_cancel_left _ d]
  rw [this, Rat.intCast_mul, num_den]
  push_cast
  grind
theorem ev_rowAux (u : Nat) : ∀ (p : List Rat), (∀ c ∈ p, c.den ∣ u) → ∀ x, ev (ql (p.map fun c => c.num * ((u : Int) / (c.den : Int)))) x = (u : Rat) * ev p x
  | [], _, x => by simp [ql, ev]
  | c :: p, h, x => by
    have ih := ev_rowAux u p (fun c hc => h c (by simp [hc])) x
    have e := row_one c u (h c (by simp))
    simp only [ql, List.map_cons, ev] at ih ⊢
    rw [ih, e]; grind
theorem ev_rowT (p : List Rat) (x : Rat) : ev (ql (rowT p)) x = (rowU p : Rat) * ev p x := ev_rowAux (rowU p) p (fold_dvd p 1).2 x
theorem rowU_ne (p : List Rat) : ((rowU p : Nat) : Rat) ≠ 0 := fun z => by
  have : rowU p = 0 := by exact_mod_cast z
  have := rowU_pos p
  omega
/-! synthetic division of a row -/
def sdivZ (a : Int) : List Int → List Int
  | [] => []
  | c :: l => (c + a * (sdivZ a l).headD 0) :: sdivZ a l
theorem ql_sdivZ (a : Int) : ∀ l : List Int, ql (sdivZ a l) = sdiv (a : Rat) (ql l)
  | [] => rfl
  | c :: l => by
    have ih := ql_sdivZ a l
    have e : ((sdivZ a l).headD 0 : Int) = ((sdiv (a : Rat) (ql l)).headD 0 : Rat) := by
      rw [← ih]; cases sdivZ a l <;> simp [ql]
    show (((c + a * (sdivZ a l).headD 0 : Int)) : Rat) :: ql (sdivZ a l) = (c + a * (sdiv (a : Rat) (ql l)).headD 0) :: sdiv (a : Rat) (ql l)
    rw [ih, ← e]
    congr 1
    push_cast; rfl
theorem sdivZ_len (a : Int) : ∀ l : List Int, (sdivZ a l).length = l.length
  | [] => rfl
  | c :: l => by simp [sdivZ, sdivZ_len a l]
/-- one pass behind the first n factors -/
theorem ev_pass (a : Int) (g : List Int) (n : Nat) (h : n < g.length) (S : Rat → Rat) (hs : ∀ y, S y = ev (ql (g.take n)) (y - a) + (y - a) ^ n * ev (ql (g.drop n)) y) (y : Rat) :
    S y = ev (ql ((g.take n ++ sdivZ a (g.drop n)).take (n + 1))) (y - a) + (y - a) ^ (n + 1) * ev (ql ((g.take n ++ sdivZ a (g.drop n)).drop (n + 1))) y := by
  have hl : (g.take n).length = n := by simp; omega
  have e := ev_sdiv (a : Rat) (ql (g.drop n)) y
  rw [← ql_sdivZ] at e
  cases hd : sdivZ a (g.drop n) with
  | nil => have := sdivZ_len a (g.drop n); rw [hd] at this; simp at this; omega
  | cons b r =>
    rw [hd] at e
    have t1 : (g.take n ++ b :: r).take (n + 1) = g.take n ++ [b] := by
      rw [List.take_append, hl, List.take_of_length_le (by omega)]; simp
    have t2 : (g.take n ++ b :: r).drop (n + 1) = r := by
      rw [List.drop_append, hl, List.drop_of_length_le (by omega)]; simp
    rw [t1, t2, ql_app, ev_append, ql_len, hl, hs, e]
    simp only [ql, List.map_cons, List.map_nil, List.headD_cons, List.tail_cons, ev]
    grind
/-! numbers raised -/
theorem pow_ne {b : Rat} (h : b ≠ 0) : ∀ n : Nat, b ^ n ≠ 0
  | 0 => by simp
  | n + 1 => fun z => by
    rw [Rat.pow_succ] at z
    rcases Rat.mul_eq_zero.mp z with q | q
    · exact pow_ne h n q
    · exact h q
theorem ev_dn (b : Int) (hb : (b : Rat) ≠ 0) : ∀ (r : List Int) (w : List Int), w.length = r.length → (∀ i c, r[i]? = some c → w[i]? = some (c * b ^ (r.length - 1 - i))) → ∀ y, (b : Rat) * ev (ql w) y = (b : Rat) ^ r.length * ev (ql r) (y / b)
  | [], w, h, _, y => by
    have : w = [] := List.length_eq_zero_iff.mp (by simpa using h)
    subst this; simp [ql, ev]
  | c :: r, [], h, _, y => by simp at h
  | c :: r, d :: w, h, hw, y => by
    have h0 := hw 0 c rfl
    simp at h0
    have ih := ev_dn b hb r w (by simpa using h) (fun i e hi => by
      have := hw (i + 1) e (by simpa using hi)
      simp only [List.getElem?_cons_succ, List.length_cons] at this
      rw [this]; congr 3; omega) y
    simp only [ql, List.map_cons, ev, List.length_cons] at ih ⊢
    subst h0
    push_cast
    have : (b : Rat) * (c * (b : Rat) ^ r.length + y * ev (List.map (fun i : Int => (i : Rat)) w) y) = c * (b : Rat) ^ r.length * b + y * ((b : Rat) * ev (List.map (fun i : Int => (i : Rat)) w) y) := by grind
    rw [this, ih, Rat.pow_succ]
    have : y = (y / b) * b := by grind
    grind
theorem ev_up (b : Int) : ∀ (m : List Int) (w : List Int) (g : Int), w.length = m.length → (∀ i c, m[i]? = some c → w[i]? = some (c * (g * b ^ i))) → ∀ y, ev (ql w) y = g * ev (ql m) (b * y)
  | [], w, g, h, _, y => by
    have : w = [] := List.length_eq_zero_iff.mp (by simpa using h)
    subst this; simp [ql, ev]
  | c :: r, [], g, h, _, y => by simp at h
  | c :: r, d :: w, g, h, hw, y => by
    have h0 := hw 0 c rfl
    simp at h0
    have ih := ev_up b r w (g * b) (by simpa using h) (fun i e hi => by
      have := hw (i + 1) e (by simpa using hi)
      simp only [List.getElem?_cons_succ] at this
      rw [this, Int.pow_succ]; congr 2; grind) y
    simp only [ql, List.map_cons, ev] at ih ⊢
    subst h0
    rw [ih]; push_cast; grind
/-- what shifted reckons -/
theorem shift_eq {p : List Rat} {t b : Int} (hb : 0 < b) {w m v : List Int} (hp : p ≠ []) (lw : w.length = p.length) (hw : ∀ i c, (rowT p)[i]? = some c → w[i]? = some (c * b ^ (p.length - 1 - i)))
    (lm : m.length = w.length) (hm : ∀ x : Rat, ev (ql m) x = ev (ql w) (x + t)) (lv : v.length = m.length) (hv : ∀ i c, m[i]? = some c → v[i]? = some (c * b ^ i)) :
    polQ v ((rowU p : Int) * b ^ (p.length - 1)) = shiftQ p ((t : Rat) / (b : Rat)) := by
  have bn : (b : Rat) ≠ 0 := fun z => by
    have : b = 0 := by exact_mod_cast z
    omega
  have un := rowU_ne p
  obtain ⟨n, hn⟩ : ∃ n, p.length = n + 1 := ⟨p.length - 1, by have := List.length_pos_iff.mpr hp; omega⟩
  refine len_ext (by rw [polQ_len, shiftQ_len]; omega) fun x => ?_
  rw [ev_polQ, ev_shiftQ]
  have e1 := ev_up b m v 1 lv (fun i c h => by rw [Int.one_mul]; exact hv i c h) x
  have e2 := ev_dn b bn (rowT p) w (by rw [rowT_len]; exact lw) (fun i c h => by rw [rowT_len]; exact hw i c h) (b * x + t)
  rw [ev_rowT, rowT_len, hn] at e2
  rw [e1, hm, hn]
  have e3 : ((b : Rat) * x + t) / b = x + t / b := by grind
  rw [e3] at e2
  push_cast
  have pn := pow_ne bn n
  have e4 : ev (ql w) ((b : Rat) * x + t) = (b : Rat) ^ n * ((rowU p : Rat) * ev p (x + t / b)) := by
    rw [Rat.pow_succ] at e2
    have : (b : Rat) * ev (ql w) ((b : Rat) * x + t) = b * ((b : Rat) ^ n * ((rowU p : Rat) * ev p (x + t / b))) := by grind
    grind
  rw [e4]
  grind
/-! at -/
def W2 (t b : Int) : List Int → Int
  | [] => 0
  | c :: l => W2 t b l * t + c * b ^ l.length
theorem ev_W2 (t b : Int) (hb : (b : Rat) ≠ 0) : ∀ l : List Int, ev (ql l) ((t : Rat) / b) * (b : Rat) ^ l.length = (W2 t b l : Rat) * b
  | [] => by simp [ql, ev, W2]
  | c :: l => by
    have ih := ev_W2 t b hb l
    simp only [ql, List.map_cons, ev, W2, List.length_cons] at ih ⊢
    push_cast
    rw [Rat.pow_succ]
    have : ((c : Rat) + (t : Rat) / b * ev (List.map (fun i : Int => (i : Rat)) l) ((t : Rat) / b)) * ((b : Rat) ^ l.length * b) = c * (b : Rat) ^ l.length * b + t * (ev (List.map (fun i : Int => (i : Rat)) l) ((t : Rat) / b) * (b : Rat) ^ l.length) * (b / b) := by grind
    rw [this, ih]
    grind
theorem at_eq (p : List Rat) {t b : Int} (hb : 0 < b) : (((W2 t b (rowT p) * b : Int) : Rat) / (((rowU p : Int) * b ^ p.length : Int) : Rat)) = ev p ((t : Rat) / (b : Rat)) := by
  have bn : (b : Rat) ≠ 0 := fun z => by
    have : b = 0 := by exact_mod_cast z
    omega
  have e := ev_W2 t b bn (rowT p)
  rw [ev_rowT, rowT_len] at e
  have un := rowU_ne p
  have pn := pow_ne bn p.length
  push_cast
  rw [← e]
  grind
/-! seven values between two places -/
def seven (g : Rat → Rat) (s w : Rat) : Rat := w / 840 * (41 * g s + 216 * g (s + w * (1/6)) + 27 * g (s + w * (1/3)) + 272 * g (s + w * (1/2)) + 27 * g (s + w * (2/3)) + 216 * g (s + w * (5/6)) + 41 * g (s + w))
theorem seven_eq {p : List Rat} (h : p.length ≤ 7) (s w : Rat) : ev (hq p) (s + w) = ev (hq p) s + seven (ev p) s w := by
  obtain ⟨a0, a1, a2, a3, a4, a5, a6, hp⟩ : ∃ a0 a1 a2 a3 a4 a5 a6 : Rat, ∀ i, p.getD i 0 = [a0, a1, a2, a3, a4, a5, a6].getD i 0 := by
    refine ⟨p.getD 0 0, p.getD 1 0, p.getD 2 0, p.getD 3 0, p.getD 4 0, p.getD 5 0, p.getD 6 0, fun i => ?_⟩
    match i with
    | 0 => rfl
    | 1 => rfl
    | 2 => rfl
    | 3 => rfl
    | 4 => rfl
    | 5 => rfl
    | 6 => rfl
    | i + 7 =>
      rw [List.getD_eq_getElem?_getD, List.getElem?_eq_none (by omega)]
      simp
  have e1 := fun x => (coef_ev hp x).1
  have e2 : ∀ x, ev (hq p) x = ev (hq [a0, a1, a2, a3, a4, a5, a6]) x := fun x => ev_of_dv (fun x => by rw [dv_hq, dv_hq]; exact e1 x) (by rw [ev_hq0, ev_hq0]) x
  unfold seven
  simp only [e1, e2]
  simp only [hq, hqF, ev, if_neg (show ¬ ([a0, a1, a2, a3, a4, a5, a6] = []) from fun z => by cases z)]
  push_cast
  grind
end Vw

namespace Vw
theorem drop_cons {α : Type} {l : List α} {p : Nat} {u : α} (h : l[p]? = some u) : l.drop p = u :: l.drop (p + 1) := by
  obtain ⟨lt, e⟩ := List.getElem?_eq_some_iff.mp h
  rw [List.drop_eq_getElem_cons lt, e]
theorem inner_step {b : Int} {g g' : List Int} {L p : Nat} (hL : g.length = L) (hL' : g'.length = L) (hp : p + 1 < L) (ht : g'.take (p + 1) = g.take (p + 1)) (hd : g'.drop (p + 1) = sdivZ b (g.drop (p + 1))) :
    ∃ u v, g'[p]? = some u ∧ g'[p + 1]? = some v ∧ (g'.set p (u + b * v)).take p = g.take p ∧ (g'.set p (u + b * v)).drop p = sdivZ b (g.drop p) := by
  have h1 : g'[p]? = some (g'[p]'(by omega)) := List.getElem?_eq_getElem (by omega)
  have h2 : g'[p + 1]? = some (g'[p + 1]'(by omega)) := List.getElem?_eq_getElem (by omega)
  have hg : g[p]? = some (g'[p]'(by omega)) := by
    have : (g'.take (p + 1))[p]? = (g.take (p + 1))[p]? := by rw [ht]
    rw [List.getElem?_take_of_lt (by omega), List.getElem?_take_of_lt (by omega)] at this
    rw [← this]; exact h1
  have hv : (sdivZ b (g.drop (p + 1))).headD 0 = g'[p + 1]'(by omega) := by
    rw [← hd, drop_cons h2]; rfl
  refine ⟨_, _, h1, h2, ?_, ?_⟩
  · rw [List.take_set_of_le (Nat.le_refl _)]
    have : (g'.take (p + 1)).take p = (g.take (p + 1)).take p := by rw [ht]
    rwa [List.take_take, List.take_take, Nat.min_eq_left (Nat.le_succ p)] at this
  · have h3 : (g'.set p (g'[p] + b * g'[p + 1]))[p]? = some (g'[p] + b * g'[p + 1]) := List.getElem?_set_self (by omega)
    rw [drop_cons h3, drop_cons hg, List.drop_set_of_lt (Nat.lt_succ_self _), hd]
    show _ = (g'[p] + b * (sdivZ b (g.drop (p + 1))).headD 0) :: sdivZ b (g.drop (p + 1))
    rw [hv]
theorem sdivZ_one (b c : Int) : sdivZ b [c] = [c] := by simp [sdivZ]
theorem last_pass {b : Int} {r g : List Int} {j : Nat} (hj : j + 1 = g.length) (h : ∀ y : Rat, ev (ql r) y = ev (ql (g.take j)) (y - b) + (y - b) ^ j * ev (ql (g.drop j)) y) (x : Rat) : ev (ql g) x = ev (ql r) (x + b) := by
  have hc : g[j]? = some (g[j]'(by omega)) := List.getElem?_eq_getElem (by omega)
  have hd : g.drop j = [g[j]'(by omega)] := by rw [drop_cons hc, List.drop_of_length_le (by omega)]
  have e : ev (ql g) x = ev (ql (g.take j)) x + x ^ j * ev (ql (g.drop j)) x := by
    conv => lhs; rw [← List.take_append_drop j g]
    rw [ql_app, ev_append, ql_len, List.length_take, Nat.min_eq_left (by omega)]
  rw [e, h, hd]
  have s : x + (b : Rat) - b = x := by grind
  rw [s]
  simp [ql, ev]
theorem rpow_add (x : Rat) (k : Nat) : ∀ j, x ^ (k + j) = x ^ k * x ^ j
  | 0 => by simp
  | j + 1 => by rw [← Nat.add_assoc, Rat.pow_succ, Rat.pow_succ, rpow_add x k j]; grind
/-- products: one more factor of one, or of other -/
theorem mul_step {one other f : List Int} {k j : Nat} {c d e : Int} (hc : one[k]? = some c) (hd : other[j]? = some d) (he : f[k + j]? = some e)
    (h : ∀ x : Rat, ev (ql f) x = ev (ql (one.take k)) x * ev (ql other) x + c * x ^ k * ev (ql (other.take j)) x) (x : Rat) :
    ev (ql (f.set (k + j) (e + c * d))) x = ev (ql (one.take k)) x * ev (ql other) x + c * x ^ k * ev (ql (other.take (j + 1))) x := by
  have t : other.take (j + 1) = other.take j ++ [d] := by
    obtain ⟨lt, e⟩ := List.getElem?_eq_some_iff.mp hd
    rw [← e, List.take_append_getElem]
  have lj : (other.take j).length = j := by
    have := (List.getElem?_eq_some_iff.mp hd).1
    rw [List.length_take]; omega
  rw [ql_set, ev_set _ _ _ _ _ (ql_get he), h, t, ql_app, ev_append, ql_len, lj]
  simp only [ql, List.map_cons, List.map_nil, ev]
  push_cast
  have : x ^ (k + j) = x ^ k * x ^ j := rpow_add x k j
  rw [this]
  grind
theorem mul_next {one other : List Int} {k : Nat} {c : Int} (hc : one[k]? = some c) (x : Rat) : ev (ql (one.take k)) x * ev (ql other) x + c * x ^ k * ev (ql (other.take other.length)) x = ev (ql (one.take (k + 1))) x * ev (ql other) x := by
  have t : one.take (k + 1) = one.take k ++ [c] := by
    obtain ⟨lt, e⟩ := List.getElem?_eq_some_iff.mp hc
    rw [← e, List.take_append_getElem]
  have lk : (one.take k).length = k := by
    have := (List.getElem?_eq_some_iff.mp hc).1
    rw [List.length_take]; omega
  rw [List.take_length, t, ql_app, ev_append, ql_len, lk]
  simp only [ql, List.map_cons, List.map_nil, ev]
  grind
theorem ev_zeros : ∀ (n : Nat) (x : Rat), ev (ql (List.replicate n 0)) x = 0
  | 0, x => rfl
  | n + 1, x => by
    have := ev_zeros n x
    simp only [ql, List.replicate_succ, List.map_cons, ev] at this ⊢
    rw [this]; grind
end Vw

namespace Vw
open PySem PySem.Spec L2
structure TxL (mg : Str → Option Value) : Prop where
  lcm : mg "lcm" = some (.builtin "math.lcm")
  zip : mg "zip" = none
  enumerate : mg "enumerate" = none
  max : mg "max" = none
  min : mg "min" = none
  sum : mg "sum" = none
  any : mg "any" = none
  all : mg "all" = none
  set : mg "set" = none
  sorted : mg "sorted" = none
  str : mg "str" = none
def pol (p : List Rat) : PyData := .tuple (p.map fr)
def intsD (r : List Int) : PyData := .list (r.map PyData.int)
def Pz (k : Nat) (p : List Rat) : Prop := ∀ c ∈ p, Sz k c
def Lz (k : Nat) (r : List Int) : Prop := ∀ t ∈ r, Lt2 t k
theorem Lz.set {k : Nat} {r : List Int} (h : Lz k r) {i : Nat} {v : Int} (hv : Lt2 v k) : Lz k (r.set i v) := fun t ht => by
  rcases List.mem_or_eq_of_mem_set ht with q | q
  · exact h t q
  · rw [q]; exact hv
theorem Lz.get {k : Nat} {r : List Int} (h : Lz k r) {i : Nat} {v : Int} (hv : r[i]? = some v) : Lt2 v k := h v (List.mem_of_getElem? hv)
theorem Pz.mono {a b : Nat} {p : List Rat} (h : Pz a p) (l : a ≤ b) : Pz b p := fun c hc => (h c hc).mono l
theorem Pz.at {k : Nat} {p : List Rat} (h : Pz k p) {i : Nat} {c : Rat} (e : p[i]? = some c) : Sz k c := h c (List.mem_of_getElem? e)
theorem shFr : ∀ p : List Rat, PyData.canLayAll0 (p.map fr) = true
  | [] => rfl
  | c :: p => by
    show (PyData.canLay0 (fr c) && PyData.canLayAll0 (p.map fr)) = true
    rw [shFr p]
    simp [fr, PyData.canLay0, PyData.canLayAll0]
theorem dpFr : ∀ p : List Rat, PyData.depthAll (p.map fr) ≤ 1
  | [] => by simp [PyData.depthAll]
  | c :: p => by
    have := dpFr p
    simp [PyData.depthAll, PyData.depth, fr] at *
    omega
theorem eqvPol0 : ∀ p : List Rat, PyData.eqv (pol p) (.tuple []) = p.isEmpty
  | [] => rfl
  | c :: p => by simp [pol, PyData.eqv, PyData.eqvAll]
theorem shapedPol (p : List Rat) : SeqAt.shaped (pol p) = true := by
  have h1 := shFr p
  have h2 := dpFr p
  unfold SeqAt.shaped pol
  rw [show PyData.canLay0 (.tuple (p.map fr)) = true by simp only [PyData.canLay0]; exact h1]
  rw [Bool.true_and]
  refine decide_eq_true (?_ : PyData.depth (.tuple (p.map fr)) ≤ 64)
  simp only [PyData.depth]
  omega
section
variable {X : Cx} {B : Bs} {ρ : Rho} {e a b c : Expr} {p pos p1 p2 p3 : Pos} {Φ : PyData → Prop} {P0 : Program} {w : World} {K : PySem.W.Frag} {mg : Str → Option Value} {base : Heap} {N : List Str}
theorem ev_tupleS (S : Same X P0 w K mg base N) (T : Txt mg) (hg : Gl X "tuple") (h : EvE X B ρ e fun d => ∃ ds, (d = .list ds ∨ d = .tuple ds) ∧ Φ (.tuple ds))
    (he : starEach [e] X.env = (false, eval e X.env) :: starEach [] X.env := by rfl) (hpl : (backTo pos (starEach [] X.env)).any (·.1) = false := by rfl) : EvE X B ρ (.Call (.Name "tuple" p) [e] [] pos) Φ :=
  ev_tuple hg (by rw [S.m]; exact T.tuple) h he hpl
theorem ev_listS (S : Same X P0 w K mg base N) (T : Txt mg) (hg : Gl X "list") (h : EvE X B ρ e fun d => ∃ ds, (d = .list ds ∨ d = .tuple ds) ∧ Φ (.list ds))
    (he : starEach [e] X.env = (false, eval e X.env) :: starEach [] X.env := by rfl) (hpl : (backTo pos (starEach [] X.env)).any (·.1) = false := by rfl) : EvE X B ρ (.Call (.Name "list" p) [e] [] pos) Φ :=
  ev_list hg (by rw [S.m]; exact T.list) h he hpl
end
end Vw

namespace Vw
open PySem PySem.Spec L2
section
variable {X : Cx} {B : Bs} {ρ : Rho} {e a b c : Expr} {p pos p1 p2 p3 : Pos} {Φ : PyData → Prop} {P0 : Program} {w : World} {K : PySem.W.Frag} {mg : Str → Option Value} {base : Heap} {N : List Str}
/-- a test may read an own list -/
theorem et_frz {i : Nat} {ds : List PyData} {Ψ : Bool → Prop} (hr : ρ[i]? = some (some (.own ds))) (h : EvT X B (ρ.set i (some (.dat (.list ds)))) e Ψ) : EvT X B ρ e Ψ :=
  pt_imp h fun σ H Q ⟨E, k⟩ => ⟨E.freeze hr, fun b H' x E' hb => k b H' x (E.ext x E'.ok) hb⟩
theorem fr_int (w : Int) : fr (w : Rat) = .tuple [.int w, .int 1] := by
  unfold fr
  rw [Rat.num_intCast, Rat.den_intCast]
  rfl
end
end Vw

namespace Vw
open PySem PySem.Spec L2 PyProof.Rows
theorem tmul1 (l : Addr) (items : Array Value) (n : Nat) (dd : Option Addr) (sl : Array (Option Value)) (u : Tok) :
    Meets (Builtin.«tuple.__mul__» ⟨[.ref l, .int 1 u], []⟩) (fun _ R s => s.heap.get? l = some { cls := .type "tuple", dict := dd, data := .seq items n, slots := sl } ∧ R (.ok (.ret (.ref l))) s) :=
  .of_wp fun prog w A R s h => by
    obtain ⟨hp, g, d, tk, os⟩ := s
    obtain ⟨hl, h⟩ := h
    have f1 := AutoSeq1.idx_int
    have c1 : (items.isEmpty || (1 : Int) == 1) = true := by simp
    wp_walk using wpAny_loadPart' hl
    repeat (first
      | (refine wpAny_ite_false (by decide) ?_; wp_walk using wpAny_loadPart' hl)
      | (refine wpAny_ite_true (by simp) ?_; wp_walk using wpAny_loadPart' hl))
    exact ⟨_, rfl, h⟩
theorem tmul0 (l : Addr) (items : Array Value) (n : Nat) (dd : Option Addr) (sl : Array (Option Value)) (u : Tok) (hi : items.isEmpty = false) :
    Meets (Builtin.«tuple.__mul__» ⟨[.ref l, .int 0 u], []⟩) (fun _ R s => s.heap.get? l = some { cls := .type "tuple", dict := dd, data := .seq items n, slots := sl } ∧ R (.ok (.ret (.ref s.heap.objs.size))) { s with heap := s.heap.push { cls := .type "tuple", data := .seq #[] }, toks := s.toks }) :=
  .of_wp fun prog w A R s h => by
    obtain ⟨hp, g, d, tk, os⟩ := s
    obtain ⟨hl, h⟩ := h
    have f1 := AutoSeq1.idx_int
    wp_walk using wpAny_loadPart' hl
    repeat (first
      | (refine wpAny_ite_false (by decide) ?_; wp_walk using wpAny_loadPart' hl)
      | (refine wpAny_ite_false (by simp [hi]) ?_; wp_walk using wpAny_loadPart' hl)
      | (refine wpAny_ite_true (by simp) ?_; wp_walk using wpAny_loadPart' hl))
    exact ⟨_, rfl, h⟩
/-- t * k, for k from 0 on -/
def rRepA (K : PySem.W.Frag) : R2 := fun x y H Q => ∃ l k xs, x = .ref l ∧ y = .int k ∧ SqT K H l xs ∧ xs ≠ [] ∧ 0 ≤ k ∧ k ≤ 1000 ∧ xs.length ≤ 1000 ∧ (k = 1 → Q (.ref l) H) ∧ (k ≠ 1 → ∀ p, H p = none → Q (.ref p) (upd H p (.tup (List.replicate k.toNat xs).flatten)))
theorem op_repA {X : Cx} : OpR X (binaryOp .Mult) (rRepA X.K) := by
  intro pins s σ H x y v u Q I rx ry h
  obtain ⟨l, k, xs, rfl, rfl, hT, hne, h1, h2, hz, q1, q2⟩ := h
  by_cases big : 2 ≤ k
  · exact op_repT pins s σ H _ _ v u Q I rx ry ⟨l, k, xs, rfl, rfl, hT, hne, big, h2, hz, q2 (by omega)⟩
  cases rx
  obtain ⟨t, rfl⟩ := ry
  obtain ⟨its, r, ⟨⟨cls, dd, data, sl⟩, ho, hc, n, hd⟩, hs⟩ := I.tuple hT
  simp only at hc hd
  subst hc hd
  have hi : its.toArray.isEmpty = false := by
    cases its with
    | nil => cases r; exact absurd rfl hne
    | cons a b => rfl
  by_cases one : k = 1
  · subst one
    exact wpAny_binaryOp_repeat_ref (T := "tuple") (U := "int") (by decide) ⟨_, ho, rfl⟩ (fun s' => typeIs_int s' 1 t) noFill_tuple_mul F.fills_int_mul F.slot_int_rmul repeat_tuple F.slot_int_index.lookup
      (call_meets F.slot_int_rmul (typeIs_int s 1 t) F.entry_int_rmul (F.args_int_rmul_2 _ _) (int_rmul_tuple 1 t l its.toArray n dd sl)
        ⟨ho, rfl, ⟨_, ho, rfl⟩, call_meets F.slot_tuple_mul ⟨_, ho, rfl⟩ F.entry_tuple_mul (F.args_tuple_mul_2 _ _) (tmul1 l its.toArray n dd sl t) ⟨ho, ⟨.ref l, H, I, rfl, q1 rfl⟩⟩⟩)
  · have k0 : k = 0 := by omega
    subst k0
    refine wpAny_binaryOp_repeat_ref (T := "tuple") (U := "int") (by decide) ⟨_, ho, rfl⟩ (fun s' => typeIs_int s' 0 t) noFill_tuple_mul F.fills_int_mul F.slot_int_rmul repeat_tuple F.slot_int_index.lookup
      (call_meets F.slot_int_rmul (typeIs_int s 0 t) F.entry_int_rmul (F.args_int_rmul_2 _ _) (int_rmul_tuple 0 t l its.toArray n dd sl)
        ⟨ho, rfl, ⟨_, ho, rfl⟩, call_meets F.slot_tuple_mul ⟨_, ho, rfl⟩ F.entry_tuple_mul (F.args_tuple_mul_2 _ _) (tmul0 l its.toArray n dd sl t hi) ⟨ho, ?_⟩⟩)
    refine ⟨.ref s.heap.objs.size, _, I.laid (t' := s.toks) (o := .tup []) (fun b ob q => Heap.get?_push_of_some _ q) (Nat.le_refl _) ?_, rfl, q2 one _ (I.hok.fresh (Nat.le_refl _))⟩
    exact ⟨Nat.zero_le _, [], .nil, IsTup.new _ _⟩
section
variable {X : Cx} {B : Bs} {ρ : Rho} {e a b : Expr} {pos : Pos} {Φ : PyData → Prop}
theorem ev_repT (h : EvE X B ρ a fun x => EvE X B ρ b fun y => ∃ ds k, x = .tuple ds ∧ y = .int k ∧ ds ≠ [] ∧ 0 ≤ k ∧ k ≤ 1000 ∧ ds.length ≤ 1000 ∧ Φ (.tuple (List.replicate k.toNat ds).flatten)) : EvE X B ρ (.BinOp a .Mult b pos) Φ :=
  ev_op op_repA (ev_mono h fun x h1 => ev_mono h1 fun y ⟨ds, k, e1, e2, hn, k0, k1, hl, hΦ⟩ => by
    subst e1 e2
    intro σ H v u Q E d1 d2 kk
    obtain ⟨q, xs, rfl, hq, nq, r⟩ := Dn.tuple.mp d1
    refine ⟨q, k, xs, rfl, Dn.int.mp d2, SqT.of hq, fun e => ?_, k0, k1, by rw [← r.length]; exact hl, fun e => ?_, fun _ l hl => ?_⟩
    · subst e
      exact hn (List.length_eq_zero_iff.mp (by rw [r.length]; rfl))
    · subst e
      refine kk _ H _ Ext.refl E d1 ?_
      simpa using hΦ
    · exact kk _ _ _ (Ext.new hl) (E.new hl) (Dn.tuple.mpr ⟨l, _, rfl, upd_same, E.nx hl, (E.dnAll (Ext.new hl) r).rep _⟩) hΦ)
end
end Vw

namespace Vw
open PySem PySem.Spec L2
/-! ### sizes of polynomials -/
theorem Sz.zero : Sz 1 0 := ⟨by decide, by decide⟩
theorem sz_nat {k a : Nat} (h : k < 2 ^ a) (ha : 0 < a) : Sz a (k : Rat) := by
  refine ⟨?_, ?_⟩
  · have : ((k : Nat) : Rat).num = (k : Int) := by rw [show ((k : Nat) : Rat) = ((k : Int) : Rat) by push_cast; rfl, Rat.num_intCast]
    rw [this, Int.natAbs_natCast]; exact h
  · have : ((k : Nat) : Rat).den = 1 := by rw [show ((k : Nat) : Rat) = ((k : Int) : Rat) by push_cast; rfl, Rat.den_intCast]
    rw [this]; exact Nat.one_lt_two_pow (by omega)
theorem pz_cons {a : Nat} {c : Rat} {p : List Rat} : Pz a (c :: p) ↔ Sz a c ∧ Pz a p := by simp [Pz]
theorem pz_nil {a : Nat} : Pz a [] := fun c h => nomatch h
theorem pz_trim {a : Nat} {p : List Rat} (h : Pz a p) : Pz a (trim p) := fun c hc => h c (trim_sub p c hc)
theorem pz_padd {a b : Nat} : ∀ {p q : List Rat}, Pz a p → Pz b q → Pz (a + b + 1) (padd p q)
  | [], q, _, h => by unfold padd; exact h.mono (by omega)
  | c :: p, [], h, _ => by unfold padd; exact h.mono (by omega)
  | c :: p, d :: q, h, g => by
    obtain ⟨h1, h2⟩ := pz_cons.mp h
    obtain ⟨g1, g2⟩ := pz_cons.mp g
    exact pz_cons.mpr ⟨h1.add g1, pz_padd h2 g2⟩
theorem pz_psc {a b : Nat} {f : Rat} {p : List Rat} (h : Pz a p) (hf : Sz b f) : Pz (a + b) (psc f p) := fun c hc => by
  obtain ⟨x, hx, rfl⟩ := List.mem_map.mp hc
  exact (h x hx).mul hf
theorem pz_pmul {a b : Nat} : ∀ {p q : List Rat}, Pz a p → Pz b q → Pz (p.length * (a + b + 1) + 1) (pmul p q)
  | [], q, _, _ => pz_nil
  | c :: p, q, h, g => by
    obtain ⟨h1, h2⟩ := pz_cons.mp h
    have ih := pz_pmul h2 g
    refine (pz_padd (pz_psc g h1) (pz_cons.mpr ⟨Sz.zero.mono (by omega), ih⟩)).mono ?_
    rw [List.length_cons, Nat.add_mul]
    omega
theorem pz_multQ {a b : Nat} {p q : List Rat} (h : Pz a p) (g : Pz b q) : Pz (p.length * (a + b + 1) + 1) (multQ p q) := by
  unfold multQ
  split
  · exact pz_nil
  · exact pz_pmul h g
theorem pz_slF {a : Nat} : ∀ {k : Nat} {p : List Rat}, Pz a p → k + p.length ≤ 16 → Pz (a + 4) (slF k p)
  | k, [], _, _ => pz_nil
  | k, c :: p, h, hl => by
    obtain ⟨h1, h2⟩ := pz_cons.mp h
    rw [List.length_cons] at hl
    exact pz_cons.mpr ⟨((sz_nat (a := 4) (show k < 16 by omega) (by decide)).mul h1).mono (by omega), pz_slF h2 (by omega)⟩
theorem pz_tail {a : Nat} {p : List Rat} (h : Pz a p) : Pz a p.tail := fun c hc => h c (List.mem_of_mem_tail hc)
theorem pz_slq {a : Nat} {p : List Rat} (h : Pz a p) (hl : p.length ≤ 14) : Pz (a + 4) (slq p) := pz_slF (pz_tail h) (by rw [List.length_tail]; omega)
theorem pz_hqF {a : Nat} : ∀ {k : Nat} {p : List Rat}, Pz a p → k + p.length ≤ 14 → Pz (a + 4) (hqF k p)
  | k, [], _, _ => pz_nil
  | k, c :: p, h, hl => by
    obtain ⟨h1, h2⟩ := pz_cons.mp h
    rw [List.length_cons] at hl
    have e : ((k : Rat) + 1) = ((k + 1 : Nat) : Rat) := by push_cast; rfl
    refine pz_cons.mpr ⟨?_, pz_hqF h2 (by omega)⟩
    exact h1.div (by rw [e]; exact sz_nat (a := 4) (show k + 1 < 16 by omega) (by decide)) (cast_ne k)
theorem pz_hq {a : Nat} {p : List Rat} (h : Pz a p) (hl : p.length ≤ 14) : Pz (a + 4) (hq p) := by
  unfold hq
  split
  · exact pz_nil
  · exact pz_cons.mpr ⟨Sz.zero.mono (by omega), pz_hqF h (by omega)⟩
theorem hq_len (p : List Rat) : (hq p).length ≤ p.length + 1 := by
  unfold hq
  split
  · simp
  · rw [List.length_cons, hqF_len]; omega
theorem slq_len (p : List Rat) : (slq p).length ≤ p.length := by
  unfold slq; rw [slF_len, List.length_tail]; omega
theorem padd_len : ∀ p q : List Rat, (padd p q).length = max p.length q.length
  | [], q => by simp [padd]
  | a :: p, [] => by simp [padd]
  | a :: p, b :: q => by simp [padd, padd_len p q]
theorem multQ_len (p q : List Rat) : (multQ p q).length ≤ p.length + q.length := by
  unfold multQ
  split
  · exact Nat.zero_le _
  · rename_i h
    rw [pmul_len (fun e => h (.inl e)) (fun e => h (.inr e))]
    omega
theorem psc_len (f : Rat) (p : List Rat) : (psc f p).length = p.length := by simp [psc]
theorem pz_stF {a c : Nat} {f : Rat} (hf : Sz c f) : ∀ {g : Rat} {b : Nat} {p : List Rat}, Sz b g → Pz a p → Pz (a + b + c * p.length) (stF f g p)
  | g, b, [], _, _ => pz_nil
  | g, b, d :: p, hg, h => by
    obtain ⟨h1, h2⟩ := pz_cons.mp h
    refine pz_cons.mpr ⟨(h1.mul hg).mono (by omega), (pz_stF hf (hg.mul hf) h2).mono ?_⟩
    rw [List.length_cons, Nat.mul_add]
    omega
theorem pz_stretchQ {a c : Nat} {f : Rat} {p : List Rat} (h : Pz a p) (hf : Sz c f) : Pz (a + 1 + c * p.length) (stretchQ p f) :=
  pz_trim (pz_stF hf ⟨by decide, by decide⟩ h)
theorem stretchQ_len (p : List Rat) (f : Rat) : (stretchQ p f).length ≤ p.length := by
  unfold stretchQ
  exact Nat.le_trans (trim_len _) (by rw [stF_len]; exact Nat.le_refl _)
/-! ### what repr can show -/
def Rb (k b : Nat) (d : PyData) : Prop := d.showable = true ∧ d.hasDict = false ∧ d.leavesShort 2000 = true ∧ d.depth ≤ k ∧ d.bulk ≤ b
def Rbs (k b : Nat) : List PyData → Prop
  | [] => True
  | d :: r => Rb k b d ∧ Rbs k b r
theorem Rb.mono {k b k' b' : Nat} {d : PyData} (h : Rb k b d) (l : k ≤ k') (m : b ≤ b') : Rb k' b' d := ⟨h.1, h.2.1, h.2.2.1, Nat.le_trans h.2.2.2.1 l, Nat.le_trans h.2.2.2.2 m⟩
theorem Rbs.sh {k b : Nat} : ∀ {ds : List PyData}, Rbs k b ds → PyData.showableAll ds = true ∧ PyData.hasDictAll ds = false ∧ PyData.leavesShortAll 2000 ds = true ∧ PyData.depthAll ds ≤ k ∧ PyData.bulkAll ds ≤ (b + 1) * ds.length
  | [], _ => ⟨by simp [PyData.showableAll], by simp [PyData.hasDictAll], by simp [PyData.leavesShortAll], by simp [PyData.depthAll], by simp [PyData.bulkAll]⟩
  | d :: r, ⟨⟨h1, h2, h3, h4, h5⟩, h⟩ => by
    obtain ⟨k1, k2, k3, k4, k5⟩ := Rbs.sh h
    refine ⟨by simp [PyData.showableAll, h1, k1], by simp [PyData.hasDictAll, h2, k2], by simp [PyData.leavesShortAll, h3, k3], ?_, ?_⟩
    · simp only [PyData.depthAll]; omega
    · simp only [PyData.bulkAll, List.length_cons, Nat.mul_add]; omega
theorem Rbs.list {k b : Nat} {ds : List PyData} (h : Rbs k b ds) : Rb (k + 1) ((b + 1) * ds.length) (.list ds) := by
  obtain ⟨k1, k2, k3, k4, k5⟩ := h.sh
  exact ⟨by simpa [PyData.showable] using k1, by simpa [PyData.hasDict] using k2, by simpa [PyData.leavesShort] using k3, by simp only [PyData.depth]; omega, by simpa only [PyData.bulk] using k5⟩
theorem Rbs.tup {k b : Nat} {ds : List PyData} (h : Rbs k b ds) : Rb (k + 1) ((b + 1) * ds.length) (.tuple ds) := by
  obtain ⟨k1, k2, k3, k4, k5⟩ := h.sh
  exact ⟨by simpa [PyData.showable] using k1, by simpa [PyData.hasDict] using k2, by simpa [PyData.leavesShort] using k3, by simp only [PyData.depth]; omega, by simpa only [PyData.bulk] using k5⟩
theorem Rb.rp {k b : Nat} {d : PyData} (h : Rb k b d) (hk : k ≤ 50) (hb : b ≤ 2000) : Rp d := by
  obtain ⟨h1, h2, h3, h4, h5⟩ := h
  refine ⟨h1, .inl h2, ?_, by omega⟩
  have := PyData.shown_le_bulk 2000 (by decide) d h3
  rw [sizeLine_eq]
  omega
theorem Rb.fr {q : Rat} (h : Sz 1900 q) : Rb 1 2 (fr q) := by
  obtain ⟨h1, h2, h3, h4, h5⟩ := Rp0.fr h
  exact ⟨h1, h2, h3, h4, h5⟩
theorem Rb.int {i : Int} (h : Lt2 i 1900) : Rb 1 2 (.int i) := by
  obtain ⟨h1, h2, h3, h4, h5⟩ := Rp0.int h
  exact ⟨h1, h2, h3, h4, h5⟩
theorem rbs_frs : ∀ {p : List Rat}, Pz 1900 p → Rbs 1 2 (p.map Vw.fr)
  | [], _ => True.intro
  | c :: p, h => by
    obtain ⟨h1, h2⟩ := pz_cons.mp h
    exact ⟨Rb.fr h1, rbs_frs h2⟩
theorem Rb.pol {p : List Rat} (h : Pz 1900 p) (hl : p.length ≤ 16) : Rb 2 48 (pol p) := by
  refine (rbs_frs h).tup.mono (Nat.le_refl _) ?_
  rw [List.length_map]
  omega
/-- a list of few such -/
theorem Rbs.rp {ds : List PyData} (h : Rbs 2 48 ds) (hl : Nat.ble ds.length 30 = true) : Rp (.list ds) := by
  refine h.list.rp (by decide) ?_
  have := Nat.le_of_ble_eq_true hl
  omega
end Vw

namespace Vw
open PySem PySem.Spec L2
/-! the greatest one of three numbers -/
def gr2 (i j : Int) : Int := if i < j then j else i
theorem num_max2 (i j : Int) : nuMax2 (.int i) (.int j) = some (.int (gr2 i j)) := by
  show (some (decide (i < j))).map _ = _
  unfold gr2
  by_cases h : i < j
  · simp [h]
  · simp [h]
section
variable {X : Cx} {B : Bs} {ρ : Rho} {Φ : PyData → Prop} {P0 : Program} {w : World} {K : PySem.W.Frag} {mg : Str → Option Value} {base : Heap} {N : List Str} {a b c : Expr} {p pos : Pos}
theorem cd_max3 {i j l : Int} (h : Φ (.int (gr2 (gr2 i j) l))) : CallD B ρ (rNuC3 nuMax3) [.dat (.int i), .dat (.int j), .dat (.int l)] Φ := fun σ H vs Q E d k => by
  obtain ⟨v1, r1, rfl, h1, d2⟩ := d
  obtain ⟨v2, r2, rfl, h2, d3⟩ := d2
  obtain ⟨v3, rfl, h3⟩ := sl1 d3
  rw [sdi h1, sdi h2, sdi h3]
  refine ⟨_, _, _, .int (gr2 (gr2 i j) l), rfl, ?_, k _ H _ Ext.refl E (Dn.int.mpr rfl) h⟩
  show (nuMax2 (.int i) (.int j)).bind _ = _
  rw [num_max2]
  exact num_max2 _ _
theorem ev_max3 (S : Same X P0 w K mg base N) (hm : mg "max" = none) (hg : Gl X "max") (h : EvE X B ρ a fun x => EvE X B ρ b fun y => EvE X B ρ c fun z => ∃ i j l : Int, x = .int i ∧ y = .int j ∧ z = .int l ∧ Φ (.int (gr2 (gr2 i j) l)))
    (he : starEach [a, b, c] X.env = (false, eval a X.env) :: starEach [b, c] X.env := by rfl) (he2 : starEach [b, c] X.env = (false, eval b X.env) :: starEach [c] X.env := by rfl) (he3 : starEach [c] X.env = (false, eval c X.env) :: starEach [] X.env := by rfl) (hpl : (backTo pos (starEach [b, c] X.env)).any (·.1) = false := by rfl) : EvE X B ρ (.Call (.Name "max" p) [a, b, c] [] pos) Φ :=
  ev_callB (call_max3Nu S.c) hg (by rw [S.m]; exact hm) (by decide +kernel) (ea_cons (ev_mono h fun d h1 => ea_cons (ev_mono h1 fun f h2 => ea_cons (ev_mono h2 fun g ⟨i, j, l, e1, e2, e3, h3⟩ => by subst e1 e2 e3; exact ea_nil (cd_max3 h3)) he3) he2) he) (by decide) (by decide) he hpl
end
section
variable {X : Cx} {scope : Scope} {vs : List Nat} {es : List Expr} {pos : Pos}
/-- a, b out of a list of two -/
theorem egc_lst {k n : Nat} {U : List PyData → Rho → (Rho → Prop) → Prop} (hc : X.calm = true) (h : EvGcs X scope es vs U) (hn : ∀ (s : Shared) (H : Hp) (C : Addr) (cl : List (Str × Addr)) (fp : List Addr), (assignEach es (X.blk s H scope (compEnvC scope cl C X.env) fp).env).length = n := by intro s H C cl fp; rfl)
    (hst : ∀ (s : Shared) (H : Hp) (C : Addr) (cl : List (Str × Addr)) (fp : List Addr), (assignEach es (X.blk s H scope (compEnvC scope cl C X.env) fp).env).findIdx? (·.1) = none := by intro s H C cl fp; rfl) : EvGc X scope (.Tuple es k pos) vs fun d ρ C => ∃ ds, d = .list ds ∧ ds.length = n ∧ U ds ρ C := by
  obtain ⟨g, p1, q1⟩ := h
  refine ⟨gLst X.K n g, fun s H C cl fp => pg_lst hc (p1 s H C cl fp) (hn s H C cl fp) (hst s H C cl fp), fun B d ρ C v σ H Q ⟨ds, e1, hl, hu⟩ E hd k => ?_⟩
  subst e1
  obtain ⟨a, xs, rfl, ha, na, hds⟩ := Dn.list.mp hd
  exact ⟨a, xs, rfl, SqL.of ha, hds.length.symm.trans hl, q1 B ds ρ C xs σ H Q hu E hds k⟩
end
/-! rows that go side by side -/
def Side {β : Type} (R : Rat → β → Prop) (xs : List Rat) (vs : List β) : Prop := ∀ (i : Nat) (x : Rat) (v : β), xs[i]? = some x → vs[i]? = some v → R x v
theorem Side.nil {β : Type} {R : Rat → β → Prop} {xs : List Rat} : Side R xs [] := fun i x v _ h => by simp at h
theorem Side.snoc {β : Type} {R : Rat → β → Prop} {xs : List Rat} {vs : List β} {x : Rat} {v : β} (h : Side R xs vs) (hx : xs[vs.length]? = some x) (hr : R x v) : Side R xs (vs ++ [v]) := fun i y w hy hw => by
  rcases Nat.lt_trichotomy i vs.length with l | l | l
  · rw [List.getElem?_append_left l] at hw
    exact h i y w hy hw
  · subst l
    rw [hx] at hy
    rw [List.getElem?_append_right (Nat.le_refl _), Nat.sub_self] at hw
    cases hy; cases hw
    exact hr
  · rw [List.getElem?_eq_none (by simp; omega)] at hw
    cases hw
theorem Side.map {β γ : Type} {R : Rat → β → Prop} {R' : Rat → γ → Prop} {f : β → γ} {xs : List Rat} {vs : List β} (h : Side R xs vs) (hf : ∀ x v, R x v → R' x (f v)) : Side R' xs (vs.map f) := fun i x v hx hv => by
  rw [List.getElem?_map] at hv
  cases e : vs[i]? with
  | none => rw [e] at hv; cases hv
  | some u => rw [e] at hv; cases hv; exact hf x u (h i x u hx e)
end Vw

namespace Vw
open PySem PySem.Spec L2
section
variable {X : Cx} {B : Bs} {ρ : Rho} {e a b c : Expr} {p p1 p2 p3 pos : Pos} {Φ : PyData → Prop} {Ψ : Bool → Prop} {P0 : Program} {w : World} {K : PySem.W.Frag} {mg : Str → Option Value} {base : Heap} {N : List Str}
/-! ### small dicts -/
theorem ev_dict0 (h : Φ (.dict [])) : EvE X B ρ (.Dict [] [] pos) Φ := pe_imp pe_dnewK fun σ H Q ⟨E, k⟩ => fun p hp =>
  k (.ref p) _ (.dict []) (Ext.new hp) (E.new hp) (Dn.dictK ⟨p, [], rfl, upd_same, E.nx hp, DnKv.nil.mpr rfl⟩) h
theorem kV_of {B : Bs} {xo : Addr → Prop} {H : Hp} {key : Key} {v : V} (h : Dn xo H (kD key) v) : v = kV key := by
  cases key with
  | inl i => exact Dn.int.mp h
  | inr x => exact Dn.str.mp h
theorem ev_dict1 (h : ∀ B' : Bs, EvE X B' ρ a fun x => EvE X B' ρ b fun d => ∃ key, x = kD key ∧ Φ (.dict [(x, d)])) : EvE X B ρ (.Dict [some a] [b] pos) Φ :=
  pe_imp (pe_disp (pps_cons pe_s pe_s pps_nil) rfl rfl (fun z => nomatch z) (Nat.le_of_ble_eq_true rfl)) fun σ H Q ⟨E, k⟩ => fun p hp => by
    have E1 : En (B.add p) ρ σ (upd H p (.dK [])) := E.add hp
    refine ⟨_, h (B.add p), E1, fun v H1 x x1 E2 hx hb => ⟨_, hb, E2, fun u H2 d x2 E3 hd ⟨key, ek, hΦ⟩ => ?_⟩⟩
    have x12 : Ext (B.add p) (upd H p (.dK [])) H2 := x1.trans x2
    have npS : ¬ (B.add p).S p := fun ⟨a, b, c, e, z⟩ => by
      have := E.ok.live p (E.ok.sx ⟨a, b, c, e, z⟩)
      exact this hp
    have hp2 : H2 p = some (.dK []) := x12 p _ upd_same npS
    subst ek
    have ev : v = kV key := kV_of (B := B) hx
    refine ⟨hp2, [(key, u)], by simp [ev], by simp, ?_⟩
    have hs : ∀ a b c, (B.add p).src = some (a, b, c) → a ≠ p ∧ b ≠ p ∧ c ≠ p := fun a b c e => by
      have e' : B.src = some (a, b, c) := e
      obtain ⟨_, h1, h2, h3⟩ := E.ok.sr a b c e'
      exact ⟨fun z => E.ok.live a h1 (z ▸ hp), fun z => E.ok.live b h2 (z ▸ hp), fun z => E.ok.live c h3 (z ▸ hp)⟩
    have E4 : En (B.add p) ρ σ (upd H2 p (.dK [(key, u)])) := E3.poke (.inr rfl) hs
    have ok : B.Ok (upd H2 p (.dK [(key, u)])) := ⟨fun y hy => E4.ok.live y (.inl hy), fun a b c e => by
      obtain ⟨h0, h1, h2, h3⟩ := E4.ok.sr a b c e
      obtain ⟨_, g1, g2, g3⟩ := E.ok.sr a b c e
      exact ⟨h0, g1, g2, g3⟩⟩
    have xx : Ext B H (upd H2 p (.dK [(key, u)])) := fun y o e n => by
      have ny : y ≠ p := ne_of_none e hp
      rw [upd_ne ny]
      exact x12 y o (by rw [upd_ne ny]; exact e) n
    have em : mergeK [] [(key, u)] = [(key, u)] := by simp [mergeK, putK]
    show Q (.ref p) (upd H2 p (.dK (mergeK [] [(key, u)])))
    rw [em]
    refine k (.ref p) _ (.dict [(kD key, d)]) xx (E4.unadd ok) (Dn.dictK ⟨p, _, rfl, upd_same, E.nx hp, DnKv.cons.mpr ⟨key, u, [], rfl, rfl, ?_, DnKv.nil.mpr rfl⟩⟩) hΦ
    refine Dn.mono (fun y z => .inl (z.imp .inl id)) (fun y o e n => ?_) d u hd
    rw [upd_ne (show y ≠ p from fun z => n (.inl (.inr z)))]
    exact e
/-! ### any, all, sum -/
theorem datInts {xo : Addr → Prop} {H : Hp} {ns : List Int} {v : V} (h : Dn xo H (.list (ns.map PyData.int)) v) : ∃ p, v = .ref p ∧ H p = some (.lst (ns.map V.int)) := by
  obtain ⟨p, xs, rfl, hp, _, hd⟩ := Dn.list.mp h
  exact ⟨p, rfl, by rw [← ints_of hd]; exact hp⟩
theorem bools_of {ex : Addr → Prop} {H : Hp} : ∀ {ns : List Bool} {vs : List V}, DnAll ex H (ns.map PyData.bool) vs → vs = ns.map V.bl
  | [], vs, h => DnAll.nil.mp h
  | n :: ns, vs, h => by
    obtain ⟨v, r, rfl, h1, h2⟩ := DnAll.cons.mp h
    rw [Dn.bool.mp h1, bools_of h2]
    rfl
theorem cd_sum {ns : List Int} (h : Φ (.int ns.sum)) : CallD B ρ (rSum X.K) [.dat (.list (ns.map PyData.int))] Φ := fun σ H vs Q E hs k => by
  obtain ⟨v, rfl, h1⟩ := sl1 hs
  obtain ⟨q, rfl, hq⟩ := datInts h1
  exact ⟨q, ns, rfl, SqL.of hq, k _ H _ Ext.refl E (Dn.int.mpr rfl) h⟩
theorem cd_anyB {bs : List Bool} (h : Φ (.bool (bs.any id))) : CallD B ρ (rAny X.K) [.dat (.list (bs.map PyData.bool))] Φ := fun σ H vs Q E hs k => by
  obtain ⟨v, rfl, h1⟩ := sl1 hs
  obtain ⟨q, xs, rfl, hq, _, hd⟩ := Dn.list.mp h1
  exact ⟨q, bs, rfl, SqL.of (by rw [← bools_of hd]; exact hq), k _ H _ Ext.refl E (Dn.bool.mpr rfl) h⟩
theorem cd_allB {bs : List Bool} (h : Φ (.bool (bs.all id))) : CallD B ρ (rAll X.K) [.dat (.list (bs.map PyData.bool))] Φ := fun σ H vs Q E hs k => by
  obtain ⟨v, rfl, h1⟩ := sl1 hs
  obtain ⟨q, xs, rfl, hq, _, hd⟩ := Dn.list.mp h1
  exact ⟨q, bs, rfl, SqL.of (by rw [← bools_of hd]; exact hq), k _ H _ Ext.refl E (Dn.bool.mpr rfl) h⟩
theorem ev_sum (S : Same X P0 w K mg base N) (hm : mg "sum" = none) (hg : Gl X "sum") (h : EvE X B ρ a fun x => ∃ ns : List Int, x = .list (ns.map PyData.int) ∧ Φ (.int ns.sum))
    (he : starEach [a] X.env = (false, eval a X.env) :: starEach [] X.env := by rfl) (hpl : (backTo pos (starEach [] X.env)).any (·.1) = false := by rfl) : EvE X B ρ (.Call (.Name "sum" p) [a] [] pos) Φ :=
  ev_callB (cr_sum S.c) hg (by rw [S.m]; exact hm) (by decide +kernel) (ea_cons (ev_mono h fun d ⟨ns, e1, h2⟩ => by subst e1; exact ea_nil (cd_sum h2)) he) (by decide) (by decide) he hpl
theorem ev_any (S : Same X P0 w K mg base N) (hm : mg "any" = none) (hg : Gl X "any") (h : EvE X B ρ a fun x => ∃ bs : List Bool, x = .list (bs.map PyData.bool) ∧ Φ (.bool (bs.any id)))
    (he : starEach [a] X.env = (false, eval a X.env) :: starEach [] X.env := by rfl) (hpl : (backTo pos (starEach [] X.env)).any (·.1) = false := by rfl) : EvE X B ρ (.Call (.Name "any" p) [a] [] pos) Φ :=
  ev_callB (cr_any S.c) hg (by rw [S.m]; exact hm) (by decide +kernel) (ea_cons (ev_mono h fun d ⟨ns, e1, h2⟩ => by subst e1; exact ea_nil (cd_anyB h2)) he) (by decide) (by decide) he hpl
theorem ev_all (S : Same X P0 w K mg base N) (hm : mg "all" = none) (hg : Gl X "all") (h : EvE X B ρ a fun x => ∃ bs : List Bool, x = .list (bs.map PyData.bool) ∧ Φ (.bool (bs.all id)))
    (he : starEach [a] X.env = (false, eval a X.env) :: starEach [] X.env := by rfl) (hpl : (backTo pos (starEach [] X.env)).any (·.1) = false := by rfl) : EvE X B ρ (.Call (.Name "all" p) [a] [] pos) Φ :=
  ev_callB (cr_all S.c) hg (by rw [S.m]; exact hm) (by decide +kernel) (ea_cons (ev_mono h fun d ⟨ns, e1, h2⟩ => by subst e1; exact ea_nil (cd_allB h2)) he) (by decide) (by decide) he hpl
/-! ### int of a bool, str of an int -/
theorem cd_intB {b : Bool} (h : Φ (.int (if b then 1 else 0))) : CallD B ρ (fun xs H Q => (∃ i, xs = [V.int i] ∧ Q (.int i) H) ∨ ∃ k, xs = [V.bl k] ∧ Q (.int (if k then 1 else 0)) H) [.dat (.bool b)] Φ := fun σ H vs Q E hs k => by
  obtain ⟨v, rfl, h1⟩ := sl1 hs
  have e : v = .bl b := (Dn.bool (ex := exO B ρ σ) (H := H)).mp h1
  subst e
  exact .inr ⟨b, rfl, k _ H _ Ext.refl E (Dn.int.mpr rfl) h⟩
theorem ev_tointB (S : Same X P0 w K mg base N) (T : Txt mg) (hg : Gl X "int") (h : EvE X B ρ a fun x => ∃ c : Bool, x = .bool c ∧ Φ (.int (if c then 1 else 0)))
    (he : starEach [a] X.env = (false, eval a X.env) :: starEach [] X.env := by rfl) (hpl : (backTo pos (starEach [] X.env)).any (·.1) = false := by rfl) : EvE X B ρ (.Call (.Name "int" p) [a] [] pos) Φ :=
  ev_callTy call_int1 hg (by rw [S.m]; exact T.int) (by decide +kernel) (ea_cons (ev_mono h fun d ⟨i, e1, h2⟩ => by subst e1; exact ea_nil (cd_intB h2)) he) (by decide) (by decide) he hpl
theorem ev_strI (S : Same X P0 w K mg base N) (hm : mg "str" = none) (hg : Gl X "str") (h : EvE X B ρ a fun x => ∃ i : Int, x = .int i ∧ i.natAbs.log2 < 1920 ∧ Φ (.str (toString i)))
    (he : starEach [a] X.env = (false, eval a X.env) :: starEach [] X.env := by rfl) (hpl : (backTo pos (starEach [] X.env)).any (·.1) = false := by rfl) : EvE X B ρ (.Call (.Name "str" p) [a] [] pos) Φ :=
  ev_callTy call_str_int hg (by rw [S.m]; exact hm) (by decide +kernel) (ea_cons (ev_mono h fun d ⟨i, e1, hz, h2⟩ => by
    subst e1
    exact ea_nil fun σ H vs Q E hs k => by
      obtain ⟨v, rfl, h1⟩ := sl1 hs
      rw [sdi h1]
      exact ⟨i, rfl, hz, k _ H _ Ext.refl E (Dn.str.mpr rfl) h2⟩) he) (by decide) (by decide) he hpl
/-! ### x in t, flat data -/
def flat1 : PyData → Option V
  | .none => some .non
  | .bool b => some (.bl b)
  | .int i => some (.int i)
  | .str x => some (.str x)
  | _ => none
theorem flat1_of {ex : Addr → Prop} {H : Hp} {d : PyData} {u v : V} (h : Dn ex H d v) (e : flat1 d = some u) : v = u ∧ flatV v = true := by
  cases d with
  | none => cases e; exact ⟨Dn.none.mp h, by rw [Dn.none.mp h]; rfl⟩
  | bool b => cases e; exact ⟨Dn.bool.mp h, by rw [Dn.bool.mp h]; rfl⟩
  | int b => cases e; exact ⟨Dn.int.mp h, by rw [Dn.int.mp h]; rfl⟩
  | str b => cases e; exact ⟨Dn.str.mp h, by rw [Dn.str.mp h]; rfl⟩
  | list _ => cases e
  | tuple _ => cases e
  | dict _ => cases e
def flat1s : List PyData → Option (List V)
  | [] => some []
  | d :: r => match flat1 d, flat1s r with
    | some v, some vs => some (v :: vs)
    | _, _ => none
theorem flat1s_of {ex : Addr → Prop} {H : Hp} : ∀ {ds : List PyData} {vs us : List V}, DnAll ex H ds vs → flat1s ds = some us → vs = us ∧ vs.all flatV = true
  | [], vs, us, h, e => by cases e; rw [DnAll.nil.mp h]; exact ⟨rfl, rfl⟩
  | d :: r, vs, us, h, e => by
    obtain ⟨v, s, rfl, h1, h2⟩ := DnAll.cons.mp h
    unfold flat1s at e
    split at e
    · rename_i u vs' e1 e2
      cases e
      obtain ⟨a1, a2⟩ := flat1_of h1 e1
      obtain ⟨b1, b2⟩ := flat1s_of h2 e2
      exact ⟨by rw [a1, b1], by rw [List.all_cons, a2, b2]; rfl⟩
    · cases e
theorem od_in {x : PyData} {ds : List PyData} {u : V} {us : List V} (hx : flat1 x = some u) (hs : flat1s ds = some us) (h : Φ (.bool (inV u us))) : OpD B ρ (rIn X.K false) x (.tuple ds) Φ := fun σ H v z Q E d1 d2 k => by
  obtain ⟨q, xs, rfl, hq, _, hd⟩ := Dn.tuple.mp d2
  obtain ⟨e1, f1⟩ := flat1_of d1 hx
  obtain ⟨e2, f2⟩ := flat1s_of hd hs
  refine ⟨q, xs, rfl, .inr (SqT.of hq), f1, f2, k _ H _ Ext.refl E (Dn.bool.mpr rfl) ?_⟩
  subst e1 e2
  exact h
end
end Vw

namespace Vw
open PySem PySem.Spec L2
section
variable {X : Cx} {scope : Scope} {B : Bs} {ρ : Rho} {vs : List Nat} {elt iter tg e : Expr} {pos : Pos} {own : List (Str × Nat)} {Ξ : List PyData → Prop} {T : PyData → Rho → (Rho → Prop) → Prop} {G : L2.St → Hp → Prop} {P : Po} {st : Stmt} {sts : List Stmt}
/-- x = [elt for tg in iter], iter what a raw reading tells -/
theorem es_lcG {t : TE} {ds : List PyData} (i : Nat) (vs : List Nat) {y : Str} {py spos : Pos} (hc : X.calm = true) (hN : X.N.Nodup) (hy : X.N[i]? = some y) (hyl : X.env.scope.names.lookup y = some .local) (hv : own.map (·.2) = vs) (hg : EvGc X scope tg vs T) (ok : BlkOk X.N X.env.scope scope own) (hit : PE X iter t)
    (ht : ∀ σ H Q, En B ρ σ H → G σ H → (∀ v H1, Ext B H H1 → En B ρ σ H1 → Dn (exO B ρ σ) H1 (.list ds) v → Q v H1) → t σ H Q)
    (h : CompD X scope B ρ vs elt T ds.length (fun k y => ds[k]? = some y) (fun ds => P.nx (ρ.set i (some (.own ds))))) (hs : ∀ x, foldedSetIterable iter X.env x = pure x := by intro _; rfl)
    (hsw : swapsWith (.ListComp elt [⟨tg, iter, [], 0⟩] scope pos) (some (.Name y py)) spos.line X.env = pure true := by rfl) :
    PS X (.Assign [.Name y py] (.ListComp elt [⟨tg, iter, [], 0⟩] scope pos) spos) (fun D σ H => G σ H ∧ tS B ρ P D σ H) := by
  subst hv
  obtain ⟨g, p1, q1⟩ := hg
  have hit' : PE X iter (fun σ H Q => G σ H ∧ tE B ρ (fun d => d = .list ds) σ H Q) := pe_imp hit fun σ H Q ⟨hG, E, k⟩ => ht σ H Q E hG fun v H1 x1 E1 hd => k v H1 _ x1 E1 hd rfl
  refine ps_imp (ps_setLc hc hN hy hyl hsw (pi_list hit') ok p1 (fun _ _ _ _ _ => pts_nil) pe_sc hs) fun D σ H ⟨hG, q⟩ => ⟨hG, q.1, fun v H1 d x1 E1 hd ed => ?_⟩
  subst ed
  have E := q.1
  obtain ⟨J, j0, jt, jd⟩ := h
  obtain ⟨a, xs, rfl, ha, na, hds⟩ := Dn.list.mp hd
  refine ⟨a, rfl, ⟨xs, SqL.of ha⟩, fun Dl hD => lc_list (K := X.K) (a := a) (xs := xs) (CompP B ρ σ H1 Dl J) (comp_start E1 hD j0) (fun i H' _ ⟨_, _, _, _, _, _, x, _⟩ => SqL.of (x a _ ha fun z => na (.inl (E1.ok.sx z)))) ?_ ?_⟩
  · intro i y H' hy p
    obtain ⟨d, hdi, hdn⟩ := hds.get' hy
    have hlt : i < ds.length := (List.getElem?_eq_some_iff.mp hdi).1
    obtain ⟨_, _, _, _, _, E', x, _⟩ := id p
    exact comp_turn E1 hD q1 (fun acc B' hB hj => jt i d acc B' hB hlt hdi hj) p (Dn.mono (fun z h => exAdd hD z h) (fun z o e n => x z o e fun h => n (.inl (E1.ok.sx h))) d y hdn)
  · intro H' p
    rw [← hds.length] at p
    exact comp_end (Ξ := fun ds => P.nx (ρ.set i (some (.own ds)))) (Q := fun v H' => D.nx (σ.set i (some v)) H') (fun p H' ds vs x nh ok E hp np hd hr => q.2.1 _ _ H' (XS.own x nh) (E.setOwn ok hp np hd) hr) E1 hD x1 jd p
theorem eb_consG (h : PS X st (fun D σ H => G σ H ∧ tS B ρ { P with nx := fun ρ' => EvB X B ρ' sts P } D σ H)) : PSs X (st :: sts) (fun D σ H => G σ H ∧ tS B ρ P D σ H) :=
  pss_imp (pss_cons h pss_s) fun D σ H ⟨hG, q⟩ => ⟨hG, q.1, fun ρ' σ' H' x E hb => ⟨_, hb, tS_step q x E⟩, q.2.2⟩
end
end Vw

namespace Vw
open PySem PySem.Spec L2
section
variable {X : Cx} {B : Bs} {ρ : Rho} {e a b : Expr} {es : List Expr} {x : Str} {p pos p2 : Pos} {Φ : PyData → Prop} {P : Po} {body : List Stmt}
/-- for .. in zip(t, u), tuples -/
theorem es_zipT {tgs : List Expr} {kk : Nat} {T : PyData → Rho → (Rho → Prop) → Prop} (hp : PassesOwn (model X.prog X.w) X.A X.env X.xe) (hc : X.calm = true) (hgl : Gl X "zip") (hm : X.mg "zip" = none) (hg : EvG X B (.Tuple tgs kk p2) T)
    (h : EvE X B ρ a fun d => EvE X B ρ b fun f => ∃ ds es, d = .tuple ds ∧ f = .tuple es ∧ LoopD X B ρ body P T (min ds.length es.length) fun k y => ∃ z w, ds[k]? = some z ∧ es[k]? = some w ∧ y = .tuple [z, w])
    (hs2 : starEach [a, b] X.env = (false, eval a X.env) :: starEach [b] X.env := by rfl) (hs1 : starEach [b] X.env = (false, eval b X.env) :: starEach [] X.env := by rfl) {p3 : Pos} (hpl : (backTo p3 (starEach [b] X.env)).any (·.1) = false := by rfl)
    (hs : ∀ x, foldedSetIterable (.Call (.Name "zip" p) [a, b] [] p3) X.env x = pure x := by intro _; rfl) : EvS X B ρ (.For (.Tuple tgs kk p2) (.Call (.Name "zip" p) [a, b] [] p3) body [] pos) P := by
  obtain ⟨g, p1, q1⟩ := hg
  refine ps_imp (ps_for hp hc (RZ.pi_zipA hgl hm (pa_cons h (pa_cons pe_s pa_nil hs1) hs2) hs2 hpl) p1 (pss_s (st := body)) hs) fun D σ H q => ⟨q.1, fun v H1 d x1 E1 hd hb => ⟨_, hb, E1, fun v2 H2 f x2 E2 hf ⟨ds, es, ed, ef, W, w0, wt, wd⟩ => ?_⟩⟩
  subst ed
  subst ef
  obtain ⟨a, xs, rfl, ha, na, hds⟩ := Dn.tuple.mp (E1.dn x2 hd)
  obtain ⟨c, ys, rfl, hcc, nc, hes⟩ := Dn.tuple.mp hf
  have hl := hds.length
  have hl2 := hes.length
  refine ⟨a, c, xs, ys, rfl, .inr ⟨SqT.of ha, SqT.of hcc, fun i m σ' H' => m = min xs.length ys.length - i ∧ i ≤ min xs.length ys.length ∧ ∃ ρ', En B ρ' σ' H' ∧ XS B ρ σ H2 ρ' σ' H' ∧ W i ρ', ⟨_, rfl, Nat.zero_le _, ρ, E2, XS.of_ext Ext.refl, w0⟩, ?_⟩⟩
  rintro i m σ' H' ⟨rfl, hi, ρ', E', x', w'⟩
  have hq : SqT X.K H' a xs := SqT.of (x'.1 a _ ha (fun z => na (.inl (E2.ok.sx z))) fun z => na (.inr z))
  have hq2 : SqT X.K H' c ys := SqT.of (x'.1 c _ hcc (fun z => nc (.inl (E2.ok.sx z))) fun z => nc (.inr z))
  by_cases hlt : i < min xs.length ys.length
  · have l1 : i < xs.length := by omega
    have l2 : i < ys.length := by omega
    have hx : xs[i]? = some xs[i] := List.getElem?_eq_getElem l1
    have hy : ys[i]? = some ys[i] := List.getElem?_eq_getElem l2
    obtain ⟨d, hdi, hdn⟩ := hds.get' hx
    obtain ⟨f, hfi, hfn⟩ := hes.get' hy
    refine .inr ⟨⟨xs, ys, _, _, hq, hq2, hx, hy⟩, fun σ2 H2' => ∃ ρ2, En B ρ2 σ2 H2' ∧ XS B ρ σ H2 ρ2 σ2 H2' ∧ W (i + 1) ρ2, fun σ2 H2 hn => ⟨min xs.length ys.length - (i + 1), by omega, rfl, hlt, hn⟩, fun y H3 ⟨t, u, w, ey, ht, eH, hu, hw⟩ => ?_⟩
    subst ey
    subst eH
    have e3 := hu xs hq
    rw [hx] at e3; cases e3
    have e4 := hw ys hq2
    rw [hy] at e4; cases e4
    have mv : ∀ d v, Dn (exO B ρ σ) H2 d v → Dn (exO B ρ' σ') H' d v := fun d v hdn => Dn.mono (fun y z => z.elim (fun z => .inl (.inl z)) fun z => (x'.2 y z).imp .inr id) (fun y o e n => x'.1 y o e (fun z => n (.inl (E2.ok.sx z))) fun z => n (.inr z)) d _ hdn
    have E3 := E'.new (o := .tup [xs[i], ys[i]]) ht
    refine turn_of (tg := .Tuple tgs kk p2) q1 (tS_ext q (x1.trans x2) E2) (x'.trans E'.ok (XS.of_ext (Ext.new ht))) E3 (d := .tuple [d, f]) (Dn.tuple.mpr ⟨t, _, rfl, upd_same, E'.nx ht, ?_⟩) (wt i _ ρ' (by rw [hl, hl2]; exact hlt) ⟨d, f, hdi, hfi, rfl⟩ w') (H1 := H')
    exact DnAll.cons.mpr ⟨_, _, rfl, E'.dn (Ext.new ht) (mv _ _ hdn), DnAll.cons.mpr ⟨_, _, rfl, E'.dn (Ext.new ht) (mv _ _ hfn), DnAll.nil.mpr rfl⟩⟩
  · have ei : i = min xs.length ys.length := by omega
    refine .inl ⟨⟨xs, ys, hq, hq2, by omega⟩, ?_⟩
    rw [ei, ← hl, ← hl2] at w'
    exact q.2.1 ρ' σ' H' (((XS.of_ext x1).trans E1.ok (XS.of_ext x2)).trans E2.ok x') E' (wd ρ' w')
end
end Vw

namespace Vw
open PySem PySem.Spec L2
section
variable {X : Cx} {B : Bs} {ρ : Rho} {a b : Expr} {pos : Pos} {P0 : Po} {P : Program} {w : World} {K : PySem.W.Frag} {mg : Str → Option Value} {base : Heap} {N : List Str}
theorem ps_par2 {ta : TA} (i j : Nat) {x y : Str} {px py pt : Pos} {kt k2 : Nat} {pt2 : Pos} (hc : X.calm = true) (hN : X.N.Nodup) (hi : X.N[i]? = some x) (hj : X.N[j]? = some y) (hx : X.env.scope.names.lookup x = some .local)
    (hy : X.env.scope.names.lookup y = some .local) (h : PA X [a, b] ta)
    (hw : swappedStores [.Tuple [.Name x px, .Name y py] kt pt] (.Tuple [a, b] k2 pt2) X.env = pure (some [x, y]) := by rfl)
    (hs : swapsWithSole [.Tuple [.Name x px, .Name y py] kt pt] (.Tuple [a, b] k2 pt2) pos.line X.env = pure false := by rfl) :
    PS X (.Assign [.Tuple [.Name x px, .Name y py] kt pt] (.Tuple [a, b] k2 pt2) pos) (fun D σ H => ta σ H fun vs H1 => ∃ v u, vs = [v, u] ∧ D.nx ((σ.set j (some u)).set i (some v)) H1) := by
  refine ⟨fun pins s σ H D I q => ?_⟩
  rw [exec_Assign_arm]
  refine wpAny_bind (wpAny_standAt ?_)
  rw [hs]
  refine wpAny_bind (wpAny_pure ?_)
  rw [if_neg (by decide)]
  refine wpAny_bind (PyProof.Rows.Tuple_ (thn (h.run _ pins s σ H _ I q) fun us s1 ⟨vs, H1, I1, rv, v, u, e, hn⟩ => ?_))
  subst e
  have lu : us.length = 2 := by rw [← rv.length]; rfl
  refine wpAny_newObj_type ?_ (by show us.length ≤ sizeLine; rw [lu]; decide)
  have I2 : Inv X pins σ H1 { s1 with heap := s1.heap.push { cls := .type "tuple", data := .seq us.toArray } } := I1.kept (t' := s1.toks) fun b o e => Heap.get?_push_of_some _ e
  rw [hw]
  refine wpAny_bind (wpAny_pure ?_)
  show wpAny (model X.prog X.w) X.A (do rule "assign.swapped-stores"; let items ← unpackItems (.ref s1.heap.objs.size) 2 none; assignInOrder ([x, y].reverse.map fun n => bindName X.env n) items.reverse; pure Flow.next) _ _ _
  refine wpAny_bind (wpAny_rule (wpAny_bind ?_))
  have eu : 2 = us.toArray.size := by simp [lu]
  rw [eu]
  refine PyProof.Rows.unpackItems_tuple (items := us.toArray) (I.ok.hd hc) (PyProof.Rows.IsTup.new s1.heap _) fun h' hx' => ?_
  have I3 := I2.kept (h' := h') (t' := s1.toks) fun b o e => hx' b o (Nat.ne_of_lt (Heap.lt_size e)) e
  refine wpAny_bind (thn (Q := fun _ s2 => SP X pins D .next s2) ?_ fun _ s2 q => wpAny_pure q)
  cases rv with
  | cons r1 rv =>
    cases rv with
    | cons r2 rv =>
      cases rv
      refine PyProof.Rows.assignInOrder_cons (wpAny_bindName (store_ok I3 hN hj (.inl hy) r2 (fun s3 I3 => ?_) (.inr hy)))
      refine PyProof.Rows.assignInOrder_cons (wpAny_bindName (store_ok I3 hN hi (.inl hx) r1 (fun s4 I4 => PyProof.Rows.assignInOrder_nil ?_) (.inr hx)))
      exact ⟨_, H1, I4, hn⟩
/-- x, y = a, b: b a fresh list that stays y's own -/
theorem es_p2F (S : Same X P w K mg base N) {i j : Nat} {x y : Str} {px py pt : Pos} {kt k2 : Nat} {pt2 : Pos} (hij : i ≠ j) (hi : At N i x) (hj : At N j y) (hx : X.env.scope.names.lookup x = some .local) (hy : X.env.scope.names.lookup y = some .local)
    (h : EvE X B ρ a fun d => EvF X B ρ b fun ds => P0.nx ((ρ.set j (some (.own ds))).set i (some (.dat d))))
    (hw : swappedStores [.Tuple [.Name x px, .Name y py] kt pt] (.Tuple [a, b] k2 pt2) X.env = pure (some [x, y]) := by rfl)
    (hs : swapsWithSole [.Tuple [.Name x px, .Name y py] kt pt] (.Tuple [a, b] k2 pt2) pos.line X.env = pure false := by rfl)
    (hs2 : starEach [a, b] X.env = (false, eval a X.env) :: starEach [b] X.env := by rfl) (hs1 : starEach [b] X.env = (false, eval b X.env) :: starEach [] X.env := by rfl) :
    EvS X B ρ (.Assign [.Tuple [.Name x px, .Name y py] kt pt] (.Tuple [a, b] k2 pt2) pos) P0 :=
  ps_imp (ps_par2 i j S.c S.nd (by rw [S.n]; exact hi.get) (by rw [S.n]; exact hj.get) hx hy (pa_cons h (pa_cons pe_s pa_nil hs1) hs2) hw hs) fun D σ H q => ⟨q.1, fun v H1 d x1 E1 hd hb => ⟨_, hb, E1, fun p H2 ds vs nx nh ok E2 hp np hd2 hΦ => ⟨v, .ref p, rfl, by
    have E3 := E2.setOwn (i := j) ok hp np hd2
    have h1 : SlOk B (exO B (ρ.set j (some (.own ds))) (σ.set j (some (.ref p)))) H2 (.dat d) v := Dn.mono (fun x z => by
      rcases z with z | z
      · exact .inl (.inl z)
      · rcases own_put z with z | z
        · exact .inl (.inr z)
        · exact .inr (z ▸ nh)) (fun x o e n => nx x o e fun z => n (.inl (E1.ok.sx z))) d v hd
    have E4 := E3.set (i := i) (fun ds z => by cases z) h1
    exact q.2.1 _ _ H2 ((((XS.of_ext x1).trans E1.ok (XS.own nx nh)).trans ok (XS.set fun ds z => by cases z))) E4 hΦ⟩⟩⟩
end
end Vw

namespace Vw
open PySem PySem.Spec L2
section
variable {X : Cx} {B : Bs} {ρ : Rho} {e a b : Expr} {pos : Pos} {Φ : PyData → Prop} {Ψ : Bool → Prop}
/-- texts put together -/
theorem od_addS {x y : Str} (hl : x.length + y.length ≤ sizeLine) (h : Φ (.str (x ++ y))) : OpD B ρ (fun u v H Q => ∃ i j, u = .str i ∧ v = .str j ∧ i.length + j.length ≤ sizeLine ∧ Q (.str (i ++ j)) H) (.str x) (.str y) Φ := fun σ H v u Q E d1 d2 k => by
  rw [Dn.str.mp d1, Dn.str.mp d2]
  exact ⟨x, y, rfl, rfl, hl, k _ H _ Ext.refl E (Dn.str.mpr rfl) h⟩
theorem ev_addS (h : EvE X B ρ a fun x => EvE X B ρ b fun y => ∃ s t, x = .str s ∧ y = .str t ∧ s.length + t.length ≤ sizeLine ∧ Φ (.str (s ++ t))) : EvE X B ρ (.BinOp a .Add b pos) Φ :=
  ev_op op_add_str (ev_mono h fun x hb => ev_mono hb fun y ⟨s, t, e1, e2, hl, hΦ⟩ => by subst e1 e2; exact od_addS hl hΦ)
/-- texts compared, alike -/
theorem ev_eqSame (h : EvE X B ρ a fun x => EvE X B ρ b fun y => ∃ s, x = .str s ∧ y = .str s ∧ Φ (.bool true)) : EvE X B ρ (.Compare a [.Eq] [b] pos) Φ :=
  ev_cmp op_eq (nomark _) (ev_mono h fun x hb => ev_mono hb fun y ⟨s, e1, e2, hΦ⟩ => by
    subst e1 e2
    exact od_eqS (by rw [decide_eq_true (Eq.refl _)]; exact hΦ))
theorem et_neSame (h : EvE X B ρ a fun x => EvE X B ρ b fun y => ∃ s, x = .str s ∧ y = .str s ∧ Ψ false) : EvT X B ρ (.Compare a [.NotEq] [b] pos) Ψ :=
  et_cmp op_ne (nomark _) (ev_mono h fun x hb => ev_mono hb fun y ⟨s, e1, e2, hΨ⟩ => by
    subst e1 e2
    exact od_neS ⟨false, by simp, hΨ⟩)
end
/-! ### what repr can show, with its length -/
theorem Rb.len {k b : Nat} {d : PyData} (h : Rb k b d) : d.shown.length ≤ 2002 * b + 2000 := by
  have := PyData.shown_le_bulk 2000 (by decide) d h.2.2.1
  have := Nat.mul_le_mul_left 2002 h.2.2.2.2
  omega
theorem Rb.rpL {k b : Nat} {d : PyData} (h : Rb k b d) (hk : k ≤ 50) (hb : b ≤ 8000) : Rp d := by
  have := h.len
  obtain ⟨h1, h2, h3, h4, h5⟩ := h
  refine ⟨h1, .inl h2, ?_, by omega⟩
  rw [sizeLine_eq]
  omega
theorem Rb.none' : Rb 0 0 .none := ⟨by simp [PyData.showable], by simp [PyData.hasDict], by simp [PyData.leavesShort], by simp [PyData.depth], by simp [PyData.bulk]⟩
theorem Rb.bool' (b : Bool) : Rb 0 0 (.bool b) := ⟨by simp [PyData.showable], by simp [PyData.hasDict], by simp [PyData.leavesShort], by simp [PyData.depth], by simp [PyData.bulk]⟩
theorem Rb.int' {i : Int} (h : Lt2 i 1900) : Rb 0 0 (.int i) := by
  obtain ⟨h1, h2⟩ := leaf h
  exact ⟨by simpa [PyData.showable] using h1, by simp [PyData.hasDict], by simpa [PyData.leavesShort] using h2, by simp [PyData.depth], by simp [PyData.bulk]⟩
theorem Rb.str' {x : Str} {n : Nat} (h : (x.cps.toList.all fun c => decide (c < 16 ^ 8)) = true) (hn : x.cps.size ≤ n) : Rb 0 n (.str x) :=
  ⟨by simp [PyData.showable], by simp [PyData.hasDict], by simpa only [PyData.leavesShort] using h, by simp [PyData.depth], by simpa only [PyData.bulk] using hn⟩
theorem Rbs.cons {k b : Nat} {d : PyData} {ds : List PyData} {k' b' : Nat} (h : Rb k' b' d) (hk : k' ≤ k) (hb : b' ≤ b) (r : Rbs k b ds) : Rbs k b (d :: ds) := ⟨h.mono hk hb, r⟩
theorem Rbs.nil {k b : Nat} : Rbs k b [] := True.intro
theorem Rbs.append {k b : Nat} : ∀ {ds es : List PyData}, Rbs k b ds → Rbs k b es → Rbs k b (ds ++ es)
  | [], _, _, h => h
  | d :: ds, es, ⟨h1, h2⟩, h => ⟨h1, Rbs.append h2 h⟩
theorem Rbs.of_all {k b : Nat} : ∀ {ds : List PyData}, (∀ d ∈ ds, Rb k b d) → Rbs k b ds
  | [], _ => True.intro
  | d :: ds, h => ⟨h d (List.mem_cons_self ..), Rbs.of_all fun e he => h e (List.mem_cons_of_mem _ he)⟩
theorem Rbs.all {k b : Nat} : ∀ {ds : List PyData}, Rbs k b ds → ∀ d ∈ ds, Rb k b d
  | [], _, d, h => nomatch h
  | d :: ds, ⟨h1, h2⟩, e, h => by
    rcases List.mem_cons.mp h with rfl | h
    · exact h1
    · exact Rbs.all h2 e h
end Vw

namespace Vw
open PySem PySem.Spec L2
section
variable {X : Cx} {B : Bs} {ρ : Rho} {a c : Expr} {pos : Pos} {P0 : Po} {P : Program} {w : World} {K : PySem.W.Frag} {mg : Str → Option Value} {base : Heap} {N : List Str}
/-- x = a if c else x, x a list under way, a a fresh list -/
theorem es_ifSelf (S : Same X P w K mg base N) {i : Nat} {x : Str} {ds : List PyData} {p p2 p3 : Pos} (hi : At N i x) (hr : ρ[i]? = some (some (.own ds))) (hx : Loc X.env.scope x) (hv : Vis X.env.scope x)
    (h : EvT X B (ρ.set i (some (.dat (.list ds)))) c fun z => (z = true → EvF X B (ρ.set i (some (.dat (.list ds)))) a fun es => P0.nx (ρ.set i (some (.own es)))) ∧ (z = false → P0.nx ρ))
    (hs : swapsWith (.IfExp c a (.Name x p) p2) (some (.Name x p3)) pos.line X.env = pure false := by rfl)
    (hf : X.fn x = true ∨ X.env.scope.names.lookup x = some .local := by first | exact .inl rfl | exact .inr rfl | assumption)
    (hd : (x == ("__debug__" : Str)) = false := by decide) (hcd : (x == ("__classdict__" : Str)) = false := by decide) : EvS X B ρ (.Assign [.Name x p3] (.IfExp c a (.Name x p) p2) pos) P0 :=
  ps_imp (ps_set S.nd (by rw [S.n]; exact hi.get) hx (pe_ifExp h pe_s (pe_var (by rw [S.n]; exact hi.get) hv hd hcd)) hs hf) fun D σ H q => by
    have E := q.1
    have E' := E.freeze hr
    have q' : tS B (ρ.set i (some (.dat (.list ds)))) P0 D σ H := by
      refine tS_step q ⟨fun _ _ e _ _ => e, fun x hx => .inl ?_⟩ E'
      obtain ⟨j, es, e1, e2⟩ := hx
      rcases getset e1 with ⟨_, e⟩ | ⟨_, e⟩
      · cases e
      · exact ⟨j, es, e, e2⟩
    refine ⟨E', fun z H1 e1 E1 h1 => ?_⟩
    cases z with
    | true =>
      rw [if_pos rfl]
      refine ⟨_, h1.1 rfl, E1, fun p H2 es vs nx nh ok E2 hp np hd hΦ => ?_⟩
      have E3 := E2.setOwn (i := i) ok hp np hd
      have X3 := (XS.of_ext (ρ := ρ.set i (some (.dat (.list ds)))) (σ := σ) e1).trans E1.ok (XS.own (ρ := ρ.set i (some (.dat (.list ds)))) (σ := σ) (i := i) (ds := es) nx nh)
      rw [List.set_set] at E3 X3
      exact q'.2.1 _ _ H2 X3 E3 hΦ
    | false =>
      rw [if_neg Bool.false_ne_true]
      obtain ⟨v, ev, _⟩ := E.sl i _ hr
      refine ⟨v, ev, ?_⟩
      have es : σ.set i (some v) = σ := by
        apply List.ext_getElem?
        intro j
        by_cases hj : i = j
        · subst hj
          rw [List.getElem?_set_self (List.getElem?_eq_some_iff.mp ev).1, ev]
        · rw [List.getElem?_set_ne hj]
      show D.nx (σ.set i (some v)) H1
      rw [es]
      exact q.2.1 ρ σ H1 (XS.of_ext e1) (E.ext e1 E1.ok) (h1.2 rfl)
end
end Vw

namespace Vw
open PySem PySem.Spec L2
section
variable {X : Cx} {B : Bs} {es : List Expr} {pos : Pos}
/-- a, b out of a list -/
theorem eg_lst {k n : Nat} {U : List PyData → Rho → (Rho → Prop) → Prop} (hc : X.calm = true) (h : EvGs X B es U) (hn : (assignEach es X.env).length = n := by rfl) (hst : (assignEach es X.env).findIdx? (·.1) = none := by rfl) :
    EvG X B (.Tuple es k pos) fun d ρ C => ∃ ds, d = .list ds ∧ ds.length = n ∧ U ds ρ C := by
  obtain ⟨g, p1, q1⟩ := h
  refine ⟨gLst X.K n g, pg_lst hc p1 hn hst, fun d ρ C v σ H Q ⟨ds, e1, hl, hu⟩ E hd k => ?_⟩
  subst e1
  obtain ⟨a, xs, rfl, ha, na, hds⟩ := Dn.list.mp hd
  exact ⟨a, xs, rfl, SqL.of ha, hds.length.symm.trans hl, q1 ds ρ C xs σ H Q hu E hds k⟩
end
end Vw

namespace Vw
open PySem PySem.Spec L2
section
variable {X : Cx} {scope : Scope} {B : Bs} {ρ : Rho} {vs : List Nat} {elt cnd : Expr} {T : PyData → Rho → (Rho → Prop) → Prop} {e a b : Expr} {pos p pos' p2 p3 : Pos} {own : List (Str × Nat)} {Ξ : List PyData → Prop} {elts : List Expr} {kk : Nat} {tpos : Pos} {P : Po} {body : List Stmt}
/-- for .. in range(a, b) -/
theorem es_range2 {tg : Expr} (hp : PassesOwn (model X.prog X.w) X.A X.env X.xe) (hc : X.calm = true) (hgl : Gl X "range") (hm : X.mg "range" = none) (hg : EvG X B tg T)
    (h : EvE X B ρ a fun d => EvE X B ρ b fun d2 => ∃ i j : Int, d = .int i ∧ d2 = .int j ∧ (-(2 ^ 62) ≤ i ∧ i < 2 ^ 62 ∧ -(2 ^ 62) ≤ j ∧ j < 2 ^ 62) ∧ LoopD X B ρ body P T (j - i).toNat fun m y => y = .int (i + (m : Nat)))
    (h2 : starEach [a, b] X.env = (false, eval a X.env) :: starEach [b] X.env := by rfl) (h1 : starEach [b] X.env = (false, eval b X.env) :: starEach [] X.env := by rfl)
    (hs : ∀ x, foldedSetIterable (.Call (.Name "range" p) [a, b] [] pos) X.env x = pure x := by intro _; rfl) : EvS X B ρ (.For tg (.Call (.Name "range" p) [a, b] [] pos) body [] pos') P := by
  obtain ⟨g, p1, q1⟩ := hg
  refine ps_imp (ps_for hp hc (pi_range2 hgl hm (pa_cons h (pa_cons pe_s pa_nil h1) h2) (by rw [h2, h1]; rfl) (by rw [h1]; rfl)) p1 (pss_s (st := body)) hs) fun D σ H q => ⟨q.1, fun v H1 d x1 E1 hd hb => ⟨_, hb, E1, fun v2 H2 d2 x2 E2 hd2 ⟨i, j, ed, ed2, rg, W, w0, wt, wd⟩ => ?_⟩⟩
  subst ed ed2
  refine ⟨i, j, by rw [Dn.int.mp hd, Dn.int.mp hd2], rg, for_range (lo := i) (n := (j - i).toNat) (fun m σ' H' => ∃ ρ', En B ρ' σ' H' ∧ XS B ρ σ H2 ρ' σ' H' ∧ W m ρ') ⟨ρ, E2, XS.of_ext Ext.refl, w0⟩ ?_ ?_⟩
  · rintro m σ' H' hi ⟨ρ', E', x', w'⟩
    exact turn_of (tg := tg) q1 (tS_ext q (x1.trans x2) E2) x' E' (Dn.int.mpr rfl) (wt m _ ρ' hi rfl w') (H1 := H')
  · rintro σ' H' ⟨ρ', E', x', w'⟩
    exact q.2.1 ρ' σ' H' ((XS.of_ext (x1.trans x2)).trans E2.ok x') E' (wd ρ' w')
/-- [elt for tg in range(a, b) if cnd] -/
theorem lcR2I_read {g : TG} (q1 : ∀ B d ρ C v σ H Q, T d ρ C → En B ρ σ H → Dn (exO B ρ σ) H d v → (∀ ρ' σ', En B ρ' σ' H → wipe σ' vs = wipe σ vs → C ρ' → Q σ' H) → g v σ H Q) (σ : L2.St) (H : Hp) (Q : VK) (hq : tF B ρ Ξ σ H Q) :
    tLc (iRng2 (tCons (tE B ρ fun d => EvE X B ρ b fun d2 => ∃ i j : Int, d = .int i ∧ d2 = .int j ∧ (-(2 ^ 62) ≤ i ∧ i < 2 ^ 62 ∧ -(2 ^ 62) ≤ j ∧ j < 2 ^ 62) ∧ CompDI X scope B ρ vs elt cnd T (j - i).toNat (fun k y => y = .int (i + (k : Nat))) Ξ) (tCons (sE X b) tNil))) g (sTc X scope cnd) (sEc X scope elt) vs σ H Q := by
  obtain ⟨E, k⟩ := hq
  refine ⟨E, fun v H1 d x1 E1 hd hb => ⟨_, hb, E1, fun v2 H2 d2 x2 E2 hd2 ⟨i, j, ed, ed2, rg, J, j0, jt, jd⟩ => ?_⟩⟩
  subst ed ed2
  refine ⟨i, j, by rw [Dn.int.mp hd, Dn.int.mp hd2], rg, fun D hD => lc_range (lo := i) (n := (j - i).toNat) (CompP B ρ σ H2 D J) (comp_start E2 hD j0) ?_ ?_⟩
  · intro m H' hi p
    exact comp_turnI E2 hD q1 (fun acc B' hB hj => jt m _ acc B' hB hi rfl hj) p (Dn.int.mpr rfl)
  · intro H' p
    exact comp_end k E2 hD (x1.trans x2) jd p
theorem ef_lcR2I (vs : List Nat) {tg : Expr} (hc : X.calm = true) (hN : X.N.Nodup) (hv : own.map (·.2) = vs) (hgl : Gl X "range") (hm : X.mg "range" = none) (hg : EvGc X scope tg vs T) (ok : BlkOk X.N X.env.scope scope own)
    (h : EvE X B ρ a fun d => EvE X B ρ b fun d2 => ∃ i j : Int, d = .int i ∧ d2 = .int j ∧ (-(2 ^ 62) ≤ i ∧ i < 2 ^ 62 ∧ -(2 ^ 62) ≤ j ∧ j < 2 ^ 62) ∧ CompDI X scope B ρ vs elt cnd T (j - i).toNat (fun k y => y = .int (i + (k : Nat))) Ξ)
    (h2 : starEach [a, b] X.env = (false, eval a X.env) :: starEach [b] X.env := by rfl) (h1 : starEach [b] X.env = (false, eval b X.env) :: starEach [] X.env := by rfl)
    (hs : ∀ x, foldedSetIterable (.Call (.Name "range" p) [a, b] [] pos') X.env x = pure x := by intro _; rfl) :
    EvF X B ρ (.ListComp elt [⟨tg, .Call (.Name "range" p) [a, b] [] pos', [cnd], 0⟩] scope pos) Ξ := by
  subst hv
  obtain ⟨g, p1, q1⟩ := hg
  exact pe_imp (pe_lc hc hN (pi_range2 hgl hm (pa_cons h (pa_cons pe_s pa_nil h1) h2) (by rw [h2, h1]; rfl) (by rw [h1]; rfl)) ok p1 (fun s H C cl fp => pts_one (pt_sc s H C cl fp)) pe_sc hs) (lcR2I_read q1)
theorem es_lcR2I (i : Nat) (vs : List Nat) {y : Str} {py spos : Pos} {tg : Expr} (hc : X.calm = true) (hN : X.N.Nodup) (hy : X.N[i]? = some y) (hyl : X.env.scope.names.lookup y = some .local) (hv : own.map (·.2) = vs) (hgl : Gl X "range") (hm : X.mg "range" = none) (hg : EvGc X scope tg vs T) (ok : BlkOk X.N X.env.scope scope own)
    (h : EvE X B ρ a fun d => EvE X B ρ b fun d2 => ∃ i' j : Int, d = .int i' ∧ d2 = .int j ∧ (-(2 ^ 62) ≤ i' ∧ i' < 2 ^ 62 ∧ -(2 ^ 62) ≤ j ∧ j < 2 ^ 62) ∧ CompDI X scope B ρ vs elt cnd T (j - i').toNat (fun k y => y = .int (i' + (k : Nat))) (fun ds => P.nx (ρ.set i (some (.own ds)))))
    (h2 : starEach [a, b] X.env = (false, eval a X.env) :: starEach [b] X.env := by rfl) (h1 : starEach [b] X.env = (false, eval b X.env) :: starEach [] X.env := by rfl)
    (hs : ∀ x, foldedSetIterable (.Call (.Name "range" p) [a, b] [] pos') X.env x = pure x := by intro _; rfl)
    (hsw : swapsWith (.ListComp elt [⟨tg, .Call (.Name "range" p) [a, b] [] pos', [cnd], 0⟩] scope pos) (some (.Name y py)) spos.line X.env = pure true := by rfl) :
    EvS X B ρ (.Assign [.Name y py] (.ListComp elt [⟨tg, .Call (.Name "range" p) [a, b] [] pos', [cnd], 0⟩] scope pos) spos) P := by
  subst hv
  obtain ⟨g, p1, q1⟩ := hg
  exact ps_imp (ps_setLc hc hN hy hyl hsw (pi_range2 hgl hm (pa_cons h (pa_cons pe_s pa_nil h1) h2) (by rw [h2, h1]; rfl) (by rw [h1]; rfl)) ok p1 (fun s H C cl fp => pts_one (pt_sc s H C cl fp)) pe_sc hs) fun D σ H q => lcR2I_read q1 σ H _ ⟨q.1, fun p H' ds vs x nh ok E hp np hd hr => q.2.1 _ _ H' (XS.own x nh) (E.setOwn ok hp np hd) hr⟩
end
section
variable {X : Cx} {scope : Scope} {B : Bs} {ρ : Rho} {σ : L2.St} {H1 : Hp} {D : Addr} {vs : List Nat} {elt cnd : Expr} {T : PyData → Rho → (Rho → Prop) → Prop} {n : Nat} {at_ : Nat → PyData → Prop} {Ξ : List PyData → Prop}
theorem comp_genI {Jt : It} {J : Nat → List PyData → Prop} {g : TG} {H : Hp} {Q : VK} (E1 : En B ρ σ H1) (hD : H1 D = none) (x1 : Ext B H H1)
    (k : ∀ p H' ds vs, Ext B H H' → H p = none → B.Ok H' → En (B.add p) ρ σ H' → H' p = some (.lst vs) → ¬ exO B ρ σ p → DnAll (exO (B.add p) ρ σ) H' ds vs → Ξ ds → Q (.ref p) H')
    (q1 : ∀ B d ρ C v σ H Q, T d ρ C → En B ρ σ H → Dn (exO B ρ σ) H d v → (∀ ρ' σ', En B ρ' σ' H → wipe σ' vs = wipe σ vs → C ρ' → Q σ' H) → g v σ H Q)
    (j0 : J 0 []) (jd : ∀ acc, J n acc → Ξ acc)
    (jt : ∀ i d acc (B' : Bs), B'.src = B.src → i < n → at_ i d → J i acc → T d (blkR ρ vs) fun ρ2 => ∀ (s : Shared) (H : Hp) (C : Addr) (cl : List (Str × Addr)) (fp : List Addr), EvT (X.blk s H scope (compEnvC scope cl C X.env) fp) B' ρ2 cnd fun b => (b = true → ∀ (s : Shared) (H : Hp) (C : Addr) (cl : List (Str × Addr)) (fp : List Addr), EvE (X.blk s H scope (compEnvC scope cl C X.env) fp) B' ρ2 elt fun y => acc.length < sizeLine ∧ J (i + 1) (acc ++ [y])) ∧ (b = false → J (i + 1) acc))
    (go : ∀ i H, i < n → CompP B ρ σ H1 D J i H → Jt.go i H) (st : ∀ H, CompP B ρ σ H1 D J n H → Jt.stop n H)
    (yl : ∀ i H x H', i < n → CompP B ρ σ H1 D J i H → Jt.yld i H x H' → ∃ d, at_ i d ∧ CompP B ρ σ H1 D J i H' ∧ Dn (exO (B.add D) ρ σ) H' d x) :
    ∃ W : Nat → Nat → Hp → Prop, (∃ m, W 0 m (upd H1 D (.lst []))) ∧ ∀ i m H, W i m H →
      (Jt.stop i H ∧ Q (.ref D) H) ∨ (Jt.go i H ∧ ∃ Nx : Hp → Prop, (∀ H', Nx H' → ∃ m', m' < m ∧ W (i + 1) m' H') ∧ ∀ x H', Jt.yld i H x H' → g x (wipe σ vs) H' fun σ2 H2 => wipe σ2 vs = wipe σ vs ∧ sTc X scope cnd σ2 H2 fun b H3 =>
        if b = true then sEc X scope elt σ2 H3 fun y H4 => ∃ acc, H4 D = some (.lst acc) ∧ acc.length < sizeLine ∧ Nx (upd H4 D (.lst (acc ++ [y]))) else Nx H3) := by
  refine ⟨fun i m H => m = n - i ∧ i ≤ n ∧ CompP B ρ σ H1 D J i H, ⟨n, by simp, Nat.zero_le _, comp_start E1 hD j0⟩, ?_⟩
  rintro i m H' ⟨rfl, hi, p⟩
  by_cases hlt : i < n
  · refine .inr ⟨go i H' hlt p, CompP B ρ σ H1 D J (i + 1), fun H' p' => ⟨n - (i + 1), by omega, rfl, hlt, p'⟩, fun x H2 y => ?_⟩
    obtain ⟨d, had, p2, hd⟩ := yl i H' x H2 hlt p y
    exact comp_turnI E1 hD q1 (fun acc B' hB hj => jt i d acc B' hB hlt had hj) p2 hd
  · have e : i = n := by omega
    subst e
    exact .inl ⟨st H' p, comp_end k E1 hD x1 jd p⟩
end
section
variable {X : Cx} {scope : Scope} {B : Bs} {ρ : Rho} {vs : List Nat} {elt cnd : Expr} {T : PyData → Rho → (Rho → Prop) → Prop} {e a b : Expr} {pos p pos' p2 p3 : Pos} {own : List (Str × Nat)} {Ξ : List PyData → Prop} {elts : List Expr} {kk : Nat} {tpos : Pos} {P : Po} {body : List Stmt}
/-- [elt for tg in enumerate(t) if cnd], t a tuple -/
theorem lcEI_read {g : TG} (q1 : ∀ B d ρ C v σ H Q, T d ρ C → En B ρ σ H → Dn (exO B ρ σ) H d v → (∀ ρ' σ', En B ρ' σ' H → wipe σ' vs = wipe σ vs → C ρ' → Q σ' H) → g v σ H Q) (σ : L2.St) (H : Hp) (Q : VK) (hq : tF B ρ Ξ σ H Q) :
    tLc (iEnumT X.K (tCons (tE B ρ fun d => ∃ ds, d = .tuple ds ∧ CompDI X scope B ρ vs elt cnd T ds.length (AtEn ds) Ξ) tNil)) g (sTc X scope cnd) (sEc X scope elt) vs σ H Q := by
  obtain ⟨E, k⟩ := hq
  refine ⟨E, fun v H1 d x1 E1 hd ⟨ds, ed, J, j0, jt, jd⟩ => ?_⟩
  subst ed
  obtain ⟨q, xs, rfl, ha, na, hds⟩ := Dn.tuple.mp hd
  have hl := hds.length
  refine ⟨q, xs, rfl, SqT.of ha, fun D hD => comp_genI E1 hD x1 k q1 j0 jd jt (fun i H' hi p => ?_) (fun H' p => ⟨xs, SqT.of (p.lst E1 ha na), by omega⟩) (fun i H' x H2 hi p y => ?_)⟩
  · have hx : xs[i]? = some (xs[i]'(by omega)) := List.getElem?_eq_getElem (by omega)
    exact ⟨xs, _, SqT.of (p.lst E1 ha na), hx⟩
  · obtain ⟨t, u, rfl, ht, rfl, hu⟩ := y
    have hx := hu xs (SqT.of (p.lst E1 ha na))
    obtain ⟨d, hdi, hdn⟩ := hds.get' hx
    refine ⟨.tuple [.int (i : Nat), d], ⟨d, hdi, rfl⟩, p.new ht, Dn.tuple.mpr ⟨t, _, rfl, upd_same, ?_, ?_⟩⟩
    · obtain ⟨_, _, hlD, _, _, E', _, _⟩ := id p
      exact E'.nx ht
    · refine DnAll.cons.mpr ⟨_, _, rfl, Dn.int.mpr rfl, DnAll.cons.mpr ⟨_, _, rfl, (p.new (o := .tup [.int (i : Nat), u]) ht).dn E1 hD hdn, DnAll.nil.mpr rfl⟩⟩
theorem ef_lcEI (vs : List Nat) (hc : X.calm = true) (hN : X.N.Nodup) (hv : own.map (·.2) = vs) (hgl : Gl X "enumerate") (hm : X.mg "enumerate" = none) (hg : EvGc X scope (.Tuple elts kk tpos) vs T) (ok : BlkOk X.N X.env.scope scope own)
    (h : EvE X B ρ a fun d => ∃ ds, d = .tuple ds ∧ CompDI X scope B ρ vs elt cnd T ds.length (AtEn ds) Ξ) (hst : starEach [a] X.env = [(false, eval a X.env)] := by rfl)
    (hs : ∀ x, foldedSetIterable (.Call (.Name "enumerate" p) [a] [] pos') X.env x = pure x := by intro _; rfl) :
    EvF X B ρ (.ListComp elt [⟨.Tuple elts kk tpos, .Call (.Name "enumerate" p) [a] [] pos', [cnd], 0⟩] scope pos) Ξ := by
  subst hv
  obtain ⟨g, p1, q1⟩ := hg
  exact pe_imp (pe_lc hc hN (pi_enumT hgl hm (pa_cons h pa_nil hst) hst) ok p1 (fun s H C cl fp => pts_one (pt_sc s H C cl fp)) pe_sc hs) (lcEI_read q1)
theorem es_lcEI (i : Nat) (vs : List Nat) {y : Str} {py spos : Pos} (hc : X.calm = true) (hN : X.N.Nodup) (hy : X.N[i]? = some y) (hyl : X.env.scope.names.lookup y = some .local) (hv : own.map (·.2) = vs) (hgl : Gl X "enumerate") (hm : X.mg "enumerate" = none) (hg : EvGc X scope (.Tuple elts kk tpos) vs T) (ok : BlkOk X.N X.env.scope scope own)
    (h : EvE X B ρ a fun d => ∃ ds, d = .tuple ds ∧ CompDI X scope B ρ vs elt cnd T ds.length (AtEn ds) (fun ds => P.nx (ρ.set i (some (.own ds))))) (hst : starEach [a] X.env = [(false, eval a X.env)] := by rfl)
    (hs : ∀ x, foldedSetIterable (.Call (.Name "enumerate" p) [a] [] pos') X.env x = pure x := by intro _; rfl)
    (hsw : swapsWith (.ListComp elt [⟨.Tuple elts kk tpos, .Call (.Name "enumerate" p) [a] [] pos', [cnd], 0⟩] scope pos) (some (.Name y py)) spos.line X.env = pure true := by rfl) :
    EvS X B ρ (.Assign [.Name y py] (.ListComp elt [⟨.Tuple elts kk tpos, .Call (.Name "enumerate" p) [a] [] pos', [cnd], 0⟩] scope pos) spos) P := by
  subst hv
  obtain ⟨g, p1, q1⟩ := hg
  exact ps_imp (ps_setLc hc hN hy hyl hsw (pi_enumT hgl hm (pa_cons h pa_nil hst) hst) ok p1 (fun s H C cl fp => pts_one (pt_sc s H C cl fp)) pe_sc hs) fun D σ H q => lcEI_read q1 σ H _ ⟨q.1, fun p H' ds vs x nh ok E hp np hd hr => q.2.1 _ _ H' (XS.own x nh) (E.setOwn ok hp np hd) hr⟩
/-- for .. in enumerate(t), t a tuple -/
theorem es_enumT {tgs : List Expr} {kk : Nat} (hp : PassesOwn (model X.prog X.w) X.A X.env X.xe) (hc : X.calm = true) (hgl : Gl X "enumerate") (hm : X.mg "enumerate" = none) (hg : EvG X B (.Tuple tgs kk p2) T)
    (h : EvE X B ρ a fun d => ∃ ds, d = .tuple ds ∧ LoopD X B ρ body P T ds.length (AtEn ds)) (hst : starEach [a] X.env = [(false, eval a X.env)] := by rfl) {p3 : Pos}
    (hs : ∀ x, foldedSetIterable (.Call (.Name "enumerate" p) [a] [] p3) X.env x = pure x := by intro _; rfl) : EvS X B ρ (.For (.Tuple tgs kk p2) (.Call (.Name "enumerate" p) [a] [] p3) body [] pos) P := by
  obtain ⟨g, p1, q1⟩ := hg
  refine ps_imp (ps_for hp hc (pi_enumT hgl hm (pa_cons h pa_nil hst) hst) p1 (pss_s (st := body)) hs) fun D σ H q => ⟨q.1, fun v H1 d x1 E1 hd ⟨ds, ed, W, w0, wt, wd⟩ => ?_⟩
  subst ed
  obtain ⟨a, xs, rfl, ha, na, hds⟩ := Dn.tuple.mp hd
  have hl := hds.length
  refine ⟨a, xs, rfl, SqT.of ha, fun i m σ' H' => m = xs.length - i ∧ i ≤ xs.length ∧ ∃ ρ', En B ρ' σ' H' ∧ XS B ρ σ H1 ρ' σ' H' ∧ W i ρ', ⟨xs.length, rfl, Nat.zero_le _, ρ, E1, XS.of_ext Ext.refl, w0⟩, ?_⟩
  rintro i m σ' H' ⟨rfl, hi, ρ', E', x', w'⟩
  have hq : SqT X.K H' a xs := SqT.of (x'.1 a _ ha (fun z => na (.inl (E1.ok.sx z))) fun z => na (.inr z))
  by_cases hlt : i < xs.length
  · have hx : xs[i]? = some xs[i] := List.getElem?_eq_getElem hlt
    obtain ⟨d, hdi, hdn⟩ := hds.get' hx
    refine .inr ⟨⟨xs, _, hq, hx⟩, fun σ2 H2 => ∃ ρ2, En B ρ2 σ2 H2 ∧ XS B ρ σ H1 ρ2 σ2 H2 ∧ W (i + 1) ρ2, fun σ2 H2 hn => ⟨xs.length - (i + 1), by omega, rfl, hlt, hn⟩, fun y H2 ⟨t, u, ey, ht, eH, hu⟩ => ?_⟩
    subst ey
    subst eH
    have e3 := hu xs hq
    rw [hx] at e3; cases e3
    have dn' := Dn.mono (ex' := exO B ρ' σ') (H' := H') (fun y z => z.elim (fun z => .inl (.inl z)) fun z => (x'.2 y z).imp .inr id) (fun y o e n => x'.1 y o e (fun z => n (.inl (E1.ok.sx z))) fun z => n (.inr z)) d _ hdn
    have E2 := E'.new (o := .tup [.int (i : Nat), xs[i]]) ht
    refine turn_of (tg := .Tuple tgs kk p2) q1 (tS_ext q x1 E1) (x'.trans E'.ok (XS.of_ext (Ext.new ht))) E2 (d := .tuple [.int i, d]) (Dn.tuple.mpr ⟨t, _, rfl, upd_same, E'.nx ht, ?_⟩) (wt i _ ρ' (by rw [hl]; exact hlt) ⟨d, hdi, rfl⟩ w') (H1 := H')
    exact DnAll.cons.mpr ⟨_, _, rfl, Dn.int.mpr rfl, DnAll.cons.mpr ⟨_, _, rfl, E'.dn (Ext.new ht) dn', DnAll.nil.mpr rfl⟩⟩
  · have ei : i = xs.length := by omega
    refine .inl ⟨⟨xs, hq, by omega⟩, ?_⟩
    rw [ei, ← hl] at w'
    exact q.2.1 ρ' σ' H' ((XS.of_ext x1).trans E1.ok x') E' (wd ρ' w')
end
section
variable {X : Cx} {B : Bs} {ρ : Rho} {e : Expr} {Ψ : Bool → Prop}
theorem DnAll.emp {ex : Addr → Prop} {H : Hp} {ds : List PyData} {vs : List V} (h : DnAll ex H ds vs) : (!vs.isEmpty) = !ds.isEmpty := by
  have := h.length
  cases ds <;> cases vs <;> simp_all
/-- the truth of a tuple -/
theorem et_tup (h : EvE X B ρ e fun d => ∃ ds, d = .tuple ds ∧ Ψ (!ds.isEmpty)) (he : ∀ whole, isTrue e X.env whole = (do let v ← whole; standAt e.pos; holding [v] (truthy v)) := by intro _; rfl) : EvT X B ρ e Ψ :=
  pt_imp (pt_truth h he) fun σ H Q ⟨E, k⟩ => ⟨E, fun v H1 x e1 E1 d1 ⟨ds, ec, hΨ⟩ => by
    subst ec
    obtain ⟨a, xs, rfl, ha, na, hds⟩ := Dn.tuple.mp d1
    exact ⟨!ds.isEmpty, .inr (.inl ⟨xs, SqT.of ha, hds.emp.symm⟩), k _ H1 e1 E1 hΨ⟩⟩
end
end Vw

namespace Vw
open PySem PySem.Spec L2
section
variable {X : Cx} {B : Bs} {ρ : Rho} {a b c : Expr} {pos : Pos} {P0 : Po} {P : Program} {w : World} {K : PySem.W.Frag} {mg : Str → Option Value} {base : Heap} {N : List Str}
theorem ps_par3F {ta : TA} (i j l : Nat) {x y z : Str} {px py pz pt : Pos} {kt k2 : Nat} {pt2 : Pos} (hc : X.calm = true) (hN : X.N.Nodup) (hi : X.N[i]? = some x) (hj : X.N[j]? = some y) (hk : X.N[l]? = some z) (hx : X.env.scope.names.lookup x = some .local)
    (hy : X.env.scope.names.lookup y = some .local) (hz : X.env.scope.names.lookup z = some .local) (h : PA X [a, b, c] ta)
    (hw : swappedStores [.Tuple [.Name x px, .Name y py, .Name z pz] kt pt] (.Tuple [a, b, c] k2 pt2) X.env = pure (some [x, y, z]) := by rfl)
    (hs : swapsWithSole [.Tuple [.Name x px, .Name y py, .Name z pz] kt pt] (.Tuple [a, b, c] k2 pt2) pos.line X.env = pure false := by rfl) :
    PS X (.Assign [.Tuple [.Name x px, .Name y py, .Name z pz] kt pt] (.Tuple [a, b, c] k2 pt2) pos) (fun D σ H => ta σ H fun vs H1 => ∃ v u w, vs = [v, u, w] ∧ D.nx (((σ.set l (some w)).set j (some u)).set i (some v)) H1) := by
  refine ⟨fun pins s σ H D I q => ?_⟩
  rw [exec_Assign_arm]
  refine wpAny_bind (wpAny_standAt ?_)
  rw [hs]
  refine wpAny_bind (wpAny_pure ?_)
  rw [if_neg (by decide)]
  refine wpAny_bind (PyProof.Rows.Tuple_ (thn (h.run _ pins s σ H _ I q) fun us s1 ⟨vs, H1, I1, rv, v, u, w, e, hn⟩ => ?_))
  subst e
  have lu : us.length = 3 := by rw [← rv.length]; rfl
  refine wpAny_newObj_type ?_ (by show us.length ≤ sizeLine; rw [lu]; decide)
  have I2 : Inv X pins σ H1 { s1 with heap := s1.heap.push { cls := .type "tuple", data := .seq us.toArray } } := I1.kept (t' := s1.toks) fun b o e => Heap.get?_push_of_some _ e
  rw [hw]
  refine wpAny_bind (wpAny_pure ?_)
  show wpAny (model X.prog X.w) X.A (do rule "assign.swapped-stores"; let items ← unpackItems (.ref s1.heap.objs.size) 3 none; assignInOrder ([x, y, z].reverse.map fun n => bindName X.env n) items.reverse; pure Flow.next) _ _ _
  refine wpAny_bind (wpAny_rule (wpAny_bind ?_))
  have eu : 3 = us.toArray.size := by simp [lu]
  rw [eu]
  refine PyProof.Rows.unpackItems_tuple (items := us.toArray) (I.ok.hd hc) (PyProof.Rows.IsTup.new s1.heap _) fun h' hx' => ?_
  have I3 := I2.kept (h' := h') (t' := s1.toks) fun b o e => hx' b o (Nat.ne_of_lt (Heap.lt_size e)) e
  refine wpAny_bind (thn (Q := fun _ s2 => SP X pins D .next s2) ?_ fun _ s2 q => wpAny_pure q)
  cases rv with
  | cons r1 rv =>
    cases rv with
    | cons r2 rv =>
      cases rv with
      | cons r3 rv =>
        cases rv
        refine PyProof.Rows.assignInOrder_cons (wpAny_bindName (store_ok I3 hN hk (.inl hz) r3 (fun s3 I3 => ?_) (.inr hz)))
        refine PyProof.Rows.assignInOrder_cons (wpAny_bindName (store_ok I3 hN hj (.inl hy) r2 (fun s3 I3 => ?_) (.inr hy)))
        refine PyProof.Rows.assignInOrder_cons (wpAny_bindName (store_ok I3 hN hi (.inl hx) r1 (fun s4 I4 => PyProof.Rows.assignInOrder_nil ?_) (.inr hx)))
        exact ⟨_, H1, I4, hn⟩
/-- x, y, z = a, b, c: c a fresh list that stays z's own -/
theorem es_p3F (S : Same X P w K mg base N) {i j l : Nat} {x y z : Str} {px py pz pt : Pos} {kt k2 : Nat} {pt2 : Pos} (hi : At N i x) (hj : At N j y) (hl : At N l z) (hx : X.env.scope.names.lookup x = some .local) (hy : X.env.scope.names.lookup y = some .local) (hz : X.env.scope.names.lookup z = some .local)
    (h : EvE X B ρ a fun d => EvE X B ρ b fun f => EvF X B ρ c fun ds => P0.nx (((ρ.set l (some (.own ds))).set j (some (.dat f))).set i (some (.dat d))))
    (hw : swappedStores [.Tuple [.Name x px, .Name y py, .Name z pz] kt pt] (.Tuple [a, b, c] k2 pt2) X.env = pure (some [x, y, z]) := by rfl)
    (hs : swapsWithSole [.Tuple [.Name x px, .Name y py, .Name z pz] kt pt] (.Tuple [a, b, c] k2 pt2) pos.line X.env = pure false := by rfl)
    (s1 : starEach [a, b, c] X.env = (false, eval a X.env) :: starEach [b, c] X.env := by rfl) (s2 : starEach [b, c] X.env = (false, eval b X.env) :: starEach [c] X.env := by rfl) (s3 : starEach [c] X.env = (false, eval c X.env) :: starEach [] X.env := by rfl) :
    EvS X B ρ (.Assign [.Tuple [.Name x px, .Name y py, .Name z pz] kt pt] (.Tuple [a, b, c] k2 pt2) pos) P0 :=
  ps_imp (ps_par3F i j l S.c S.nd (by rw [S.n]; exact hi.get) (by rw [S.n]; exact hj.get) (by rw [S.n]; exact hl.get) hx hy hz (pa_cons h (pa_cons pe_s (pa_cons pe_s pa_nil s3) s2) s1) hw hs) fun D σ H q => ⟨q.1, fun v H1 d x1 E1 hd hb => ⟨_, hb, E1, fun u H2 f x2 E2 hf hc => ⟨_, hc, E2, fun p H3 ds vs nx nh ok E3 hp np hd2 hΦ => ⟨v, u, .ref p, rfl, by
    have E4 := E3.setOwn (i := l) ok hp np hd2
    have mv : ∀ {d : PyData} {v : V}, Dn (exO B ρ σ) H2 d v → SlOk B (exO B (ρ.set l (some (.own ds))) (σ.set l (some (.ref p)))) H3 (.dat d) v := fun {d v} hd => Dn.mono (fun x z => by
      rcases z with z | z
      · exact .inl (.inl z)
      · rcases own_put z with z | z
        · exact .inl (.inr z)
        · exact .inr (z ▸ nh)) (fun x o e n => nx x o e fun z => n (.inl (E2.ok.sx z))) d v hd
    have no : ∀ {d : PyData} {ds : List PyData}, (Sl.dat d) ≠ .own ds := fun {d ds} z => by cases z
    have E5 := E4.set (i := j) (fun ds z => by cases z) (mv hf)
    have h6 : SlOk B (exO B ((ρ.set l (some (.own ds))).set j (some (.dat f))) ((σ.set l (some (.ref p))).set j (some u))) H3 (.dat d) v :=
      slOk_mono (xo := exO B (ρ.set l (some (.own ds))) (σ.set l (some (.ref p)))) (fun x h => .inl (h.imp id (own_set fun ds z => by cases z))) (fun _ _ e _ => e) (fun _ _ _ e => e) (mv (E1.dn x2 hd))
    have E6 := E5.set (i := i) (fun ds z => by cases z) h6
    exact q.2.1 _ _ H3 ((((((XS.of_ext x1).trans E1.ok (XS.of_ext x2)).trans E2.ok (XS.own nx nh)).trans ok (XS.set fun ds z => by cases z)).trans E5.ok (XS.set fun ds z => by cases z))) E6 hΦ⟩⟩⟩⟩
/-- an expression may read an own list, if what comes out has no list in it -/
theorem ev_frz {e : Expr} {Φ : PyData → Prop} {i : Nat} {ds : List PyData} (hr : ρ[i]? = some (some (.own ds))) (h : EvE X B (ρ.set i (some (.dat (.list ds)))) e fun d => noLst d = true ∧ Φ d) : EvE X B ρ e Φ :=
  pe_imp h fun σ H Q ⟨E, k⟩ => ⟨E.freeze hr, fun v H1 d x E' hd ⟨nl, hΦ⟩ => k v H1 d x (E.ext x E'.ok) ((E.ext x E'.ok).thaw nl hd) hΦ⟩
/-- x, y = a, b: a a fresh list that stays x's own, b read with it there -/
theorem es_p2G (S : Same X P w K mg base N) {i j : Nat} {x y : Str} {px py pt : Pos} {kt k2 : Nat} {pt2 : Pos} (hij : i ≠ j) (hi : At N i x) (hj : At N j y) (hx : X.env.scope.names.lookup x = some .local) (hy : X.env.scope.names.lookup y = some .local)
    (h : EvF X B ρ a fun ds => ∀ B' : Bs, B'.src = B.src → EvE X B' ρ b fun d => P0.nx ((ρ.set i (some (.own ds))).set j (some (.dat d))))
    (hw : swappedStores [.Tuple [.Name x px, .Name y py] kt pt] (.Tuple [a, b] k2 pt2) X.env = pure (some [x, y]) := by rfl)
    (hs : swapsWithSole [.Tuple [.Name x px, .Name y py] kt pt] (.Tuple [a, b] k2 pt2) pos.line X.env = pure false := by rfl)
    (hs2 : starEach [a, b] X.env = (false, eval a X.env) :: starEach [b] X.env := by rfl) (hs1 : starEach [b] X.env = (false, eval b X.env) :: starEach [] X.env := by rfl) :
    EvS X B ρ (.Assign [.Tuple [.Name x px, .Name y py] kt pt] (.Tuple [a, b] k2 pt2) pos) P0 :=
  ps_imp (ps_par2 i j S.c S.nd (by rw [S.n]; exact hi.get) (by rw [S.n]; exact hj.get) hx hy (pa_cons h (pa_cons pe_s pa_nil hs1) hs2) hw hs) fun D σ H q => ⟨q.1, fun p H1 ds vs x1 nh ok E1 hp np hd hb => ⟨_, hb (B.add p) rfl, E1, fun u H2 d x2 E2 hdd hΦ => ⟨.ref p, u, rfl, by
    have npS : ¬ (B.add p).S p := fun ⟨a, b, c, e, z⟩ => by
      have := q.1.ok.live p (q.1.ok.sx ⟨a, b, c, e, z⟩)
      exact this nh
    have hp2 : H2 p = some (.lst vs) := x2 p _ hp npS
    have ok2 : B.Ok H2 := ⟨fun z hz => E2.ok.live z (.inl hz), fun a b c e => ⟨(E2.ok.sr a b c e).1, (ok.sr a b c e).2⟩⟩
    have hd2 : DnAll (exO (B.add p) ρ σ) H2 ds vs := E1.dnAll x2 hd
    have E3 := E2.setOwn (i := i) ok2 hp2 np hd2
    have h1 : SlOk B (exO B (ρ.set i (some (.own ds))) (σ.set i (some (.ref p)))) H2 (.dat d) u := Dn.mono (fun x z => by
      rcases z with z | z
      · exact .inl (.inl (.inl z))
      · rcases own_put z with z | z
        · exact .inl (.inr z)
        · exact .inl (.inl (.inr z))) (fun x o e n => e) d u hdd
    have E4 := E3.set (i := j) (fun ds z => by cases z) h1
    have xx : Ext B H H2 := fun z o e n => x2 z o (x1 z o e n) n
    have es : (σ.set i (some (.ref p))).set j (some u) = (σ.set j (some u)).set i (some (.ref p)) := List.set_comm _ _ hij
    rw [← es]
    exact q.2.1 _ _ H2 ((XS.own xx nh).trans ok2 (XS.set fun ds z => by cases z)) E4 hΦ⟩⟩⟩
/-- x, y, z = a, b, c: b a fresh list that stays y's own, c read with it there -/
theorem es_p3M (S : Same X P w K mg base N) {i j l : Nat} {x y z : Str} {px py pz pt : Pos} {kt k2 : Nat} {pt2 : Pos} (hjl : j ≠ l) (hi : At N i x) (hj : At N j y) (hl : At N l z) (hx : X.env.scope.names.lookup x = some .local) (hy : X.env.scope.names.lookup y = some .local) (hz : X.env.scope.names.lookup z = some .local)
    (h : EvE X B ρ a fun d => EvF X B ρ b fun ds => ∀ B' : Bs, B'.src = B.src → EvE X B' ρ c fun g => P0.nx (((ρ.set j (some (.own ds))).set l (some (.dat g))).set i (some (.dat d))))
    (hw : swappedStores [.Tuple [.Name x px, .Name y py, .Name z pz] kt pt] (.Tuple [a, b, c] k2 pt2) X.env = pure (some [x, y, z]) := by rfl)
    (hs : swapsWithSole [.Tuple [.Name x px, .Name y py, .Name z pz] kt pt] (.Tuple [a, b, c] k2 pt2) pos.line X.env = pure false := by rfl)
    (s1 : starEach [a, b, c] X.env = (false, eval a X.env) :: starEach [b, c] X.env := by rfl) (s2 : starEach [b, c] X.env = (false, eval b X.env) :: starEach [c] X.env := by rfl) (s3 : starEach [c] X.env = (false, eval c X.env) :: starEach [] X.env := by rfl) :
    EvS X B ρ (.Assign [.Tuple [.Name x px, .Name y py, .Name z pz] kt pt] (.Tuple [a, b, c] k2 pt2) pos) P0 :=
  ps_imp (ps_par3F i j l S.c S.nd (by rw [S.n]; exact hi.get) (by rw [S.n]; exact hj.get) (by rw [S.n]; exact hl.get) hx hy hz (pa_cons h (pa_cons pe_s (pa_cons pe_s pa_nil s3) s2) s1) hw hs) fun D σ H q => ⟨q.1, fun v H0 d x0 E0 hd hb => ⟨_, hb, E0, fun p H1 ds vs x1 nh ok E1 hp np hds hc => ⟨_, hc (B.add p) rfl, E1, fun u H2 g x2 E2 hdd hΦ => ⟨v, .ref p, u, rfl, by
    have npS : ¬ (B.add p).S p := fun ⟨a, b, c, e, z⟩ => by
      have := E0.ok.live p (E0.ok.sx ⟨a, b, c, e, z⟩)
      exact this nh
    have hp2 : H2 p = some (.lst vs) := x2 p _ hp npS
    have ok2 : B.Ok H2 := ⟨fun z hz => E2.ok.live z (.inl hz), fun a b c e => ⟨(E2.ok.sr a b c e).1, (ok.sr a b c e).2⟩⟩
    have hd2 : DnAll (exO (B.add p) ρ σ) H2 ds vs := E1.dnAll x2 hds
    have E3 := E2.setOwn (i := j) ok2 hp2 np hd2
    have xx : Ext B H0 H2 := fun z o e n => x2 z o (x1 z o e n) n
    have h1 : SlOk B (exO B (ρ.set j (some (.own ds))) (σ.set j (some (.ref p)))) H2 (.dat g) u := Dn.mono (fun x z => by
      rcases z with z | z
      · exact .inl (.inl (.inl z))
      · rcases own_put z with z | z
        · exact .inl (.inr z)
        · exact .inl (.inl (.inr z))) (fun x o e n => e) g u hdd
    have h0 : SlOk B (exO B (ρ.set j (some (.own ds))) (σ.set j (some (.ref p)))) H2 (.dat d) v := Dn.mono (fun x z => by
      rcases z with z | z
      · exact .inl (.inl z)
      · rcases own_put z with z | z
        · exact .inl (.inr z)
        · exact .inr (z ▸ nh)) (fun x o e n => xx x o e fun z => n (.inl (E0.ok.sx z))) d v hd
    have E4 := E3.set (i := l) (fun ds z => by cases z) h1
    have h2 : SlOk B (exO B ((ρ.set j (some (.own ds))).set l (some (.dat g))) ((σ.set j (some (.ref p))).set l (some u))) H2 (.dat d) v :=
      slOk_mono (xo := exO B (ρ.set j (some (.own ds))) (σ.set j (some (.ref p)))) (fun x h => .inl (h.imp id (own_set fun ds z => by cases z))) (fun _ _ e _ => e) (fun _ _ _ e => e) h0
    have E5 := E4.set (i := i) (fun ds z => by cases z) h2
    have es : (σ.set l (some u)).set j (some (.ref p)) = (σ.set j (some (.ref p))).set l (some u) := List.set_comm _ _ (Ne.symm hjl)
    rw [es]
    exact q.2.1 _ _ H2 (((((XS.of_ext x0).trans E0.ok (XS.own xx nh)).trans ok2 (XS.set fun ds z => by cases z)).trans E4.ok (XS.set fun ds z => by cases z))) E5 hΦ⟩⟩⟩⟩
end
end Vw

/-! sorted(set(list of ints)) -/
namespace Vw
open PySem PySem.Spec L2 PyProof.Rows
def freshSet (w : World) : Obj := { cls := .type "set", dict := none, data := .set #[] 0 (.fresh 0 0 (!w.params.followText "set-order")) }
section
variable {P : Program} {w : World} {A : Around} {E : Value → Shared → Prop} {s : Shared}
/-- set.__init__ of a new set, with a list of ints -/
theorem setInit_list {p l : Addr} {zs : Array Value} {ms : List Int} {h1 : Heap} {B : Around} {F1 : Fin → Shared → Prop} {E1 : Value → Shared → Prop} (hB : B.handled = none) (hp : h1.get? p = some (freshSet w)) (hl : h1.IsList l zs) (hz : IntsAre zs.toList ms) (hb : ms.length + 1 < scanBound)
    (k : ∀ (h2 : Heap) (tk c : Nat), SetR w h2 p (fun j => decide (j ∈ ms)) c → c ≤ ms.length → (∀ b o, b ≠ p → h1.get? b = some o → h2.get? b = some o) → F1 (.done (.ret .none)) { s with heap := h2, toks := tk }) :
    wpAny (model P w) B (Builtin.«set.__init__» ⟨[.ref p, .ref l], []⟩) F1 E1 { s with heap := h1 } := by
  have sz : zs.size = ms.length := by
    have q := IntsAre.length hz
    rwa [Array.length_toList] at q
  have lp : p ≠ l := fun e => by
    obtain ⟨o, ho, hc, _⟩ := hl
    rw [← e, hp] at ho
    cases ho
    simp [freshSet] at hc
  have pl := Heap.lt_size hp
  have ll : l < h1.objs.size := by
    obtain ⟨o, ho, _⟩ := hl
    exact Heap.lt_size ho
  obtain ⟨ol, hol, hcl, nl, hdl⟩ := id hl
  obtain ⟨oc, od, ot, os⟩ := ol
  simp only at hcl hdl
  subst hcl hdl
  have z1 := F.sub_list_set
  have z2 := F.sub_list_frozenset
  have z3 : (Value.type "list" == Value.type "dict") = false := by decide
  have hp' : h1.get? p = some { cls := .type "set", dict := none, data := .set #[] 0 (.fresh 0 0 (!w.params.followText "set-order")) } := hp
  unfold Builtin.«set.__init__» noKeywords Builtin.Frozenset.updateFrom
  generalize hPI : pyIter = PI
  wp_walk
  subst hPI
  refine wpAny_pyIter_list hl ?_
  refine wpAny_bind (wpAny_runValue ?_)
  have nI : l ≠ h1.objs.size := Nat.ne_of_lt ll
  refine set_update_ints ((Walks.list (by simp [hB]) h1.objs.size l nI zs).toS) p (by simp; exact ⟨Nat.ne_of_lt pl, lp⟩) ms sz hb (fun i v hv => ?_) zs.size 0 _ (Nat.sub_zero _) (Nat.zero_le _) ⟨⟨_, Heap.get?_push_size _ rfl, rfl, rfl⟩, hl.push _⟩
    ⟨0, Nat.le_refl 0, setR_new_at (Heap.get?_push_of_some _ hp')⟩ fun t c hm hc hS => ?_
  · obtain ⟨tk, e⟩ := IntsAre.int_at hz i v (by rw [Array.getElem?_toList]; exact hv)
    have hi : i < ms.length := by rw [← sz]; exact (Array.getElem?_eq_some_iff.mp hv).1
    refine ⟨ms[i], tk, List.getElem?_eq_getElem hi, ?_⟩
    rw [e, List.getD_eq_getElem?_getD, List.getElem?_eq_getElem hi]
    rfl
  · obtain ⟨h2, g2, d2, t2, o2⟩ := t
    obtain rfl : g2 = s.gens := hm.gens
    obtain rfl : d2 = s.drawn := hm.drawn
    obtain rfl : o2 = s.os := hm.os
    refine wpAny_pure ?_
    refine wpAny_pure (k h2 t2 c hS (by rw [← sz]; exact hc) fun b o hb' e => hm.heap b o ?_ (Heap.get?_push_of_some _ e))
    simp
    exact ⟨hb', Nat.ne_of_lt (Heap.lt_size e)⟩
/-- set(list of ints) -/
theorem newSet_list {l : Addr} {zs : Array Value} {ms : List Int} {Q : Value → Shared → Prop} (hA : A.handled = none) (hl : s.heap.IsList l zs) (hz : IntsAre zs.toList ms) (hb : ms.length + 1 < scanBound)
    (k : ∀ (h2 : Heap) (tk c : Nat), SetR w h2 s.heap.objs.size (fun j => decide (j ∈ ms)) c → c ≤ ms.length → (∀ b o, s.heap.get? b = some o → h2.get? b = some o) → Q (.ref s.heap.objs.size) { s with heap := h2, toks := tk }) :
    wpAny (model P w) A (call (.type "set") [.ref l]) Q E s := by
  have T := F.called_set
  obtain ⟨_, _, mro⟩ := T.mro
  have made := T.made
  have sub := T.sub
  have nt := T.notType
  have cc := T.canCreate
  have ct := F.typeCall_set_1 (.ref l)
  refine wpAny_call (codeAny_of_tree ?_)
  show wpAny _ _ (callAny (.type "set") _) _ _ _
  refine wpAny_pure ⟨Code.quiet_builtin _ (by decide +kernel), codeAny_builtin F.entry_type_call ?_⟩
  rw [Around.under_plain (weight_type_call_type "set" [.ref l] []) rfl]
  repeat (any_goals (first | assumption | wp_step))
  have gp : (s.heap.push (freshSet w)).get? s.heap.objs.size = some (freshSet w) := Heap.get?_push_size _ rfl
  refine codeAny_mono (code_set_led1 (.ref l) (E := E) (Q₁ := fun o t => o = .ref s.heap.objs.size ∧ t = { s with heap := s.heap.push (freshSet w) }) ⟨rfl, rfl⟩) fun r t hr => ?_
  cases r with
  | error er => exact hr
  | ok fl =>
    cases fl with
    | ret o =>
      obtain ⟨rfl, rfl⟩ := hr
      have ty : Shared.TypeIs { s with heap := s.heap.push (freshSet w) } (.ref s.heap.objs.size) "set" := ⟨_, gp, rfl⟩
      have il := T.init.lookup
      have ib := T.init.bind (.ref s.heap.objs.size)
      repeat (any_goals (first | assumption | wp_step))
      refine codeAny_mono (codeAny_call_builtin (R := wants (fun r t => r = .none ∧ ∃ h2 tk c, t = { s with heap := h2, toks := tk } ∧ SetR w h2 s.heap.objs.size (fun j => decide (j ∈ ms)) c ∧ c ≤ ms.length ∧ ∀ b o, s.heap.get? b = some o → h2.get? b = some o) E) T.init.plain F.entry_set_init (check_set_init_1 ty ?_)) fun r t hr => ?_
      · exact setInit_list (by simp [hA]) gp (hl.push _) hz hb fun h2 tk c hS hc kp => ⟨rfl, h2, tk, c, rfl, hS, hc, fun b o e => kp b o (Nat.ne_of_lt (Heap.lt_size e)) (Heap.get?_push_of_some _ e)⟩
      cases r with
      | error er => exact hr
      | ok fl =>
        cases fl with
        | ret o2 =>
          obtain ⟨rfl, h2, tk, c, rfl, hS, hc, kp⟩ := hr
          repeat (any_goals (first | assumption | wp_step))
          exact k _ _ _ hS hc kp
        | _ => exact hr.elim
    | _ => exact hr.elim
end
section
variable {X : Cx} {B : Bs} {ρ : Rho} {e a b c : Expr} {p p1 p2 p3 pos q : Pos} {Φ : PyData → Prop} {Ψ : Bool → Prop} {P0 : Program} {w : World} {K : PySem.W.Frag} {mg : Str → Option Value} {base : Heap} {N : List Str}
def rSetL (K : PySem.W.Frag) (w : World) : List V → Hp → VK → Prop := fun xs H Q => ∃ (l : Addr) (ns : List Int), xs = [.ref l] ∧ SqL K H l (ns.map V.int) ∧ ns.length + 1 < scanBound ∧ ∀ t n, H t = none → n ≤ ns.length → Q (.ref t) (upd H t (SetO w t (fun j => decide (j ∈ ns)) n))
theorem call_setL (hc : X.calm = true) : CallR X (.type "set") (rSetL X.K X.w) := by
  intro pins s σ H xs us Q I r h
  obtain ⟨l, ns, rfl, hq, hb, q⟩ := h
  rw [Vals.ref1 r]
  obtain ⟨its, rv, pl, _⟩ := I.list hq
  refine newSet_list (I.ok.hd hc) pl.isList (by simpa using RZ.intsAre_vals rv) hb fun h2 tk n hS hn kp => ?_
  exact ⟨.ref _, _, I.laid (a := s.heap.objs.size) (t' := tk) kp (Nat.le_refl _) (setO_new hS), rfl, q _ n (I.hok.fresh (Nat.le_refl _)) hn⟩
/-- sorted(set(e)), e a list of whole numbers -/
theorem ev_sortedSet (S : Same X P0 w K mg base N) (hm1 : mg "sorted" = none) (hm2 : mg "set" = none) (hg1 : Gl X "sorted") (hg2 : Gl X "set")
    (h : EvE X B ρ a fun d => ∃ ns : List Int, d = .list (ns.map PyData.int) ∧ ns.length < 60 ∧ ∀ ms : List Int, ms.Pairwise (· < ·) → (∀ k, k ∈ ms ↔ k ∈ ns) → Φ (.list (ms.map PyData.int)))
    (h1 : starEach [.Call (.Name "set" p1) [a] [] q] X.env = (false, eval (.Call (.Name "set" p1) [a] [] q) X.env) :: starEach [] X.env := by rfl) (h2 : (backTo pos (starEach [] X.env)).any (·.1) = false := by rfl)
    (h3 : starEach [a] X.env = (false, eval a X.env) :: starEach [] X.env := by rfl) (h4 : (backTo q (starEach [] X.env)).any (·.1) = false := by rfl) :
    EvE X B ρ (.Call (.Name "sorted" p) [.Call (.Name "set" p1) [a] [] q] [] pos) Φ :=
  pe_imp (pe_callB (cr_sortedSet S.c) hg1 (by rw [S.m]; exact hm1) (by decide +kernel) (pa_cons (pe_callTy (call_setL S.c) hg2 (by rw [S.m]; exact hm2) (by decide +kernel) (pa_cons h pa_nil h3) (by decide) (by decide) h3 h4) pa_nil h1) (by decide) (by decide) h1 h2)
    fun σ H Q ⟨E, k⟩ => ⟨E, fun v H1 d x1 E1 hd ⟨ns, ed, hl, hk⟩ => by
      subst ed
      obtain ⟨l, xs, rfl, hl1, _, hxs⟩ := Dn.list.mp hd
      have ex := ints_of hxs
      subst ex
      refine ⟨l, ns, rfl, SqL.of hl1, by unfold scanBound; omega, fun t n ht hn => ?_⟩
      refine ⟨t, _, n, rfl, upd_same, by omega, fun ms p srt mem len hp => ?_⟩
      have E2 := E1.new (o := SetO X.w t (fun j => decide (j ∈ ns)) n) ht
      refine k (.ref p) _ _ (x1.trans ((Ext.new ht).trans (Ext.new hp))) (E2.new hp) (Dn.list.mpr ⟨p, _, rfl, upd_same, E2.nx hp, DnAll.ints ms⟩) (hk ms srt fun z => by rw [mem]; simp)⟩
end
end Vw

/-! sorted of truth values; a list under way, read by what makes another list; `in` over tuples of numbers and of texts -/
namespace Vw
open PySem PySem.Spec L2 PyProof.Rows PySem.W
section
variable {X : Cx} {B : Bs} {ρ : Rho} {e a b c : Expr} {p p1 p2 p3 pos q : Pos} {Φ : PyData → Prop} {Ψ : Bool → Prop} {P0 : Program} {w : World} {K : PySem.W.Frag} {mg : Str → Option Value} {base : Heap} {N : List Str}
theorem each_bools : ∀ {bs : List Bool} {us : List Value}, Vals (bs.map V.bl) us → EachIs (fun v b => v = Value.bool b) us bs
  | [], _, .nil => .nil
  | b :: bs, _, .cons r t => by
    cases r
    exact .cons rfl (each_bools t)
theorem vals_bools : ∀ {bs : List Bool} {us : List Value}, EachIs (fun v b => v = Value.bool b) us bs → Vals (bs.map V.bl) us
  | [], _, .nil => .nil
  | b :: bs, _, .cons r t => by
    cases r
    exact .cons rfl (vals_bools t)
theorem each_reads (h : Heap) : ∀ {bs : List Bool} {us : List Value}, EachIs (fun v b => v = Value.bool b) us bs → EachIs (fun v b => ∃ as, Reads h v (PyData.bool b) as) us bs
  | [], _, .nil => .nil
  | b :: bs, _, .cons r t => by
    cases r
    exact .cons ⟨[], Reads.bool b⟩ (each_reads h t)
theorem dn_bools {ex : Addr → Prop} {H : Hp} : ∀ cs : List Bool, DnAll ex H (cs.map PyData.bool) (cs.map V.bl)
  | [] => DnAll.nil.mpr rfl
  | c :: cs => DnAll.cons.mpr ⟨_, _, rfl, Dn.bool.mpr rfl, dn_bools cs⟩
def srtB (bs : List Bool) : List Bool := bs.mergeSort (PySem.W.dataLe false PyData.bool)
def rSortB (K : PySem.W.Frag) : List V → Hp → VK → Prop := fun xs H Q => ∃ (l : Addr) (bs : List Bool), xs = [.ref l] ∧ SqL K H l (bs.map V.bl) ∧ bs.length ≤ 1000 ∧ ∀ t, H t = none → Q (.ref t) (upd H t (.lst ((srtB bs).map V.bl)))
theorem call_sortedB (hu : X.A.units + 64 < cLine) : CallR X (.builtin "sorted") (rSortB X.K) := by
  intro pins s σ H xs us Q I r h
  obtain ⟨l, bs, rfl, hq, hb, q⟩ := h
  rw [Vals.ref1 r]
  obtain ⟨its, rv, pl, _⟩ := I.list hq
  have eb := each_bools rv
  refine PySem.W.sorted_data (bs := bs) (enc := PyData.bool) (R := fun v b => v = Value.bool b) pl.isList eb (each_reads s.heap eb) (PySem.W.AllAlike.of fun b b' => rfl) (PySem.W.Sortable.others fun b => ⟨fun z => (nomatch z), fun xs z => (nomatch z)⟩) (Nat.le_trans hb (by decide)) (fun b _ => by show X.A.units + 2 + 0 < cLine; omega) fun out ho eo => ?_
  obtain ⟨n, hn⟩ := sortedAll_at s.heap its (List.toArray out)
  have lo : ((srtB bs).map V.bl).length ≤ sizeLine := by
    have : (1000 : Nat) ≤ sizeLine := by decide
    simp only [srtB, List.length_map, List.length_mergeSort]
    omega
  exact ⟨.ref _, _, I.laid (a := s.heap.objs.size + 1) (o := .lst ((srtB bs).map V.bl)) (t' := s.toks) (fun b o e => sortedAll_old e) (Nat.le_succ _) ⟨lo, out, n, vals_bools eo, hn⟩, rfl, q _ (I.hok.fresh (Nat.le_succ _))⟩
theorem ev_sortedB (S : Same X P0 w K mg base N) {j : Nat} (hr : Rm j X.A) (hm : mg "sorted" = none) (hg : Gl X "sorted") (h : EvE X B ρ a fun d => ∃ bs : List Bool, d = .list (bs.map PyData.bool) ∧ bs.length ≤ 1000 ∧ Φ (.list ((srtB bs).map PyData.bool)))
    (he : starEach [a] X.env = (false, eval a X.env) :: starEach [] X.env := by rfl) (hpl : (backTo pos (starEach [] X.env)).any (·.1) = false := by rfl) : EvE X B ρ (.Call (.Name "sorted" p) [a] [] pos) Φ :=
  pe_imp (pe_callB (call_sortedB (by have := hr.r.un; omega)) hg (by rw [S.m]; exact hm) (by decide +kernel) (pa_cons h pa_nil he) (by decide) (by decide) he hpl) fun σ H Q ⟨E, k⟩ => ⟨E, fun v H1 d x1 E1 hd ⟨bs, ed, hl, hk⟩ => by
    subst ed
    obtain ⟨l, xs, rfl, hl1, _, hxs⟩ := Dn.list.mp hd
    have ex := bools_of hxs
    subst ex
    refine ⟨l, bs, rfl, SqL.of hl1, hl, fun t ht => k (.ref t) _ _ (x1.trans (Ext.new ht)) (E1.new ht) (Dn.list.mpr ⟨t, _, rfl, upd_same, E1.nx ht, dn_bools _⟩) hk⟩⟩
theorem dle (x y : Bool) : dataLe false PyData.bool x y = (!x || y) := by cases x <;> cases y <;> rfl
theorem srtB_1 : srtB [true, false, false] = [false, false, true] := by simp [srtB, List.mergeSort, List.MergeSort.Internal.splitInTwo, dle, List.merge]
theorem srtB_2 : srtB [false, true, false] = [false, false, true] := by simp [srtB, List.mergeSort, List.MergeSort.Internal.splitInTwo, dle, List.merge]
theorem srtB_3 : srtB [false, false, true] = [false, false, true] := by simp [srtB, List.mergeSort, List.MergeSort.Internal.splitInTwo, dle, List.merge]
/-- what makes a list may read an own list, if what comes out has no list in it -/
theorem ef_frz {Ξ : List PyData → Prop} {i : Nat} {ds : List PyData} (hr : ρ[i]? = some (some (.own ds))) (h : EvF X B (ρ.set i (some (.dat (.list ds)))) e fun ds => noLstAll ds = true ∧ Ξ ds) : EvF X B ρ e Ξ :=
  pe_imp h fun σ H Q ⟨E, k⟩ => ⟨E.freeze hr, fun p H1 es vs x nh ok E' hp np hd ⟨nl, hΞ⟩ => by
    have EA : En (B.add p) ρ σ H1 := (E.add (o := .lst vs) nh).ext (fun y o e n => by
      by_cases hy : y = p
      · subst hy
        rw [upd_same] at e
        cases e
        exact hp
      · rw [upd_ne hy] at e
        exact x y o e n) (ok.add (by rw [hp]; exact fun z => nomatch z))
    refine k p H1 es vs x nh ok EA hp (fun z => ?_) (DnAll.thaw (fun y z => ?_) es vs nl hd) hΞ
    · rcases z with z | z
      · exact np (.inl z)
      · obtain ⟨_, ws, e, _⟩ := E.ownLive z
        rw [nh] at e
        cases e
    · rcases z with z | z
      · exact .inl (.inl z)
      · obtain ⟨_, ws, e, _⟩ := EA.ownLive z
        exact .inr ⟨ws, e⟩⟩
end
end Vw

/-! `in` over a tuple of numbers or of texts; what a dict holds at a tuple -/
namespace Vw
open PySem PySem.Spec L2 PyProof.Rows
section
variable {X : Cx} {B : Bs} {ρ : Rho} {e a b c : Expr} {p p1 p2 p3 pos q : Pos} {Φ : PyData → Prop} {Ψ : Bool → Prop} {P0 : Program} {w : World} {K : PySem.W.Frag} {mg : Str → Option Value} {base : Heap} {N : List Str}
theorem strs_of {ex : Addr → Prop} {H : Hp} : ∀ {ns : List Str} {vs : List V}, DnAll ex H (ns.map PyData.str) vs → vs = ns.map V.str
  | [], vs, h => DnAll.nil.mp h
  | n :: ns, vs, h => by
    obtain ⟨v, r, rfl, h1, h2⟩ := DnAll.cons.mp h
    rw [Dn.str.mp h1, strs_of h2]
    rfl
theorem inV_ints (i : Int) : ∀ js : List Int, inV (.int i) (js.map V.int) = decide (i ∈ js)
  | [] => by simp [inV]
  | j :: js => by
    have := inV_ints i js
    unfold inV at this ⊢
    rw [List.map_cons, List.any_cons, this]
    show ((j == i) || _) = _
    by_cases h : j = i
    · subst h; simp
    · have h' : ¬ i = j := fun z => h z.symm
      simp [h, h']
theorem inV_strs (i : Str) : ∀ js : List Str, inV (.str i) (js.map V.str) = decide (i ∈ js)
  | [] => by simp [inV]
  | j :: js => by
    have := inV_strs i js
    unfold inV at this ⊢
    rw [List.map_cons, List.any_cons, this]
    show ((j == i) || _) = _
    by_cases h : j = i
    · subst h; simp
    · have h' : ¬ i = j := fun z => h z.symm
      simp [h, h']
theorem od_inI {i : Int} {js : List Int} (h : Φ (.bool (decide (i ∈ js)))) : OpD B ρ (rIn K false) (.int i) (.tuple (js.map PyData.int)) Φ := fun σ H v u Q E d1 d2 k => by
  obtain ⟨t, xs, rfl, ht, _, r⟩ := Dn.tuple.mp d2
  have ex := ints_of r
  subst ex
  rw [Dn.int.mp d1]
  refine ⟨t, _, rfl, .inr (SqT.of ht), rfl, by simp [flatV], ?_⟩
  refine k _ H _ Ext.refl E (Dn.bool.mpr ?_) h
  rw [inV_ints]; rfl
theorem od_inS {i : Str} {js : List Str} (h : Φ (.bool (decide (i ∈ js)))) : OpD B ρ (rIn K false) (.str i) (.tuple (js.map PyData.str)) Φ := fun σ H v u Q E d1 d2 k => by
  obtain ⟨t, xs, rfl, ht, _, r⟩ := Dn.tuple.mp d2
  have ex := strs_of r
  subst ex
  rw [Dn.str.mp d1]
  refine ⟨t, _, rfl, .inr (SqT.of ht), rfl, by simp [flatV], ?_⟩
  refine k _ H _ Ext.refl E (Dn.bool.mpr ?_) h
  rw [inV_strs]; rfl
theorem ev_inI (h : EvE X B ρ a fun x => EvE X B ρ b fun y => ∃ (i : Int) (js : List Int), x = .int i ∧ y = .tuple (js.map PyData.int) ∧ Φ (.bool (decide (i ∈ js)))) (hm : behindInMarks .In b = false := by rfl) : EvE X B ρ (.Compare a [.In] [b] pos) Φ :=
  ev_cmp op_in_seq hm (ev_mono h fun x hb => ev_mono hb fun y ⟨i, js, e1, e2, hΦ⟩ => by subst e1 e2; exact od_inI hΦ)
theorem et_inS (h : EvE X B ρ a fun x => EvE X B ρ b fun y => ∃ (i : Str) (js : List Str), x = .str i ∧ y = .tuple (js.map PyData.str) ∧ Ψ (decide (i ∈ js))) (hm : behindInMarks .In b = false := by rfl) : EvT X B ρ (.Compare a [.In] [b] pos) Ψ :=
  et_cmp op_in_seq hm (ev_mono h fun x hb => ev_mono hb fun y ⟨i, js, e1, e2, hΦ⟩ => by subst e1 e2; exact od_inS ⟨_, rfl, hΦ⟩)
/-! ### a dict, asked at a tuple of ints and texts -/
def tdD (kvs : List (List Key × PyData)) : PyData := .dict (kvs.map fun x => (.tuple (x.1.map kD), x.2))
def atT : List (List Key × PyData) → List Key → Option PyData
  | [], _ => none
  | (k, d) :: r, ks => if k = ks then some d else atT r ks
theorem kD_inj {x y : Key} (h : kD x = kD y) : x = y := by
  cases x <;> cases y <;> simp [kD] at h <;> rw [h]
theorem kDs_inj : ∀ {xs ys : List Key}, xs.map kD = ys.map kD → xs = ys
  | [], [], _ => rfl
  | [], _ :: _, h => by cases h
  | _ :: _, [], h => by cases h
  | x :: xs, y :: ys, h => by
    rw [List.map_cons, List.map_cons] at h
    injection h with h1 h2
    rw [kD_inj h1, kDs_inj h2]
theorem kt_val {ex : Addr → Prop} {H : Hp} (ks : List Key) : ∀ {kvs : List (List Key × PyData)} {L : List (List Key × V)} {d : PyData}, DnKt ex H (kvs.map fun x => (.tuple (x.1.map kD), x.2)) L → atT kvs ks = some d → ∃ v, valV L ks = some v ∧ Dn ex H d v
  | [], L, d, h, e => by cases e
  | (k, d0) :: kvs, L, d, h, e => by
    obtain ⟨key, v, r, rfl, ek, h1, h2⟩ := DnKt.cons.mp h
    have ek : key = k := kDs_inj (by injection ek)
    subst ek
    unfold atT at e
    by_cases hk : key = ks
    · subst hk
      rw [if_pos rfl] at e
      cases e
      exact ⟨v, by simp [valV], h1⟩
    · rw [if_neg hk] at e
      obtain ⟨u, e1, e2⟩ := kt_val ks h2 e
      refine ⟨u, ?_, e2⟩
      unfold valV at e1 ⊢
      rw [List.find?_cons]
      simp only [hk, decide_false]
      exact e1
theorem keys_of {ex : Addr → Prop} {H : Hp} : ∀ {ks : List Key} {vs : List V}, DnAll ex H (ks.map kD) vs → vs = ks.map kV
  | [], vs, h => DnAll.nil.mp h
  | k :: ks, vs, h => by
    obtain ⟨v, r, rfl, h1, h2⟩ := DnAll.cons.mp h
    rw [keys_of h2, List.map_cons]
    congr 1
    cases k with
    | inl i => exact Dn.int.mp h1
    | inr x => exact Dn.str.mp h1
theorem ev_dgetT {j : Nat} (hr : Rm j X.A) (hs : NoSl b) (h : EvE X B ρ a fun x => EvE X B ρ b fun y => ∃ (kvs : List (List Key × PyData)) (ks : List Key) (d : PyData), x = tdD kvs ∧ y = .tuple (ks.map kD) ∧ atT kvs ks = some d ∧ Φ d) : EvE X B ρ (.Subscript a b pos) Φ :=
  pe_imp (pe_dget (by have := hr.r.un; omega) h pe_s hs) fun σ H Q ⟨E, k⟩ => ⟨E, fun v H1 x e1 E1 d1 hb => ⟨_, hb, E1, fun u H2 y e2 E2 d2 ⟨kvs, ks, d, ex, ey, hat, hΦ⟩ => by
    subst ex ey
    obtain ⟨t, rfl, nt, ⟨L, hL, r⟩ | ⟨L, hL, r⟩⟩ := Dn.dict.mp (E1.dn e2 d1)
    · cases kvs with
      | nil => cases hat
      | cons kv kvs =>
        obtain ⟨key, v0, r0, _, e3, _, _⟩ := DnKv.cons.mp r
        cases key <;> cases e3
    · obtain ⟨q, xs, rfl, hq, _, rx⟩ := Dn.tuple.mp d2
      have ex := keys_of rx
      subst ex
      obtain ⟨v, e3, hd⟩ := kt_val ks r hat
      refine ⟨t, v, rfl, ?_, k v H2 d (e1.trans e2) E2 hd hΦ⟩
      rw [← e3]
      exact DGet.t hL hq⟩⟩
end
end Vw

/-! {k: v for .. in a list}, the keys tuples of ints and texts -/
namespace Vw
open PySem PySem.Spec L2 PyProof.Rows
section
variable {X : Cx} {pins : List (Addr × Obj)} {σ : L2.St} {H : Hp} {s : Shared}
/-- a store under a tuple, as a comprehension does it -/
theorem putUnder {err : Value → Shared → Prop} {T q : Addr} {L : List (List Key × V)} {ks : List Key} {v : V} {u : Value} {R : Unit → Shared → Prop} (room : X.A.units + 1 < cLine) (I : Inv X pins σ H s) (hT : H T = some (.dT L)) (few : L.length < sizeLine) (hq : H q = some (.tup (ks.map kV)))
    (hv : RelV v u) (go : ∀ t, Inv X pins σ (upd H T (.dT (putK L ks v))) t → R () t) : wpAny (model X.prog X.w) X.A (dictSet T (.ref q) u) R err s := by
  obtain ⟨lz, ns, xs, kt, dd⟩ := dt_of I.hok hT
  have len : xs.length = L.length := (Paired.length kt).symm
  have le2 : (putK L ks v).length ≤ sizeLine := Nat.le_trans (length_putK L ks v) few
  refine wpAny_dictSet_heap (hsz := by omega) (show X.A.units < cLine by omega) (key_of I.hok hq) dd fun h2 dd2 sb => go _ ?_
  obtain ⟨ob, es, ep, g1, g2, g3, g4, _, g6⟩ := dd2
  have other : ∀ c ys, H c = some (.tup ys) → upd H T (.dT (putK L ks v)) c = some (.tup ys) := fun c ys e => by
    rw [upd_ne (ne_of e hT (fun z => nomatch z))]
    exact e
  exact d_write I (by rw [hT]; exact True.intro) sb ⟨ob, g1⟩ ⟨le2, ns, _, (kt.put ks hq hv).keeps other, ob, es, ep, g1, g2, g3, g4, g6⟩
/-- what is asked of a turn's parts -/
def tDcT (wi : TI) (g : TG) (tk tv : TE) (vs : List Nat) : TE := fun σ H Q => wi σ H fun J H1 => ∀ T, H1 T = none → ∃ W : Nat → Nat → Hp → Prop, (∃ m, W 0 m (upd H1 T (.dT []))) ∧ ∀ i m H, W i m H →
  (J.stop i H ∧ Q (.ref T) H) ∨ (J.go i H ∧ ∃ Nx : Hp → Prop, (∀ H', Nx H' → ∃ m', m' < m ∧ W (i + 1) m' H') ∧ ∀ x H', J.yld i H x H' → g x (wipe σ vs) H' fun σ2 H2 => wipe σ2 vs = wipe σ vs ∧
    tk σ2 H2 fun y H4 => tv σ2 H4 fun z H5 => ∃ L ks q, y = .ref q ∧ H5 q = some (.tup (ks.map kV)) ∧ H5 T = some (.dT L) ∧ L.length < sizeLine ∧ Nx (upd H5 T (.dT (putK L ks z))))
variable {kx vx tg iter : Expr} {scope : Scope} {own : List (Str × Nat)} {pos : Pos} {wi : TI} {g : TG} {tk tv : TE}
theorem pe_dcT (room : X.A.units + 1 < cLine) (calm : X.calm = true) (nd : X.N.Nodup) (it : PI X tg iter wi) (ok : BlkOk X.N X.env.scope scope own)
    (hg : ∀ (s : Shared) (H : Hp) (C : Addr) (cl : List (Str × Addr)) (fp : List Addr), PG (X.blk s H scope (compEnvC scope cl C X.env) fp) tg g)
    (hk : ∀ (s : Shared) (H : Hp) (C : Addr) (cl : List (Str × Addr)) (fp : List Addr), PE (X.blk s H scope (compEnvC scope cl C X.env) fp) kx tk)
    (hv : ∀ (s : Shared) (H : Hp) (C : Addr) (cl : List (Str × Addr)) (fp : List Addr), PE (X.blk s H scope (compEnvC scope cl C X.env) fp) vx tv) (fs : ∀ x, foldedSetIterable iter X.env x = pure x := by intro _; rfl) :
    PE X (.DictComp kx vx [⟨tg, iter, [], 0⟩] scope pos) (tDcT wi g tk tv (own.map (·.2))) := by
  refine ⟨fun pins s σ H Q I0 want => ?_⟩
  rw [arm_eval_DictComp]
  have caught : ∀ y ∈ scope.names, y.2 = .free → ∃ c, X.env.cells.lookup y.1 = some c := fun y hy e => I0.ok.has _ (ok.free y hy e)
  refine wpAny_comprehension_free (use := none) rfl fs (closure_ok caught) ok.kind (fun y hy e => by rw [ok.uniq y hy, e]) (thn (it.run pins s σ H _ I0 want) fun xv t1 hx => thn hx fun itv t2 at2 => ?_)
  obtain ⟨ia, fp, stt, J, H2, rfl, I2, TT, now2, free2, rest⟩ := at2
  refine wpAny_newObj_type (newEnv_comp ?_)
  have hT : H2 t2.heap.objs.size = none := I2.hok.fresh (Nat.le_refl _)
  obtain ⟨W, ⟨m0, w0⟩, turn⟩ := rest _ hT
  -- the new dict, laid
  obtain ⟨t3, e3⟩ : ∃ t3 : Shared, t3 = { t2 with heap := t2.heap.push { cls := .type "dict", data := .dict #[] } } := ⟨_, rfl⟩
  obtain ⟨H3, eH3⟩ : ∃ H3 : Hp, H3 = upd H2 t2.heap.objs.size (.dT []) := ⟨_, rfl⟩
  have heap3 : t3.heap = t2.heap.push { cls := .type "dict", data := .dict #[] } := by rw [e3]
  have I3 : Inv X pins σ H3 t3 := by
    rw [e3, eH3]
    exact I2.laid (t' := t2.toks) (fun _ _ z => Heap.get?_push_of_some _ z) (Nat.le_refl _) (dt_empty t2.heap I2.big)
  have below : ∀ b ∈ fp, b < t2.heap.objs.size := fun b hb => by
    obtain ⟨_, z, _⟩ := TT.obj _ _ now2 b hb
    exact Heap.lt_size z
  have free3 : ∀ b ∈ fp, FpOk X pins H3 b ∧ b < t3.heap.objs.size := fun b hb => by
    have lt := below b hb
    obtain ⟨z1, z2⟩ := free2 b hb
    have ne : b ≠ t2.heap.objs.size := Nat.ne_of_lt lt
    exact ⟨⟨by rw [eH3, upd_ne ne]; exact z1, z2⟩, by rw [heap3, Heap.size_push]; exact Nat.lt_succ_of_lt lt⟩
  have now3 : stt 0 t3.heap := TT.keep _ _ _ now2 fun _ _ _ z => by rw [heap3]; exact Heap.get?_push_of_some _ z
  have I4 := block_start I3 ok nd free3
  have g4 := hg t3 H3 t3.heap.objs.size (cellsFrom (t3.heap.objs.size + 1) scope.names (cloFrom X.env.cells scope.names [])) fp
  have k4 := hk t3 H3 t3.heap.objs.size (cellsFrom (t3.heap.objs.size + 1) scope.names (cloFrom X.env.cells scope.names [])) fp
  have v4 := hv t3 H3 t3.heap.objs.size (cellsFrom (t3.heap.objs.size + 1) scope.names (cloFrom X.env.cells scope.names [])) fp
  rw [← e3]
  show codeAny _ _ (.compStart (.DictComp kx vx [⟨tg, iter, [], 0⟩] scope pos) 0 (.ref ia) (.ref t2.heap.objs.size) (compEnvC scope (cellsFrom (t3.heap.objs.size + 1) scope.names (cloFrom X.env.cells scope.names [])) t3.heap.objs.size X.env)) (compPost (model X.prog X.w) X.A X.xe none (EP X pins σ Q) (.ref t2.heap.objs.size) t3.heap.objs.size) { t3 with heap := pushCells (t3.heap.push { cls := .type "dict", data := .dict #[] }) scope.names }
  obtain ⟨ev, eev⟩ : ∃ ev, ev = compEnvC scope (cellsFrom (t3.heap.objs.size + 1) scope.names (cloFrom X.env.cells scope.names [])) t3.heap.objs.size X.env := ⟨_, rfl⟩
  have loc : ev.locals = t3.heap.objs.size := by rw [eev]; rfl
  rw [← eev] at I4 g4 k4 v4 ⊢
  obtain ⟨t4, e4⟩ : ∃ t4 : Shared, t4 = { t3 with heap := pushCells (t3.heap.push { cls := .type "dict", data := .dict #[] }) scope.names } := ⟨_, rfl⟩
  rw [← e4] at I4 ⊢
  have now4 : stt 0 t4.heap := TT.keep _ _ _ now3 fun _ _ _ z => by rw [e4]; exact pushCells_keeps _ _ _ _ (Heap.get?_push_of_some _ z)
  have away : ∀ {σ' : L2.St} {H' : Hp} {t : Shared}, Inv (X.blk t3 H3 scope ev fp) [] σ' H' t → (∀ b ∈ fp, H' b = none) → ∀ b ∈ fp, FpOk (X.blk t3 H3 scope ev fp) [] H' b := fun I' hn b hb => by
    obtain ⟨z1, z2⟩ := I'.ok.exf b hb
    exact ⟨hn b hb, z1, I'.ok.exfs b hb, .inl hb, fun x c e => z2 x c e, fun p hp => absurd (show p ∈ ([] : List (Addr × Obj)) ++ [] from hp) (by simp)⟩
  rw [← eH3] at w0
  have loop : codeAny (model X.prog X.w) X.A (.compLoop (.DictComp kx vx [⟨tg, iter, [], 0⟩] scope pos) 0 (.ref ia) (.ref t2.heap.objs.size) ev) (compPost (model X.prog X.w) X.A X.xe none (EP X pins σ Q) (.ref t2.heap.objs.size) t3.heap.objs.size) t4 := by
    refine compLoop_anyD (fun n t => ∃ i H', Inv (X.blk t3 H3 scope ev fp) [] (wipe σ (own.map (·.2))) H' t ∧ stt i t.heap ∧ (∀ b ∈ fp, H' b = none) ∧ W i n H') ?_ m0 ⟨0, H3, I4, now4, fun b hb => (free3 b hb).1.1, w0⟩
    rintro n t5 ⟨i, H5, I5, now5, none5, w5⟩
    rcases turn i n H5 w5 with ⟨halt, fin⟩ | ⟨go, Nx, nx, step⟩
    · refine thnF (TT.done (X.blk t3 H3 scope ev fp) rfl rfl rfl calm i [] t5 _ H5 (fun _ _ => False) I5 (away I5 none5) now5 halt) fun r t6 ⟨er, I6⟩ => ?_
      subst er
      have I7 : Inv X pins σ H5 t6 := I3.call' (ch := fp) I6.os I6.base I6.hok I6.bare fun b hb => by
        obtain ⟨⟨_, y2, y3, y4, y5, y6⟩, _⟩ := free3 b hb
        exact ⟨y4, y2, y5, y6⟩
      have nC : H5 t3.heap.objs.size = none := by
        have z : H5 ev.locals = none := I6.free
        rwa [loc] at z
      obtain ⟨mm, hn, _⟩ := I6.loc
      have hn : t6.heap.Ns ev.locals mm := hn
      rw [loc] at hn
      obtain ⟨f0, f1, f2, f3, f4, f5⟩ := I3.fpOk (Nat.le_refl _) nC
      exact ⟨mm, hn, fun h'' sb => ⟨.ref _, H5, I7.turned (t' := t6.toks) (fun b o hb z => (sb.2 b hb).trans z) f0 f1 f3 f4 f5, rfl, fin⟩⟩
    · refine thnF (TT.item (X.blk t3 H3 scope ev fp) rfl rfl rfl calm i [] t5 _ H5 (fun _ _ => False) I5 (away I5 none5) now5 go) fun r t6 ⟨u, er, at6⟩ => ?_
      subst er
      refine thnF at6 fun _ t7 ⟨x, H7, I7, r7, y7, now7, none7⟩ => ?_
      have I7p := I7.pinned (away I7 none7) (TT.obj _ _ now7)
      refine thnF (g4.run _ t7 _ H7 x u _ I7p r7 (step x H7 y7)) fun _ t8 ⟨σ8, H8, I8, wp8, q8⟩ => ?_
      refine wpAny_pure ?_
      show wpAny _ _ _ _ _ _
      refine thnF (k4.run _ t8 σ8 H8 _ I8 q8) fun z1 t10 ⟨yk, H10, I10, r10, q10⟩ => ?_
      refine thnF (v4.run _ t10 σ8 H10 _ I10 q10) fun z2 t11 ⟨yv, H11, I11, r11, L, ks, q, eq, hq, hL, few, nxt⟩ => ?_
      subst eq
      cases (show z1 = Value.ref q from r10)
      refine putUnder (X := X.blk t3 H3 scope ev fp) room I11 hL few hq r11 fun t12 I12 => ?_
      obtain ⟨m2, lt2, w2⟩ := nx _ nxt
      have pin : ∀ b ∈ fp, ∀ o, t7.heap.get? b = some o → t12.heap.get? b = some o ∧ upd H11 t2.heap.objs.size (.dT (putK L ks yv)) b = none := fun b hb o e => by
        obtain ⟨z1, z2, _⟩ := I12.pin (b, o) (List.mem_append_right _ (List.mem_append_right _ (mem_pinsAt hb e)))
        exact ⟨z1, z2⟩
      have ls : (wipe σ (own.map (·.2))).length = σ8.length := by rw [← wp8, wipe_length]
      refine ⟨m2, lt2, i + 1, _, (I12.unpinned (pins := [])).weak ls (fun j v e => ?_), TT.keep _ _ _ now7 fun b hb o e => (pin b hb o e).1, fun b hb => ?_, w2⟩
      · rw [← wp8] at e
        exact (wipe_some e).1
      · obtain ⟨o, e, _⟩ := TT.obj _ _ now7 b hb
        exact (pin b hb o e).2
  exact codeAny_compStart_dict loop (TT.self X.A 0 _ _ _ now4 loop)
end
end Vw

/-! a dict comprehension over a list of data, the keys tuples of ints and texts -/
namespace Vw
open PySem PySem.Spec L2
def prT (x : List Key × PyData) : PyData × PyData := (.tuple (x.1.map kD), x.2)
def putT (kvs : List (List Key × PyData)) (k : List Key) (d : PyData) : List (List Key × PyData) :=
  if (kvs.any fun kv => decide (kv.1 = k)) = true then kvs.map (fun kv => if kv.1 = k then (kv.1, d) else kv) else kvs ++ [(k, d)]
section
variable {ex : Addr → Prop} {H : Hp}
theorem kt_len : ∀ {kvs : List (List Key × PyData)} {L : List (List Key × V)}, DnKt ex H (kvs.map prT) L → kvs.length = L.length
  | [], L, h => by rw [DnKt.nil.mp h]; rfl
  | (k, d0) :: kvs, L, h => by
    obtain ⟨key, v, r, rfl, ek, h1, h2⟩ := DnKt.cons.mp h
    simp [kt_len h2]
theorem kt_any (k : List Key) : ∀ {kvs : List (List Key × PyData)} {L : List (List Key × V)}, DnKt ex H (kvs.map prT) L → (kvs.any fun kv => decide (kv.1 = k)) = (L.any fun kv => decide (kv.1 = k))
  | [], L, h => by rw [DnKt.nil.mp h]; rfl
  | (k0, d0) :: kvs, L, h => by
    obtain ⟨key, v, r, rfl, ek, h1, h2⟩ := DnKt.cons.mp h
    have ek : key = k0 := kDs_inj (by injection ek)
    subst ek
    rw [List.any_cons, List.any_cons, kt_any k h2]
theorem kt_map (k : List Key) {d : PyData} {u : V} (hd : Dn ex H d u) : ∀ {kvs : List (List Key × PyData)} {L : List (List Key × V)}, DnKt ex H (kvs.map prT) L →
    DnKt ex H ((kvs.map (fun kv => if kv.1 = k then (kv.1, d) else kv)).map prT) (L.map fun kv => if kv.1 = k then (kv.1, u) else kv)
  | [], L, h => by rw [DnKt.nil.mp h]; exact DnKt.nil.mpr rfl
  | (k0, d0) :: kvs, L, h => by
    obtain ⟨key, v, r, rfl, ek, h1, h2⟩ := DnKt.cons.mp h
    have ek : key = k0 := kDs_inj (by injection ek)
    subst ek
    have t := kt_map k hd h2
    rw [List.map_cons, List.map_cons, List.map_cons]
    dsimp only
    by_cases e : key = k
    · rw [if_pos e, if_pos e]
      exact DnKt.cons.mpr ⟨_, _, _, rfl, rfl, hd, t⟩
    · rw [if_neg e, if_neg e]
      exact DnKt.cons.mpr ⟨_, _, _, rfl, rfl, h1, t⟩
theorem kt_snoc (k : List Key) {d : PyData} {u : V} (hd : Dn ex H d u) : ∀ {kvs : List (List Key × PyData)} {L : List (List Key × V)}, DnKt ex H (kvs.map prT) L → DnKt ex H ((kvs ++ [(k, d)]).map prT) (L ++ [(k, u)])
  | [], L, h => by rw [DnKt.nil.mp h]; exact DnKt.cons.mpr ⟨_, _, _, rfl, rfl, hd, DnKt.nil.mpr rfl⟩
  | (k0, d0) :: kvs, L, h => by
    obtain ⟨key, v, r, rfl, ek, h1, h2⟩ := DnKt.cons.mp h
    exact DnKt.cons.mpr ⟨_, _, _, rfl, ek, h1, kt_snoc k hd h2⟩
theorem kt_put (k : List Key) {d : PyData} {u : V} (hd : Dn ex H d u) {kvs : List (List Key × PyData)} {L : List (List Key × V)} (h : DnKt ex H (kvs.map prT) L) : DnKt ex H ((putT kvs k d).map prT) (putK L k u) := by
  unfold putT putK
  rw [kt_any k h]
  split
  · exact kt_map k hd h
  · exact kt_snoc k hd h
end
section
variable {X : Cx} {scope : Scope} {B : Bs} {ρ : Rho} {σ : L2.St} {H1 : Hp} {D : Addr} {vs : List Nat} {kx vx tg iter : Expr} {T : PyData → Rho → (Rho → Prop) → Prop} {n : Nat} {at_ : Nat → PyData → Prop} {pos : Pos} {own : List (Str × Nat)} {Φ : PyData → Prop}
/-- a turn: the key, then what is put there -/
def TurnT (X : Cx) (scope : Scope) (kx vx : Expr) (J : List (List Key × PyData) → Prop) (acc : List (List Key × PyData)) (B' : Bs) (ρ2 : Rho) : Prop :=
  ∀ (s : Shared) (H : Hp) (C : Addr) (cl : List (Str × Addr)) (fp : List Addr), EvE (X.blk s H scope (compEnvC scope cl C X.env) fp) B' ρ2 kx fun y => ∃ ks, y = .tuple (ks.map kD) ∧
    ∀ (s : Shared) (H : Hp) (C : Addr) (cl : List (Str × Addr)) (fp : List Addr), EvE (X.blk s H scope (compEnvC scope cl C X.env) fp) B' ρ2 vx fun d => acc.length < sizeLine ∧ J (putT acc ks d)
def DcD (X : Cx) (scope : Scope) (B : Bs) (ρ : Rho) (vs : List Nat) (kx vx : Expr) (T : PyData → Rho → (Rho → Prop) → Prop) (n : Nat) (at_ : Nat → PyData → Prop) (Φ : PyData → Prop) : Prop := ∃ J : Nat → List (List Key × PyData) → Prop, J 0 [] ∧
  (∀ k d acc (B' : Bs), B'.src = B.src → k < n → at_ k d → J k acc → T d (blkR ρ vs) fun ρ2 => TurnT X scope kx vx (J (k + 1)) acc B' ρ2) ∧ ∀ acc, J n acc → Φ (tdD acc)
def DcP (B : Bs) (ρ : Rho) (σ : L2.St) (H1 : Hp) (D : Addr) (J : Nat → List (List Key × PyData) → Prop) (i : Nat) (H : Hp) : Prop := ∃ acc L, H D = some (.dT L) ∧ DnKt (exO (B.add D) ρ σ) H (acc.map prT) L ∧ J i acc ∧ En (B.add D) ρ σ H ∧ Ext B H1 H ∧ B.Ok H
theorem dc_turn {J : Nat → List (List Key × PyData) → Prop} {g : TG} (E0 : En B ρ σ H1) (hD : H1 D = none) {i : Nat} {d : PyData} {v : V} {H : Hp}
    (q1 : ∀ B d ρ C v σ H Q, T d ρ C → En B ρ σ H → Dn (exO B ρ σ) H d v → (∀ ρ' σ', En B ρ' σ' H → wipe σ' vs = wipe σ vs → C ρ' → Q σ' H) → g v σ H Q)
    (ht : ∀ acc (B' : Bs), B'.src = B.src → J i acc → T d (blkR ρ vs) fun ρ2 => TurnT X scope kx vx (J (i + 1)) acc B' ρ2)
    (p : DcP B ρ σ H1 D J i H) (hd : Dn (exO (B.add D) ρ σ) H d v) :
    g v (wipe σ vs) H fun σ2 H2 => wipe σ2 vs = wipe σ vs ∧ sEc X scope kx σ2 H2 fun y H4 => sEc X scope vx σ2 H4 fun z H5 => ∃ L ks q, y = .ref q ∧ H5 q = some (.tup (ks.map kV)) ∧ H5 D = some (.dT L) ∧ L.length < sizeLine ∧ DcP B ρ σ H1 D J (i + 1) (upd H5 D (.dT (putK L ks z))) := by
  obtain ⟨acc, L, hl, ha, hj, E, x, ok⟩ := p
  have Eb := E.blk.wipe vs
  have nown : ∀ x, ¬ Own (blkR ρ vs) (wipe σ vs) x := by
    have gen : ∀ vs x, Own (wipeR (ρ.map noO) vs) (wipe σ vs) x → Own (ρ.map noO) σ x := fun vs => by
      induction vs with
      | nil => exact fun x h => h
      | cons w ws ih => exact fun x h => ih x (own_set (fun ds z => by cases z) h)
    exact fun x h => by
      obtain ⟨j, ds, e, _⟩ := gen vs x h
      exact (noO_get e).2 ds rfl
  refine q1 ((B.add D).in ρ σ) d _ _ v _ H _ (ht acc ((B.add D).in ρ σ) rfl hj) Eb (Dn.mono (fun y z => .inl (z.elim id fun z => (nown y z).elim)) (fun _ _ e _ => e) d v hd) fun ρ2 σ2 E2 hw hc => ⟨hw.trans (wipe_wipe vs fun _ h => h), ?_⟩
  refine ⟨_, hc, E2, fun y H4 dy x4 E4 hy ⟨ks, ek, hc2⟩ => ⟨_, hc2, E4, fun z H5 dz x5 E5 hz ⟨few, hj'⟩ => ?_⟩⟩
  subst ek
  obtain ⟨q, xs, rfl, hq, nq, rx⟩ := Dn.tuple.mp (E4.dn x5 hy)
  have ex := keys_of rx
  subst ex
  have x45 := x4.trans x5
  have nS : ¬ B.S D := fun z => E0.ok.live D (E0.ok.sx z) hD
  have hl5 : H5 D = some (.dT L) := x45 D _ hl nS
  have ok5 : (B.add D).Ok H5 := E.okOut E5.ok
  have E6 : En (B.add D) ρ σ H5 := E.ext x45 ok5
  have okB : B.Ok H5 := ⟨fun z hz => ok5.live z (.inl hz), fun a b c e => ⟨(ok5.sr a b c e).1, (ok.sr a b c e).2⟩⟩
  have nsrc : ∀ a b c, (B.add D).src = some (a, b, c) → a ≠ D ∧ b ≠ D ∧ c ≠ D := fun a b c e => by
    obtain ⟨_, h1, h2, h3⟩ := E0.ok.sr a b c e
    exact ⟨fun z => E0.ok.live a h1 (z ▸ hD), fun z => E0.ok.live b h2 (z ▸ hD), fun z => E0.ok.live c h3 (z ▸ hD)⟩
  have hh : ∀ (y : Addr) (o : HO) (u : HO), H5 y = some o → ¬ exO (B.add D) ρ σ y → upd H5 D u y = some o := fun y o u e n => by rw [upd_ne (show y ≠ D from fun z => n (.inl (.inr z)))]; exact e
  have ha5 : DnKt (exO (B.add D) ρ σ) H5 (acc.map prT) L := DnKt.mono (fun _ z => .inl z) (fun y o e n => x45 y o e fun z => n (E.sx z)) _ _ ha
  have hz5 : Dn (exO (B.add D) ρ σ) H5 dz z := Dn.mono (fun z h => .inl (.inl h)) (fun z o e n => e) dz z hz
  refine ⟨L, ks, q, rfl, hq, hl5, by rw [← kt_len ha5]; exact few, putT acc ks dz, putK L ks z, upd_same, ?_, hj', E6.poke (.inr rfl) nsrc, ?_, ?_⟩
  · exact DnKt.mono (fun _ z => .inl z) (fun z o e n => hh z o _ e n) _ _ (kt_put ks hz5 ha5)
  · exact fun z o e n => by
      rw [upd_ne (show z ≠ D from fun h => by rw [h, hD] at e; cases e)]
      exact x45 z o (x z o e n) n
  · exact okB.at fun z hz => by rw [upd_ne (show z ≠ D from fun h => E0.ok.live z hz (h ▸ hD))]
theorem ev_dcT {j : Nat} (vs : List Nat) (hr : Rm j X.A) (hc : X.calm = true) (hN : X.N.Nodup) (hv : own.map (·.2) = vs) (hg : EvGc X scope tg vs T) (ok : BlkOk X.N X.env.scope scope own)
    (h : EvE X B ρ iter fun d => ∃ ds, d = .list ds ∧ DcD X scope B ρ vs kx vx T ds.length (fun k y => ds[k]? = some y) Φ) (hs : ∀ x, foldedSetIterable iter X.env x = pure x := by intro _; rfl) :
    EvE X B ρ (.DictComp kx vx [⟨tg, iter, [], 0⟩] scope pos) Φ := by
  subst hv
  obtain ⟨g, p1, q1⟩ := hg
  refine pe_imp (pe_dcT (by have := hr.r.un; omega) hc hN (pi_list h) ok p1 pe_sc pe_sc hs) fun σ H Q ⟨E, k⟩ => ?_
  refine ⟨E, fun v H1 d x1 E1 hd ⟨ds, ed, J, j0, jt, jd⟩ => ?_⟩
  subst ed
  obtain ⟨a, xs, rfl, ha, na, hds⟩ := Dn.list.mp hd
  refine ⟨a, rfl, ⟨xs, SqL.of ha⟩, fun D hD => ⟨fun i m H => m = xs.length - i ∧ i ≤ xs.length ∧ DcP B ρ σ H1 D J i H, ⟨xs.length, by simp, Nat.zero_le _, [], [], upd_same, DnKt.nil.mpr rfl, j0, E1.add hD, Ext.new hD, E1.ok.new hD⟩, ?_⟩⟩
  rintro i m H' ⟨rfl, hi, pp⟩
  obtain ⟨acc, L, hl, hacc, hj, E', x, okB⟩ := id pp
  have hq : SqL X.K H' a xs := SqL.of (x a _ ha fun z => na (.inl (E1.ok.sx z)))
  by_cases hlt : i < xs.length
  · refine .inr ⟨⟨xs, xs[i], hq, by simp [hlt]⟩, DcP B ρ σ H1 D J (i + 1), fun H2 p2 => ⟨xs.length - (i + 1), by omega, rfl, hlt, p2⟩, fun y H2 hy => ?_⟩
    obtain ⟨rfl, hy⟩ := hy
    obtain ⟨d, hdi, hdn⟩ := hds.get' (hy xs hq)
    have hlt2 : i < ds.length := (List.getElem?_eq_some_iff.mp hdi).1
    exact dc_turn E1 hD q1 (fun acc B' hB hj => jt i d acc B' hB hlt2 hdi hj) pp (Dn.mono (fun z h => exAdd hD z h) (fun z o e n => x z o e fun h => n (.inl (E1.ok.sx h))) d y hdn)
  · have e : i = xs.length := by omega
    subst e
    rw [← hds.length] at hj
    have EB : En B ρ σ H' := E'.unadd okB
    refine .inl ⟨⟨xs, hq, Nat.le_refl _⟩, k (.ref D) H' (tdD acc) (x1.trans x) EB (Dn.dictT ⟨D, L, rfl, hl, E1.nx hD, DnKt.mono (fun y z => .inl ?_) (fun _ _ e _ => e) _ _ hacc⟩) (jd acc hj)⟩
    exact z.imp .inl id
end
end Vw

/-! the greater one of two numbers; how large nested data is -/
namespace Vw
open PySem PySem.Spec L2
section
variable {X : Cx} {B : Bs} {ρ : Rho} {Φ : PyData → Prop} {P0 : Program} {w : World} {K : PySem.W.Frag} {mg : Str → Option Value} {base : Heap} {N : List Str} {a b c : Expr} {p pos : Pos}
theorem cd_max2 {i j : Int} (h : Φ (.int (if j > i then j else i))) : CallD B ρ (fun xs H Q => ∃ i j, xs = [V.int i, .int j] ∧ Q (.int (if j > i then j else i)) H) [.dat (.int i), .dat (.int j)] Φ := fun σ H vs Q E d k => by
  obtain ⟨v1, v2, rfl, h1, h2⟩ := sl2 d
  rw [sdi h1, sdi h2]
  exact ⟨_, _, rfl, k _ H _ Ext.refl E (Dn.int.mpr rfl) h⟩
theorem ev_max2 (S : Same X P0 w K mg base N) (hm : mg "max" = none) (hg : Gl X "max") (h : EvE X B ρ a fun x => EvE X B ρ b fun y => ∃ i j : Int, x = .int i ∧ y = .int j ∧ Φ (.int (if j > i then j else i)))
    (he : starEach [a, b] X.env = (false, eval a X.env) :: starEach [b] X.env := by rfl) (he2 : starEach [b] X.env = (false, eval b X.env) :: starEach [] X.env := by rfl) (hpl : (backTo pos (starEach [b] X.env)).any (·.1) = false := by rfl) : EvE X B ρ (.Call (.Name "max" p) [a, b] [] pos) Φ :=
  ev_callB (call_max2 S.c) hg (by rw [S.m]; exact hm) (by decide +kernel) (ea_cons (ev_mono h fun d h1 => ea_cons (ev_mono h1 fun f ⟨i, j, e1, e2, h3⟩ => by subst e1 e2; exact ea_nil (cd_max2 h3)) he2) he) (by decide) (by decide) he hpl
end
theorem rbX2 {k b c : Nat} {x y : PyData} (h : Rb k b x) (h2 : Rb k c y) : Rb (k + 1) (b + c + 2) (.tuple [x, y]) := by
  obtain ⟨a1, a2, a3, a4, a5⟩ := h
  obtain ⟨b1, b2, b3, b4, b5⟩ := h2
  refine ⟨by simp [PyData.showable, PyData.showableAll, a1, b1], by simp [PyData.hasDict, PyData.hasDictAll, a2, b2], by simp [PyData.leavesShort, PyData.leavesShortAll, a3, b3], ?_, ?_⟩
  · simp only [PyData.depth, PyData.depthAll]; omega
  · simp only [PyData.bulk, PyData.bulkAll]; omega
theorem rbX3 {k b c d : Nat} {x y z : PyData} (h : Rb k b x) (h2 : Rb k c y) (h3 : Rb k d z) : Rb (k + 1) (b + c + d + 3) (.tuple [x, y, z]) := by
  obtain ⟨a1, a2, a3, a4, a5⟩ := h
  obtain ⟨b1, b2, b3, b4, b5⟩ := h2
  obtain ⟨c1, c2, c3, c4, c5⟩ := h3
  refine ⟨by simp [PyData.showable, PyData.showableAll, a1, b1, c1], by simp [PyData.hasDict, PyData.hasDictAll, a2, b2, c2], by simp [PyData.leavesShort, PyData.leavesShortAll, a3, b3, c3], ?_, ?_⟩
  · simp only [PyData.depth, PyData.depthAll]; omega
  · simp only [PyData.bulk, PyData.bulkAll]; omega
end Vw

/-! list(zip(a, b)), a and b tuples -/
namespace Vw
open PySem PySem.Spec L2 PyProof.Rows PySem.W
section
variable {prog : Program} {w : World} {A : Around} {E : Value → Shared → Prop} {s : Shared} {z TI TO T i1 i2 l1 l2 : Addr} {f : Bool} {oT : Obj} {k1 k2 : Nat} {xs ys : Array Value} {x y : Value}
/-- an item of a zip whose first tuple is still out -/
theorem held_item {Q : Value → Shared → Prop} (D : ZipApart z TI TO i1 i2 l1 l2) (gz : IsZipHeld s.heap z TI TO T f) (gT : s.heap.get? T = some oT) (gI : IsPair s.heap TI (.ref i1) (.ref i2))
    (h1 : s.heap.IsTupleIter i1 l1 k1) (h2 : s.heap.IsTupleIter i2 l2 k2) (t1 : s.heap.IsTuple l1 xs) (t2 : s.heap.IsTuple l2 ys) (hx : xs[k1]? = some x) (hy : ys[k2]? = some y)
    (go : ∀ h', IsZipHeld h' z TI TO T true → h'.IsTupleIter i1 l1 (k1 + 1) → h'.IsTupleIter i2 l2 (k2 + 1) → IsPair h' s.heap.objs.size x y → h'.objs.size = s.heap.objs.size + 1 →
      (∀ c o, c ≠ z → c ≠ i1 → c ≠ i2 → s.heap.get? c = some o → h'.get? c = some o) → Q (.ref s.heap.objs.size) { s with heap := h' }) :
    wpAny (model prog w) A (Builtin.«zip.__next__» ⟨[.ref z], []⟩) (fun fin s' => ∃ v, fin = .done (.ret v) ∧ Q v s') E s := by
  show wpAny _ _ (field (.ref z) 2 >>= _) _ _ _
  refine wpAny_bind (wpAny_field gz rfl (x := .bool false) rfl ?_)
  show wpAny _ _ (field (.ref z) 3 >>= _) _ _ _
  refine wpAny_bind (wpAny_field gz rfl (x := .ref TI) rfl (wpAny_bind (wpAny_seqItems gI rfl ?_)))
  show wpAny _ _ (Builtin.SmallTypes.ownedTupleIsFree (.ref z) >>= _) _ _ _
  refine wpAny_bind (wpAny_tupleHeld_zip gz gT fun a1 z1 b1 => ?_)
  simp only [Bool.false_eq_true, if_false]
  refine wpAny_bind ?_
  rw [← Array.forIn_toList]
  simp only [List.forIn_cons, List.forIn_nil]
  refine wpAny_bind (wpAny_bind (wpAny_holding ?_))
  show wpAny _ _ (Builtin.SmallTypes.nextOf (.ref i1) >>= _) _ _ _
  refine wpAny_bind (RZ.nextOf_tuple_item (s := { s with heap := a1 }) (h1.extBut b1.extBut D.i1z) (t1.extBut b1.extBut D.l1z) hx fun a2 n1 b2 => wpAny_pure (wpAny_pure ?_))
  refine wpAny_bind (wpAny_bind (wpAny_holding ?_))
  show wpAny _ _ (Builtin.SmallTypes.nextOf (.ref i2) >>= _) _ _ _
  refine wpAny_bind (RZ.nextOf_tuple_item (s := { s with heap := a2 }) ((h2.extBut b1.extBut D.i2z).extBut b2.extBut D.i12.symm) ((t2.extBut b1.extBut D.l2z).extBut b2.extBut D.l2i1) hy fun a3 n2 b3 => wpAny_pure (wpAny_pure (wpAny_pure ?_)))
  show wpAny _ _ (newTuple [x, y] >>= _) _ _ _
  refine wpAny_bind (wpAny_newTuple (wpAny_pure ⟨_, rfl, ?_⟩))
  have e : a3.objs.size = s.heap.objs.size := by rw [b3.1, b2.1, b1.1]
  show Q (.ref a3.objs.size) _
  have pz : IsPair (a3.push { cls := .type "tuple", data := .seq #[x, y] }) a3.objs.size x y := Heap.get?_push_size _ rfl
  have sz : (a3.push { cls := .type "tuple", data := .seq #[x, y] }).objs.size = a3.objs.size + 1 := Heap.size_push ..
  rw [e] at pz sz ⊢
  exact go _ (Heap.get?_push_of_some _ (b3.extBut _ _ D.i2z.symm (b2.extBut _ _ D.i1z.symm z1))) ((n1.extBut b3.extBut D.i12).at fun o q => Heap.get?_push_of_some _ q) (n2.at fun o q => Heap.get?_push_of_some _ q) pz sz
    fun c o c1 c2 c3 q => Heap.get?_push_of_some _ (b3.extBut _ _ c3 (b2.extBut _ _ c2 (b1.extBut _ _ c1 q)))
theorem held_end {Q : Fin → Shared → Prop} (hA : A.handled = none) (D : ZipApart z TI TO i1 i2 l1 l2) (gz : IsZipHeld s.heap z TI TO T f) (gT : s.heap.get? T = some oT) (gI : IsPair s.heap TI (.ref i1) (.ref i2))
    (h1 : s.heap.IsTupleIter i1 l1 k1) (h2 : s.heap.IsTupleIter i2 l2 k2) (t1 : s.heap.IsTuple l1 xs) (t2 : s.heap.IsTuple l2 ys) (he : xs[k1]? = none ∨ ys[k2]? = none)
    (go : ∀ h' e, (∀ c o, c ≠ z → c ≠ i1 → c ≠ i2 → s.heap.get? c = some o → h'.get? c = some o) → (∃ o, h'.get? e = some o ∧ o.cls = .type "StopIteration") → E (.ref e) { s with heap := h' }) :
    wpAny (model prog w) A (Builtin.«zip.__next__» ⟨[.ref z], []⟩) Q E s := by
  show wpAny _ _ (field (.ref z) 2 >>= _) _ _ _
  refine wpAny_bind (wpAny_field gz rfl (x := .bool false) rfl ?_)
  show wpAny _ _ (field (.ref z) 3 >>= _) _ _ _
  refine wpAny_bind (wpAny_field gz rfl (x := .ref TI) rfl (wpAny_bind (wpAny_seqItems gI rfl ?_)))
  show wpAny _ _ (Builtin.SmallTypes.ownedTupleIsFree (.ref z) >>= _) _ _ _
  refine wpAny_bind (wpAny_tupleHeld_zip gz gT fun a1 z1 b1 => ?_)
  simp only [Bool.false_eq_true, if_false]
  refine wpAny_bind ?_
  rw [← Array.forIn_toList]
  simp only [List.forIn_cons, List.forIn_nil]
  refine wpAny_bind (wpAny_bind (wpAny_holding ?_))
  show wpAny _ _ (Builtin.SmallTypes.nextOf (.ref i1) >>= _) _ _ _
  rcases hx : xs[k1]? with _ | x
  · exact wpAny_bind (RZ.nextOf_tuple_end (s := { s with heap := a1 }) hA (h1.extBut b1.extBut D.i1z) (t1.extBut b1.extBut D.l1z) hx fun a2 e b2 q => go a2 e (fun c o c1 c2 _ r => b2 _ _ c2 (b1.extBut _ _ c1 r)) q)
  · have hy : ys[k2]? = none := he.resolve_left fun q => by rw [hx] at q; cases q
    refine wpAny_bind (RZ.nextOf_tuple_item (s := { s with heap := a1 }) (h1.extBut b1.extBut D.i1z) (t1.extBut b1.extBut D.l1z) hx fun a2 n1 b2 => wpAny_pure (wpAny_pure ?_))
    refine wpAny_bind (wpAny_bind (wpAny_holding ?_))
    show wpAny _ _ (Builtin.SmallTypes.nextOf (.ref i2) >>= _) _ _ _
    exact wpAny_bind (RZ.nextOf_tuple_end (s := { s with heap := a2 }) hA ((h2.extBut b1.extBut D.i2z).extBut b2.extBut D.i12.symm) ((t2.extBut b1.extBut D.l2z).extBut b2.extBut D.l2i1) hy fun a3 e b3 q => go a3 e (fun c o c1 c2 c3 r => b3 _ _ c3 (b2.extBut _ _ c2 (b1.extBut _ _ c1 r))) q)
/-- a zip of two tuples at its item i, its first tuple not made or out -/
def ZAt (h : Heap) (z TI TO i1 i2 l1 l2 S : Addr) (i : Nat) : Prop := IsPair h TI (.ref i1) (.ref i2) ∧ h.IsTupleIter i1 l1 i ∧ h.IsTupleIter i2 l2 i ∧
  ((IsZip h z TI TO .none ∧ ∃ a b, IsPair h TO a b) ∨ ∃ T f oT, IsZipHeld h z TI TO T f ∧ h.get? T = some oT ∧ T ≠ z ∧ T ≠ i1 ∧ T ≠ i2 ∧ T ≠ S)
theorem zat_item {Q : Option Value → Shared → Prop} {i : Nat} {S : Addr} (hS : S < s.heap.objs.size) (D : ZipApart z TI TO i1 i2 l1 l2) (st : ZAt s.heap z TI TO i1 i2 l1 l2 S i) (t1 : s.heap.IsTuple l1 xs) (t2 : s.heap.IsTuple l2 ys) (hx : xs[i]? = some x) (hy : ys[i]? = some y)
    (go : ∀ h', ZAt h' z TI TO i1 i2 l1 l2 S (i + 1) → IsPair h' s.heap.objs.size x y → h'.objs.size = s.heap.objs.size + 1 →
      (∀ c o, c ∉ [z, TO, i1, i2] → s.heap.get? c = some o → h'.get? c = some o) → Q (some (.ref s.heap.objs.size)) { s with heap := h' }) : wpAny (model prog w) A (pyNext (.ref z)) Q E s := by
  obtain ⟨gI, h1, h2, st⟩ := st
  rcases st with ⟨gz, a, b, gO⟩ | ⟨T, f, oT, gz, gT, nT, T1, T2, T3⟩
  · have zl : z < s.heap.objs.size := Heap.lt_size gz
    have lt1 : ∀ {i l : Addr} {k : Nat}, s.heap.IsTupleIter i l k → i < s.heap.objs.size := fun h => by
      obtain ⟨_, e, _⟩ := h
      exact Heap.lt_size e
    refine RZ.pyNext_zipT_item D gz gI gO h1 h2 t1 t2 hx hy fun h' q1 q2 q3 q4 q5 q6 q7 => go h' ⟨q7 _ _ D.TIz D.TITO D.TIi1 D.TIi2 gI, q3, q4, .inr ⟨_, false, _, q1, q5, Nat.ne_of_gt zl, Nat.ne_of_gt (lt1 h1), Nat.ne_of_gt (lt1 h2), Nat.ne_of_gt hS⟩⟩ q5 q6 fun c o hc e => ?_
    simp only [List.mem_cons, List.not_mem_nil, or_false, not_or] at hc
    exact q7 c o hc.1 hc.2.1 hc.2.2.1 hc.2.2.2 e
  · have ty : s.TypeIs (.ref z) "zip" := ⟨_, gz, rfl⟩
    unfold pyNext
    refine wpAny_bind (wpAny_attempt (wpAny_callSpecial?_slot (name := Str.ofString "__next__") ty F.slot_zip_next (wpAny_call_entry F.slot_zip_next ty F.entry_zip_next (held_item D gz gT gI h1 h2 t1 t2 hx hy fun h' q1 q3 q4 q5 q6 q7 => wpAny_pure ?_) (F.args_zip_next_1 _))))
    refine go h' ⟨q7 _ _ D.TIz D.TIi1 D.TIi2 gI, q3, q4, .inr ⟨T, true, _, q1, q7 _ _ nT T1 T2 gT, nT, T1, T2, T3⟩⟩ q5 q6 fun c o hc e => ?_
    simp only [List.mem_cons, List.not_mem_nil, or_false, not_or] at hc
    exact q7 c o hc.1 hc.2.2.1 hc.2.2.2 e
theorem zat_end {Q : Option Value → Shared → Prop} {i : Nat} {S : Addr} (hA : A.handled = none) (D : ZipApart z TI TO i1 i2 l1 l2) (st : ZAt s.heap z TI TO i1 i2 l1 l2 S i) (t1 : s.heap.IsTuple l1 xs) (t2 : s.heap.IsTuple l2 ys) (he : xs[i]? = none ∨ ys[i]? = none)
    (go : ∀ h', (∀ c o, c ∉ [z, TO, i1, i2] → s.heap.get? c = some o → h'.get? c = some o) → Q none { s with heap := h' }) : wpAny (model prog w) A (pyNext (.ref z)) Q E s := by
  obtain ⟨gI, h1, h2, st⟩ := st
  rcases st with ⟨gz, a, b, gO⟩ | ⟨T, f, oT, gz, gT, nT, T1, T2, T3⟩
  · refine RZ.pyNext_zipT_end hA D gz gI gO h1 h2 t1 t2 he fun h' q => go h' fun c o hc e => ?_
    simp only [List.mem_cons, List.not_mem_nil, or_false, not_or] at hc
    exact q c o hc.1 hc.2.1 hc.2.2.1 hc.2.2.2 e
  · have ty : s.TypeIs (.ref z) "zip" := ⟨_, gz, rfl⟩
    unfold pyNext
    refine wpAny_bind (wpAny_attempt (wpAny_callSpecial?_slot (name := Str.ofString "__next__") ty F.slot_zip_next (wpAny_call_entry F.slot_zip_next ty F.entry_zip_next (held_end hA D gz gT gI h1 h2 t1 t2 he fun h' e hk hs => ?_) (F.args_zip_next_1 _))))
    obtain ⟨o, ho, hc⟩ := hs
    refine wpAny_bind (wpAny_isInstance (T := "StopIteration") (b := true) ⟨o, ho, hc⟩ isSubtype_stop (wpAny_pure (go _ fun c o hc e => ?_)))
    simp only [List.mem_cons, List.not_mem_nil, or_false, not_or] at hc
    exact hk c o hc.1 hc.2.2.1 hc.2.2.2 e
end
section
variable {X : Cx} {pins : List (Addr × Obj)} {σ : L2.St}
/-- the five objects of a zip -/
def zips (z TI TO i1 i2 : Addr) : List Addr := [z, TI, TO, i1, i2]
theorem zat_keep {h h' : Heap} {z TI TO i1 i2 l1 l2 S : Addr} {i : Nat} (st : ZAt h z TI TO i1 i2 l1 l2 S i) (ap : ∀ c ∈ zips z TI TO i1 i2, c ≠ S) (k : ∀ c o, c ≠ S → h.get? c = some o → h'.get? c = some o) : ZAt h' z TI TO i1 i2 l1 l2 S i := by
  obtain ⟨gI, h1, h2, st⟩ := st
  have a : ∀ c, c ∈ zips z TI TO i1 i2 → c ≠ S := ap
  refine ⟨k _ _ (a _ (by simp [zips])) gI, h1.at fun o e => k _ _ (a _ (by simp [zips])) e, h2.at fun o e => k _ _ (a _ (by simp [zips])) e, ?_⟩
  rcases st with ⟨gz, x, y, gO⟩ | ⟨T, f, oT, gz, gT, n1, n2, n3, n4⟩
  · exact .inl ⟨k _ _ (a _ (by simp [zips])) gz, x, y, k _ _ (a _ (by simp [zips])) gO⟩
  · exact .inr ⟨T, f, oT, k _ _ (a _ (by simp [zips])) gz, k _ _ n4 gT, n1, n2, n3, n4⟩
/-- what the pairs of a zip are, laid so far -/
structure Laid (H0 H : Hp) (S : Addr) (vx vy : List V) (as : List Addr) : Prop where
  lst : H S = some (.lst (as.map V.ref))
  up : ∀ a ∈ as, S < a
  new : ∀ a ∈ as, H0 a = none
  at_ : ∀ (j : Nat) (a : Addr) (x y : V), as[j]? = some a → vx[j]? = some x → vy[j]? = some y → H a = some (.tup [x, y])
  keep : ∀ c o, H0 c = some o → H c = some o
theorem zl_loop (hc : X.calm = true) {z TI TO i1 i2 l1 l2 S : Addr} (D : ZipApart z TI TO i1 i2 l1 l2) (ap : ∀ c ∈ [z, TI, TO, i1, i2, l1, l2], c < S) {xs ys : Array Value} {vx vy : List V} (rx : Vals vx xs.toList) (ry : Vals vy ys.toList) (few : min xs.size ys.size < sizeLine)
    {R : Result → Shared → Prop} {H0 : Hp} (nS : H0 S = none) (res : Value) {A : Around} (hA : A.handled = none) (fin : ∀ t H as, Inv X pins σ H t → Laid H0 H S vx vy as → as.length = min xs.size ys.size → R (.ok (.ret res)) t) :
    ∀ (k i : Nat) (t : Shared) (H : Hp) (as : List Addr), min xs.size ys.size - i = k → i ≤ min xs.size ys.size → Inv X pins σ H t → (∀ b ∈ zips z TI TO i1 i2, FpOk X pins H b) → ZAt t.heap z TI TO i1 i2 l1 l2 S i → t.heap.IsTuple l1 xs → t.heap.IsTuple l2 ys →
      Laid H0 H S vx vy as → as.length = i → codeAny (model X.prog X.w) A (.builtin "list.extend.loop" ⟨[.ref S, .ref z, res], []⟩) R t := by
  intro k
  induction k with
  | zero =>
    intro i t H as hk hi I fp st t1 t2 la len
    have sub : ∀ c, c ∉ zips z TI TO i1 i2 → c ∉ [z, TO, i1, i2] := fun c h q => h (by simp only [List.mem_cons, List.not_mem_nil, or_false] at q; rcases q with rfl | rfl | rfl | rfl <;> simp [zips])
    refine codeAny_builtin F.entry_extend_loop ?_
    rw [Around.under_plainId F.plain_extend_loop _]
    show wpAny _ A.in1 (pyNext (.ref z) >>= _) _ _ _
    refine wpAny_bind (zat_end (S := S) (by simp [hA]) D st t1 t2 ?_ fun h' kp => wpAny_pure (fin _ H as (I.turnedL (t' := t.toks) (ch := zips z TI TO i1 i2) (fun b o hb e => kp b o (sub b hb) e) fp) la (by omega)))
    by_cases q : xs.size ≤ i
    · exact .inl (Array.getElem?_eq_none q)
    · exact .inr (Array.getElem?_eq_none (by omega))
  | succ k ih =>
    intro i t H as hk hi I fp st t1 t2 la len
    have sub : ∀ c, c ∉ zips z TI TO i1 i2 → c ∉ [z, TO, i1, i2] := fun c h q => h (by simp only [List.mem_cons, List.not_mem_nil, or_false] at q; rcases q with rfl | rfl | rfl | rfl <;> simp [zips])
    have lx : i < xs.size := by omega
    have ly : i < ys.size := by omega
    have ex : xs[i]? = some xs[i] := Array.getElem?_eq_getElem lx
    have ey : ys[i]? = some ys[i] := Array.getElem?_eq_getElem ly
    obtain ⟨x, hx, qx⟩ : ∃ x, vx[i]? = some x ∧ RelV x xs[i] := by
      have l : vx.length = xs.size := rx.length.trans Array.length_toList
      have e : vx[i]? = some vx[i] := List.getElem?_eq_getElem (by omega)
      obtain ⟨u, hu, r⟩ := rx.get e
      rw [Array.getElem?_toList, ex] at hu
      cases hu
      exact ⟨_, e, r⟩
    obtain ⟨y, hy, qy⟩ : ∃ y, vy[i]? = some y ∧ RelV y ys[i] := by
      have l : vy.length = ys.size := ry.length.trans Array.length_toList
      have e : vy[i]? = some vy[i] := List.getElem?_eq_getElem (by omega)
      obtain ⟨u, hu, r⟩ := ry.get e
      rw [Array.getElem?_toList, ey] at hu
      cases hu
      exact ⟨_, e, r⟩
    have Sl : S < t.heap.objs.size := by
      obtain ⟨_, its, n, _, e⟩ := (show ObjOk X.prog X.w H t.heap S (.lst (as.map V.ref)) from I.hok S _ la.lst)
      exact Heap.lt_size e
    refine codeAny_builtin F.entry_extend_loop ?_
    rw [Around.under_plainId F.plain_extend_loop _]
    show wpAny _ A.in1 (pyNext (.ref z) >>= _) _ _ _
    refine wpAny_bind (zat_item (S := S) Sl D st t1 t2 ex ey fun h' st' gp sz kp => ?_)
    -- the pair, laid
    generalize hN : t.heap.objs.size = N at *
    have I1 : Inv X pins σ (upd H N (.tup [x, y])) { t with heap := h' } :=
      I.turnedNew (t' := t.toks) (ch := zips z TI TO i1 i2) (fun b o hb e => kp b o (sub b hb) e) fp (Nat.le_of_eq hN) ⟨by show 2 ≤ sizeLine; decide, [xs[i], ys[i]], .cons qx (.cons qy .nil), ⟨_, gp, rfl, _, rfl⟩⟩
    have nN : H N = none := I.hok.fresh (Nat.le_of_eq hN)
    have hS1 : (upd H N (.tup [x, y])) S = some (.lst (as.map V.ref)) := by rw [upd_ne (Nat.ne_of_lt Sl)]; exact la.lst
    obtain ⟨z1, its, n, rv, gS⟩ := (show ObjOk X.prog X.w (upd H N (.tup [x, y])) h' S (.lst (as.map V.ref)) from I1.hok S _ hS1)
    have li : its.length = i := by rw [← rv.length, List.length_map]; exact len
    show wpAny _ A.in1 (updateSeq S (·.push (Value.ref N)) >>= _) _ _ _
    refine wpAny_bind ?_
    have oth : ∀ b o, b ≠ S → h'.get? b = some o → (h'.update S (Obj.mapSeq (·.push (Value.ref N)))).get? b = some o := fun b o hb e => (Heap.get?_update_other _ _ (Ne.symm hb)).trans e
    have gS2 := Heap.get?_update_self (Obj.mapSeq (·.push (Value.ref N))) gS rfl
    have rv2 : Vals ((as ++ [N]).map V.ref) (its ++ [Value.ref N]) := by
      rw [List.map_append]
      exact rv.append (.cons rfl .nil)
    have I2 : Inv X pins σ (upd (upd H N (.tup [x, y])) S (.lst ((as ++ [N]).map V.ref))) { t with heap := h'.update S (Obj.mapSeq (·.push (Value.ref N))) } :=
      I1.write (x := S) (e := S) (t' := t.toks) (by rw [hS1]; exact True.intro) (.inl rfl) oth ⟨_, gS2⟩ ⟨by rw [List.length_map, List.length_append, len]; show i + 1 ≤ sizeLine; omega, its ++ [Value.ref N], _, rv2, by rw [gS2]; simp [Obj.mapSeq]; rfl⟩
    have apS : ∀ c ∈ zips z TI TO i1 i2, c ≠ S := fun c h => Nat.ne_of_lt (ap c (by simp only [zips, List.mem_cons, List.not_mem_nil, or_false] at h; rcases h with rfl | rfl | rfl | rfl | rfl <;> simp))
    have ltN : ∀ c, c < S → c ≠ N := fun c h => Nat.ne_of_lt (Nat.lt_trans h Sl)
    refine wpAny_updateSeq gS rfl (wpAny_pure ⟨plainId_quiet F.plain_extend_loop _, ih (i + 1) _ _ (as ++ [N]) (by omega) (by omega) I2 (fun b hb => ?_) (zat_keep st' apS oth) ?_ ?_ ⟨upd_same, fun a ha => ?_, fun a ha => ?_, fun j a x' y' ha hx' hy' => ?_, fun c o e => ?_⟩ (by simp [len])⟩) (by rw [List.size_toArray, li]; omega) (by show (its.toArray.push _).size ≤ sizeLine + 1; rw [Array.size_push, List.size_toArray, li]; omega)
    · obtain ⟨f0, f1⟩ := fp b hb
      refine ⟨?_, f1⟩
      have := apS b hb
      have hb2 : b < S := ap b (by simp only [zips, List.mem_cons, List.not_mem_nil, or_false] at hb; rcases hb with rfl | rfl | rfl | rfl | rfl <;> simp)
      rw [upd_ne this, upd_ne (ltN b hb2)]
      exact f0
    · obtain ⟨o, ho, r⟩ := t1
      refine ⟨o, oth l1 o (Nat.ne_of_lt (ap l1 (by simp))) (kp l1 o ?_ ho), r⟩
      simp only [List.mem_cons, List.not_mem_nil, or_false, not_or]
      exact ⟨D.l1z, D.l1TO, D.l1i1, D.l1i2⟩
    · obtain ⟨o, ho, r⟩ := t2
      refine ⟨o, oth l2 o (Nat.ne_of_lt (ap l2 (by simp))) (kp l2 o ?_ ho), r⟩
      simp only [List.mem_cons, List.not_mem_nil, or_false, not_or]
      exact ⟨D.l2z, D.l2TO, D.l2i1, D.l2i2⟩
    · rcases List.mem_append.mp ha with h | h
      · exact la.up a h
      · rw [List.mem_singleton.mp h]; exact Sl
    · rcases List.mem_append.mp ha with h | h
      · exact la.new a h
      · rw [List.mem_singleton.mp h]
        cases e : H0 N with
        | none => rfl
        | some o => rw [la.keep N o e] at nN; cases nN
    · have aS : a ≠ S := by
        have : a ∈ as ++ [N] := List.mem_of_getElem? ha
        rcases List.mem_append.mp this with h | h
        · exact Nat.ne_of_gt (la.up a h)
        · rw [List.mem_singleton.mp h]; exact Nat.ne_of_gt Sl
      rw [upd_ne aS]
      by_cases hj : j < as.length
      · rw [List.getElem?_append_left hj] at ha
        have q := la.at_ j a x' y' ha hx' hy'
        rw [upd_ne (ne_of_none q nN)]
        exact q
      · have ej : j = i := by
          have := (List.getElem?_eq_some_iff.mp ha).1
          rw [List.length_append] at this
          simp at this
          omega
        subst ej
        rw [List.getElem?_append_right (by omega), len] at ha
        simp at ha
        subst ha
        rw [hx] at hx'
        rw [hy] at hy'
        cases hx'
        cases hy'
        exact upd_same
    · have cS : c ≠ S := fun h => by rw [h, nS] at e; cases e
      have cN : c ≠ N := fun h => by rw [h] at e; rw [la.keep N o e] at nN; cases nN
      rw [upd_ne cS, upd_ne cN]
      exact la.keep c o e
end
end Vw

/-! list(zip(a, b)), a and b tuples: the call -/
namespace Vw
open PySem PySem.Spec L2 PyProof.Rows PySem.W
theorem zip_no_len : typeLookup (.type "zip") "__len__" = pure none := by rw [typeLookup_type, builtinLookup_eq_fast]; kernel_rfl
theorem zip_no_hint : typeLookup (.type "zip") "__length_hint__" = pure none := by rw [typeLookup_type, builtinLookup_eq_fast]; kernel_rfl
theorem zapart (n l1 l2 : Nat) (h1 : l1 < n) (h2 : l2 < n) : ZipApart (n + 4) (n + 2) (n + 3) n (n + 1) l1 l2 where
  TIz := fun e => absurd (show (n + 2 : Nat) = n + 4 from e) (by omega)
  TOz := fun e => absurd (show (n + 3 : Nat) = n + 4 from e) (by omega)
  i1z := fun e => absurd (show (n : Nat) = n + 4 from e) (by omega)
  i2z := fun e => absurd (show (n + 1 : Nat) = n + 4 from e) (by omega)
  TITO := fun e => absurd (show (n + 2 : Nat) = n + 3 from e) (by omega)
  TIi1 := fun e => absurd (show (n + 2 : Nat) = n from e) (by omega)
  TIi2 := fun e => absurd (show (n + 2 : Nat) = n + 1 from e) (by omega)
  TOi1 := fun e => absurd (show (n + 3 : Nat) = n from e) (by omega)
  TOi2 := fun e => absurd (show (n + 3 : Nat) = n + 1 from e) (by omega)
  i12 := fun e => absurd (show (n : Nat) = n + 1 from e) (by omega)
  l1z := fun e => absurd (show (l1 : Nat) = n + 4 from e) (by omega)
  l1TO := fun e => absurd (show (l1 : Nat) = n + 3 from e) (by omega)
  l1i1 := fun e => absurd (show (l1 : Nat) = n from e) (by omega)
  l1i2 := fun e => absurd (show (l1 : Nat) = n + 1 from e) (by omega)
  l2z := fun e => absurd (show (l2 : Nat) = n + 4 from e) (by omega)
  l2TO := fun e => absurd (show (l2 : Nat) = n + 3 from e) (by omega)
  l2i1 := fun e => absurd (show (l2 : Nat) = n from e) (by omega)
  l2i2 := fun e => absurd (show (l2 : Nat) = n + 1 from e) (by omega)
theorem zips_lt (n l1 l2 : Nat) (h1 : l1 < n) (h2 : l2 < n) : ∀ c : Nat, c ∈ [n + 4, n + 2, n + 3, n, n + 1, l1, l2] → c < n + 5 := fun c h => by
  simp only [List.mem_cons, List.not_mem_nil, or_false] at h
  omega
theorem zips_le (n : Nat) : ∀ c : Nat, c ∈ [n + 4, n + 2, n + 3, n, n + 1] → n ≤ c := fun c h => by
  simp only [List.mem_cons, List.not_mem_nil, or_false] at h
  omega
section
variable {X : Cx} {pins : List (Addr × Obj)} {σ : L2.St} {H : Hp} {t : Shared}
theorem list_of_zip (hc : X.calm = true) {z TI TO i1 i2 l1 l2 : Addr} (D : ZipApart z TI TO i1 i2 l1 l2) (ap : ∀ c ∈ [z, TI, TO, i1, i2, l1, l2], c < t.heap.objs.size) {xs ys : Array Value} {vx vy : List V} (rx : Vals vx xs.toList) (ry : Vals vy ys.toList) (few : min xs.size ys.size < sizeLine)
    (I : Inv X pins σ H t) (fp : ∀ b ∈ zips z TI TO i1 i2, FpOk X pins H b) (gz : IsZip t.heap z TI TO .none) (gI : IsPair t.heap TI (.ref i1) (.ref i2)) (gO : IsPair t.heap TO .none .none) (h1 : t.heap.IsTupleIter i1 l1 0) (h2 : t.heap.IsTupleIter i2 l2 0) (t1 : t.heap.IsTuple l1 xs) (t2 : t.heap.IsTuple l2 ys)
    {A : Around} (hA : A.handled = none) {Q : Value → Shared → Prop} {E : Value → Shared → Prop} (fin : ∀ u H' as, Inv X pins σ H' u → H t.heap.objs.size = none → Laid H H' t.heap.objs.size vx vy as → as.length = min xs.size ys.size → Q (.ref t.heap.objs.size) u) :
    wpAny (model X.prog X.w) A (call (.type "list") [.ref z]) Q E t := by
  obtain ⟨S, eS⟩ : ∃ S, S = t.heap.objs.size := ⟨_, rfl⟩
  have nS : H S = none := I.hok.fresh (Nat.le_of_eq eS.symm)
  have zS : z ≠ S := by rw [eS]; exact Nat.ne_of_lt (ap z (by simp))
  refine callType_codes (Q₁ := fun obj u => obj = .ref S ∧ u = { t with heap := t.heap.push { cls := .type "list", data := .seq #[] } }) F.called_list (F.typeCall_list_1 _) F.entry_list_init (code_list_new _ ⟨by rw [eS], rfl⟩) fun obj u hu => ?_
  obtain ⟨rfl, rfl⟩ := hu
  have g0 : (t.heap.push { cls := .type "list", data := .seq #[] }).get? S = some { cls := .type "list", data := .seq #[] } := by rw [eS]; exact Heap.get?_push_size _ rfl
  have up0 : ∀ b o, t.heap.get? b = some o → (t.heap.push { cls := .type "list", data := .seq #[] }).get? b = some o := fun b o e => Heap.get?_push_of_some _ e
  have low : ∀ b o, t.heap.get? b = some o → b ≠ S := fun b o e => by rw [eS]; exact Nat.ne_of_lt (Heap.lt_size e)
  have upU : ∀ (h : Heap) (f : Obj → Obj), (∀ b o, t.heap.get? b = some o → h.get? b = some o) → ∀ b o, t.heap.get? b = some o → (h.update S f).get? b = some o := fun h f k b o e => (Heap.get?_update_other _ _ (Ne.symm (low b o e))).trans (k b o e)
  refine ⟨⟨_, g0, rfl⟩, F.args_list_init_2 _ _, ?_⟩
  show wpAny _ A.in1.in1 (do let old ← Builtin.List.listItems (.ref S); Builtin.List.listUpdate (.ref S) (fun _ => #[]); letGo old.toList.reverse; Builtin.List.listExtendWith (.ref S) (.ref z) .none) _ _ _
  refine wpAny_bind ?_
  unfold Builtin.List.listItems
  refine wpAny_bind (wpAny_seqItems g0 rfl (wpAny_pure ?_))
  show wpAny _ A.in1.in1 (updateSeq S (fun _ => #[]) >>= fun _ => letGo (#[] : Array Value).toList.reverse >>= fun _ => Builtin.List.listExtendWith (.ref S) (.ref z) .none) _ _ _
  refine wpAny_bind (wpAny_updateSeq g0 rfl (wpAny_bind (wpAny_letGo ?_)))
  have g1 := Heap.get?_update_self (Obj.mapSeq (fun _ => (#[] : Array Value))) g0 rfl
  have up1 := upU _ (Obj.mapSeq (fun _ => (#[] : Array Value))) up0
  unfold Builtin.List.listExtendWith
  have ty : ∀ {h : Heap}, (∀ b o, t.heap.get? b = some o → h.get? b = some o) → Shared.TypeIs { t with heap := h } (.ref z) "zip" := fun k => ⟨_, k z _ gz, rfl⟩
  refine wpAny_bind (wpAny_typeOf (ty up1) ?_)
  have c1 : Builtin.List.listSameRef (.ref S) (.ref z) = false := by simp [Builtin.List.listSameRef, Ne.symm zS]
  have c2 : (Value.type "zip" == Value.type "list") = false := by decide
  have c3 : (Value.type "zip" == Value.type "tuple") = false := by decide
  simp only [c1, c2, c3, Bool.or_false, Bool.false_eq_true, if_false]
  refine wpAny_bind (wpAny_pyIter_zip (up1 z _ gz) (wpAny_bind (wpAny_holding ?_)))
  unfold Builtin.List.listLengthHint
  refine wpAny_bind (wpAny_specialOf (ty up1) zip_no_len ?_)
  show wpAny _ A.in1.in1 (specialOf (Value.ref z) (Str.ofString "__length_hint__") >>= _) _ _ _
  refine wpAny_bind (wpAny_specialOf (ty up1) zip_no_hint (wpAny_pure ?_))
  show wpAny _ A.in1.in1 (rule "list.extend.makes-room" >>= fun _ => Builtin.List.listTouch (.ref S) >>= fun _ => again (.builtin "list.extend.loop" ⟨[.ref S, .ref z, .none], []⟩)) _ _ _
  refine wpAny_bind (wpAny_rule (wpAny_bind ?_))
  show wpAny _ A.in1.in1 (updateSeq S (·.push .none) >>= fun _ => updateSeq S (·.pop)) _ _ _
  refine wpAny_bind (wpAny_updateSeq g1 rfl ?_)
  have g2 := Heap.get?_update_self (Obj.mapSeq (·.push Value.none)) g1 rfl
  refine wpAny_updateSeq (hz := by seq_fits) g2 rfl ?_
  have g3 := Heap.get?_update_self (Obj.mapSeq (·.pop)) g2 rfl
  have up3 := upU _ (Obj.mapSeq (·.pop)) (upU _ (Obj.mapSeq (·.push Value.none)) up1)
  have I3 := I.laid (a := S) (o := .lst []) (t' := t.toks) up3 (Nat.le_of_eq eS.symm) ⟨by decide, [], _, .nil, g3⟩
  refine wpAny_pure ⟨plainId_quiet F.plain_extend_loop _, ?_⟩
  have apS : ∀ c ∈ [z, TI, TO, i1, i2, l1, l2], c < S := fun c h => by rw [eS]; exact ap c h
  refine zl_loop (A := A.in1) (H0 := H) hc D apS rx ry few nS .none (by simp [hA]) (fun u H' as J la len => ⟨rfl, ?_⟩) (min xs.size ys.size) 0 _ _ [] (Nat.sub_zero _) (Nat.zero_le _) I3 (fun b hb => ?_) ?_ ?_ ?_ ?_ rfl
  · obtain ⟨f0, f1⟩ := fp b hb
    refine ⟨?_, f1⟩
    have : b < S := apS b (by simp only [zips, List.mem_cons, List.not_mem_nil, or_false] at hb; rcases hb with rfl | rfl | rfl | rfl | rfl <;> simp)
    rw [upd_ne (Nat.ne_of_lt this)]
    exact f0
  · exact ⟨up3 _ _ gI, h1.at fun o e => up3 _ o e, h2.at fun o e => up3 _ o e, .inl ⟨up3 _ _ gz, _, _, up3 _ _ gO⟩⟩
  · obtain ⟨o, ho, r⟩ := t1
    exact ⟨o, up3 _ o ho, r⟩
  · obtain ⟨o, ho, r⟩ := t2
    exact ⟨o, up3 _ o ho, r⟩
  · exact ⟨upd_same, (fun _ h => nomatch h), (fun _ h => nomatch h), (fun j a x y h => by simp at h), fun c o e => by rw [upd_ne (fun h => by rw [h, nS] at e; cases e)]; exact e⟩
  · subst eS
    exact fin u H' as J nS la len
end
section
variable {X : Cx} {B : Bs} {ρ : Rho} {a b : Expr} {p p1 pos q : Pos} {Φ : PyData → Prop} {P0 : Program} {w : World} {K : PySem.W.Frag} {mg : Str → Option Value} {base : Heap} {N : List Str}
def tLz (K : PySem.W.Frag) (ta : TA) : TE := fun σ H Q => ta σ H fun vs H1 => ∃ l1 l2 vx vy, vs = [.ref l1, .ref l2] ∧ SqT K H1 l1 vx ∧ SqT K H1 l2 vy ∧ min vx.length vy.length < sizeLine ∧
  ∀ (S : Addr) (as : List Addr) (H' : Hp), H1 S = none → Laid H1 H' S vx vy as → as.length = min vx.length vy.length → Q (.ref S) H'
theorem pe_listZip {ta : TA} (hc : X.calm = true) (hg : Gl X "list") (hm : X.mg "list" = none) (hg2 : Gl X "zip") (hm2 : X.mg "zip" = none) (ha : PA X [a, b] ta)
    (h1 : starEach [.Call (.Name "zip" p1) [a, b] [] q] X.env = (false, eval (.Call (.Name "zip" p1) [a, b] [] q) X.env) :: starEach [] X.env := by rfl)
    (h2 : starEach [a, b] X.env = (false, eval a X.env) :: starEach [b] X.env := by rfl) (hpl : (backTo q (starEach [b] X.env)).any (·.1) = false := by rfl) :
    PE X (.Call (.Name "list" p) [.Call (.Name "zip" p1) [a, b] [] q] [] pos) (tLz X.K ta) := by
  refine ⟨fun pins s σ H Q I hq => ?_⟩
  refine Call_ (ld_blt I hg hm (show bootBuiltins "list" = some (.type "list") by decide +kernel) (PyProof.Rows.callWith_type1 (PyProof.Rows.args_cons ?_ h1) h1 rfl))
  refine Call_ (ld_blt I hg2 hm2 PyProof.Rows.boot_zip (PyProof.Rows.callWith_type1 (thn (ha.run q pins s σ H _ I hq) fun us u ⟨vs, H1, I1, rv, l1, l2, vx, vy, ev, hx, hy, few, fin⟩ => ?_) h2 hpl))
  subst ev
  cases rv with
  | cons r rr =>
    cases rr with
    | cons r' rr =>
      cases rr
      cases r
      cases r'
      obtain ⟨its, rx, g1, _⟩ := I1.tuple hx
      obtain ⟨its2, ry, g2, _⟩ := I1.tuple hy
      have b1 : l1 < u.heap.objs.size := by
        obtain ⟨_, e, _⟩ := g1
        exact Heap.lt_size e
      have b2 : l2 < u.heap.objs.size := by
        obtain ⟨_, e, _⟩ := g2
        exact Heap.lt_size e
      refine RZ.call_zipT g1 g2 fun h' gz gI gO i1 i2 sz kp => PyProof.Rows.args_nil ?_
      have I2 : Inv X pins σ H1 { u with heap := h' } := I1.kept (t' := u.toks) kp
      have D := zapart _ _ _ b1 b2
      refine list_of_zip (t := { u with heap := h' }) (xs := its.toArray) (ys := its2.toArray) (vx := vx) (vy := vy) hc D (fun c h => ?_) (by simpa using rx) (by simpa using ry) ?_ I2 (fun c h => ?_) gz gI gO i1 i2 ?_ ?_ (I1.ok.hd hc) fun v H' as J nS la len => ?_
      · show c < h'.objs.size
        rw [sz]
        exact zips_lt _ _ _ b1 b2 c h
      · rw [List.size_toArray, List.size_toArray, ← rx.length, ← ry.length]
        exact few
      · have le : u.heap.objs.size ≤ c := zips_le _ c h
        exact I1.fpOk le (I1.hok.fresh le)
      · obtain ⟨o, ho, r⟩ := g1
        exact ⟨o, kp _ o ho, r⟩
      · obtain ⟨o, ho, r⟩ := g2
        exact ⟨o, kp _ o ho, r⟩
      · exact ⟨.ref _, H', J, rfl, fin _ as H' nS la (by rw [len, List.size_toArray, List.size_toArray, ← rx.length, ← ry.length])⟩
/-- list(zip(a, b)) of two tuples of data -/
theorem ev_listZip (S : Same X P0 w K mg base N) (T : Txt mg) (hm2 : mg "zip" = none) (hg : Gl X "list") (hg2 : Gl X "zip")
    (h : EvE X B ρ a fun x => EvE X B ρ b fun y => ∃ ds es, x = .tuple ds ∧ y = .tuple es ∧ min ds.length es.length < sizeLine ∧ Φ (.list ((ds.zip es).map fun z => .tuple [z.1, z.2])))
    (h1 : starEach [.Call (.Name "zip" p1) [a, b] [] q] X.env = (false, eval (.Call (.Name "zip" p1) [a, b] [] q) X.env) :: starEach [] X.env := by rfl)
    (h2 : starEach [a, b] X.env = (false, eval a X.env) :: starEach [b] X.env := by rfl) (h3 : starEach [b] X.env = (false, eval b X.env) :: starEach [] X.env := by rfl) (hpl : (backTo q (starEach [b] X.env)).any (·.1) = false := by rfl) :
    EvE X B ρ (.Call (.Name "list" p) [.Call (.Name "zip" p1) [a, b] [] q] [] pos) Φ :=
  pe_imp (pe_listZip S.c hg (by rw [S.m]; exact T.list) hg2 (by rw [S.m]; exact hm2) (pa_cons h (pa_cons pe_s pa_nil h3) h2) h1 h2 hpl) fun σ H Q ⟨E, k⟩ => ⟨E, fun v H1 x x1 E1 dx hb => ⟨_, hb, E1, fun u H2 y x2 E2 dy ⟨ds, es, ex, ey, few, hΦ⟩ => by
    subst ex ey
    obtain ⟨l1, vx, rfl, g1, _, r1⟩ := Dn.tuple.mp (E1.dn x2 dx)
    obtain ⟨l2, vy, rfl, g2, _, r2⟩ := Dn.tuple.mp dy
    refine ⟨l1, l2, vx, vy, rfl, SqT.of g1, SqT.of g2, by rw [← r1.length, ← r2.length]; exact few, fun S as H' nS la len => ?_⟩
    have xx : Ext B H2 H' := fun c o e _ => la.keep c o e
    have okB : B.Ok H' := E2.ok.at fun c hc => by
      cases e : H2 c with
      | none => exact absurd e (E2.ok.live c hc)
      | some o => exact la.keep c o e
    have E3 : En B ρ σ H' := E2.ext xx okB
    refine k (.ref S) H' _ (x1.trans (x2.trans xx)) E3 (Dn.list.mpr ⟨S, _, rfl, la.lst, E2.nx nS, ?_⟩) hΦ
    have q1 := E2.dnAll xx r1
    have q2 := E2.dnAll xx r2
    have ll : as.length = ((ds.zip es).map fun z => PyData.tuple [z.1, z.2]).length := by rw [len, List.length_map, List.length_zip, r1.length, r2.length]
    -- each pair by its place
    have each : ∀ (n : Nat) (zs : List PyData) (bs : List Addr), zs.length = n → bs.length = n → (∀ (j : Nat) (d : PyData) (c : Addr), zs[j]? = some d → bs[j]? = some c → Dn (exO B ρ σ) H' d (.ref c)) → DnAll (exO B ρ σ) H' zs (bs.map V.ref) := by
      intro n
      induction n with
      | zero =>
        intro zs bs hz hb _
        rw [List.length_eq_zero_iff.mp hz, List.length_eq_zero_iff.mp hb]
        exact DnAll.nil.mpr rfl
      | succ n ih =>
        intro zs bs hz hb hd
        match zs, bs, hz, hb with
        | d :: zs, c :: bs, hz, hb =>
          exact DnAll.cons.mpr ⟨_, _, rfl, hd 0 d c rfl rfl, ih zs bs (by simpa using hz) (by simpa using hb) fun j d c h1 h2 => hd (j + 1) d c (by simpa using h1) (by simpa using h2)⟩
    refine each _ _ as rfl ll fun j d c hd hc => ?_
    rw [List.getElem?_map] at hd
    obtain ⟨z, hz, rfl⟩ := Option.map_eq_some_iff.mp hd
    obtain ⟨hz1, hz2⟩ := List.getElem?_zip_eq_some.mp hz
    obtain ⟨vx', e1, d1⟩ := q1.get hz1
    obtain ⟨vy', e2, d2⟩ := q2.get hz2
    have nc : ¬ exO B ρ σ c := E2.nx (la.new c (List.mem_of_getElem? hc))
    exact Dn.tuple.mpr ⟨c, _, rfl, la.at_ j c vx' vy' hc e1 e2, nc, DnAll.cons.mpr ⟨_, _, rfl, d1, DnAll.cons.mpr ⟨_, _, rfl, d2, DnAll.nil.mpr rfl⟩⟩⟩⟩⟩
end
end Vw

/-! defs that give back a fresh list, which the caller may go on filling -/
namespace Vw
open PySem PySem.Spec L2
def tSL (B : Bs) (ρ : Rho) (Ξ : List PyData → Prop) : TS := fun D σ H => En B ρ σ H ∧ ∀ (ρ' : Rho) (σ' : L2.St) (H' : Hp) (i : Nat) (ds : List PyData) (v : V), XS B ρ σ H ρ' σ' H' → En B ρ' σ' H' → ρ'[i]? = some (some (Sl.own ds)) → Ξ ds → σ'[i]? = some (some v) → D.rt v H'
def EvL (X : Cx) (B : Bs) (ρ : Rho) (sts : List Stmt) (Ξ : List PyData → Prop) : Prop := PSs X sts (tSL B ρ Ξ)
section
variable {X : Cx} {B : Bs} {ρ : Rho} {st : Stmt} {sts : List Stmt} {Ξ : List PyData → Prop} {x : Str} {p pos : Pos}
theorem el_cons (h : EvS X B ρ st { nx := fun ρ' => EvL X B ρ' sts Ξ, rt := fun _ => False }) : EvL X B ρ (st :: sts) Ξ :=
  pss_imp (pss_cons h pss_s) fun D σ H q => ⟨q.1, fun ρ' σ' H' x E hb => ⟨_, hb, E, fun ρ2 σ2 H2 i ds v x2 E2 hi hΞ hv => q.2 ρ2 σ2 H2 i ds v (x.trans E.ok x2) E2 hi hΞ hv⟩,
    fun v H' d x k hd z => z.elim, fun ρ' σ' H' x E z => z.elim, fun ρ' σ' H' x E z => z.elim⟩
theorem el_ret (i : Nat) {ds : List PyData} (hr : ρ[i]? = some (some (.own ds))) (hN : X.N[i]? = some x) (hv : Vis X.env.scope x) (h : Ξ ds) (hd : (x == ("__debug__" : Str)) = false := by decide) (hcd : (x == ("__classdict__" : Str)) = false := by decide) :
    EvL X B ρ [.Return (some (.Name x p)) pos] Ξ :=
  pss_imp (pss_one (ps_ret (pe_var hN hv hd hcd))) fun D σ H q => by
    obtain ⟨v, e1, _⟩ := q.1.sl i _ hr
    exact ⟨v, e1, q.2 ρ σ H i ds v (XS.of_ext Ext.refl) q.1 hr h e1⟩
end
def spL (R : List Sl → (List PyData → Prop) → Prop) : Sp := fun vs H Q _ => ∃ (B : Bs) (ss : List Sl) (Ξ : List PyData → Prop), SlAll B B.ex H ss vs ∧ B.Ok H ∧ R ss Ξ ∧
  ∀ p H' ds xs, Ext B H H' → B.Ok H' → H p = none → H' p = some (.lst xs) → ¬ B.ex p → DnAll (B.add p).ex H' ds xs → Ξ ds → Q (.ref p) H'
structure FiL (P : Program) (w : World) (K : PySem.W.Frag) (mg : Str → Option Value) (base : Heap) (k : Nat) (x : Str) (st : Stmt) (ps : List Str) (R : List Sl → (List PyData → Prop) → Prop) : Prop where
  ex : ∃ (f : Addr) (fd : FuncData), Fun K x x st f fd ∧ Fg P w K mg base CX0 k f fd ps (spL R) ∧ mg x = some (.ref f) ∧ Binds K fd ps []
theorem fil_ofS {P : Program} {w : World} {K : PySem.W.Frag} {mg : Str → Option Value} {base : Heap} {x : Str} {st : Stmt} {N ps : List Str} {k : Nat} {R : List Sl → (List PyData → Prop) → Prop} {f : Addr} {fd : FuncData} (F : Fun K x x st f fd) (C : FnScope N ps (defScope st))
    (hm : mg x = some (.ref f)) (hb : Binds K fd ps []) (len : ∀ ss Ξ, R ss Ξ → ss.length = ps.length ∧ noOwn ss = true)
    (body : ∀ (X : Cx) (B : Bs) (ss : List Sl) (Ξ : List PyData → Prop), (∃ cdv A out s H, X = (cxOf CX0 P w K mg base N x (defScope st) f cdv A out s H E0).nox) → Same X P w K mg base N → Rm k X.A → R ss Ξ → EvL X B (rho0 N ss) (defBody st) Ξ) :
    FiL P w K mg base (k + 1) x st ps R := by
  refine ⟨f, fd, F, fg_of F C (fun vs H Q E ⟨B, ss, Ξ, hs, _, hR, _⟩ => (slAll_length hs).trans (len ss Ξ hR).1) fun cdv A out s H vs Q E hr ⟨B, ss, Ξ, hs, ok, hR, c⟩ => ?_, hm, hb⟩
  have h := body _ B ss Ξ ⟨cdv, A, out, s, H, rfl⟩ ⟨rfl, rfl, rfl, rfl, rfl, rfl, C.nd, rfl, PassesOwn.never⟩ hr hR
  refine ⟨_, PSs.nox h, en_start (len ss Ξ hR).2 hs ok, fun ρ' σ' H' i ds v x E' hi hΞ hv => ?_⟩
  obtain ⟨u, e1, p, xs, rfl, hp, np, hds⟩ := E'.sl i _ hi
  rw [hv] at e1
  cases e1
  have own : Own ρ' σ' p := ⟨i, ds, hi, hv⟩
  have hn : H p = none := (x.2 p own).resolve_left (own_start (len ss Ξ hR).2 p)
  refine c p H' ds xs (fun y o e m => x.1 y o e m (own_start (len ss Ξ hR).2 y)) E'.ok hn hp (fun z => ok.live p z hn) (DnAll.mono (fun y z => ?_) (fun _ _ e _ => e) ds xs hds) hΞ
  rcases z with z | z
  · exact .inl (.inl z)
  · exact .inl (.inr (z ▸ own))
section
variable {X : Cx} {B : Bs} {ρ : Rho} {k : Nat} {x : Str} {st : Stmt} {ps : List Str} {R : List Sl → (List PyData → Prop) → Prop} {e : Expr} {es : List Expr} {p pos : Pos} {Ξ : List PyData → Prop} {P : Program} {w : World} {K : PySem.W.Frag} {mg : Str → Option Value} {base : Heap} {N : List Str}
theorem ef_ca0 (F : FiL X.prog X.w X.K X.mg X.base k x st ps R) (hr : Rm k X.A) (hg : Gl X x) (h : EvA X B ρ (e :: es) fun ss => noOwn ss = true ∧ R ss Ξ)
    (hdb : (x == ("__debug__" : Str)) = false := by decide) (he : starEach (e :: es) X.env = (false, eval e X.env) :: starEach es X.env := by rfl) (hpl : (backTo pos (starEach es X.env)).any (·.1) = false := by rfl) :
    EvF X B ρ (.Call (.Name x p) (e :: es) [] pos) Ξ := by
  obtain ⟨f, fd, F1, F2, hm, hb⟩ := F.ex
  refine ⟨fun pins s σ H Q I hq => ?_⟩
  obtain ⟨E, c⟩ := hq
  refine wpAny_Call_Name_kw (ld_glob I hg hm ?_ hdb)
  refine PySem.W.callWith_K (h₀ := X.base) I.ok.mod.kin F1.kp (thn (h.run pos pins s σ H (fun vs H1 => ∃ ss, Ext B H H1 ∧ En B ρ σ H1 ∧ SlAll B (exO B ρ σ) H1 ss vs ∧ noOwn ss = true ∧ R ss Ξ) I ⟨E, fun vs H1 ss e1 E1 d1 h1 => ⟨ss, e1, E1, d1, h1⟩⟩)
    fun us s1 ⟨vs, H1, I1, rv, ss, e1, E1, d1, n, hR⟩ => ⟨I1.kIn, ?_⟩) he hpl
  refine call_fg (E := E0) F2 hr hb .nil pass0 I1 rv ?_
  rw [List.append_nil]
  refine ⟨B.in ρ σ, ss, Ξ, slAll_in n d1, E1.okIn, hR, fun q H' ds xs x2 ok hn hp nq hds hΞ => ?_⟩
  have okB : B.Ok H' := E1.okOut ok
  have EA : En (B.add q) ρ σ H' := (E1.add (o := .lst xs) hn).ext (fun y o e n => by
    by_cases hy : y = q
    · subst hy
      rw [upd_same] at e
      cases e
      exact hp
    · rw [upd_ne hy] at e
      exact x2 y o e n) (okB.add (by rw [hp]; exact fun z => nomatch z))
  refine c q H' ds xs (e1.trans x2) (e1.none E1.ok hn) okB EA hp nq (DnAll.mono (fun y z => .inl ?_) (fun _ _ e _ => e) ds xs hds) hΞ
  rcases z with (z | z) | z
  · exact .inl (.inl z)
  · exact .inr z
  · exact .inl (.inr z)
theorem ef_ca (S : Same X P w K mg base N) (F : FiL P w K mg base k x st ps R) {j : Nat} (hr : Rm j X.A) (hk : k ≤ j) (hg : Gl X x) (h : EvA X B ρ (e :: es) fun ss => noOwn ss = true ∧ R ss Ξ)
    (hdb : (x == ("__debug__" : Str)) = false := by decide) (he : starEach (e :: es) X.env = (false, eval e X.env) :: starEach es X.env := by rfl) (hpl : (backTo pos (starEach es X.env)).any (·.1) = false := by rfl) :
    EvF X B ρ (.Call (.Name x p) (e :: es) [] pos) Ξ := by
  refine ef_ca0 (k := k) (st := st) (ps := ps) (R := R) ?_ (hr.mono hk) hg h hdb he hpl
  rw [S.p, S.w, S.k, S.m, S.b]
  exact F
end
end Vw

/-! x = [elt for tg in iter], the parts reading an own list -/
namespace Vw
open PySem PySem.Spec L2
section
variable {X : Cx} {B : Bs} {ρ : Rho} {iter : Expr} {pos p pos' : Pos} {own : List (Str × Nat)} {elt tg : Expr} {scope : Scope} {T : PyData → Rho → (Rho → Prop) → Prop}
theorem frzF {Ξ : List PyData → Prop} {i : Nat} {ds : List PyData} {σ : L2.St} {H : Hp} {Q : VK} (hr : ρ[i]? = some (some (.own ds))) (h : tF B ρ Ξ σ H Q) : tF B (ρ.set i (some (.dat (.list ds)))) (fun ds => noLstAll ds = true ∧ Ξ ds) σ H Q := by
  obtain ⟨E, k⟩ := h
  refine ⟨E.freeze hr, fun p H1 es vs x nh ok E' hp np hd ⟨nl, hΞ⟩ => ?_⟩
  have EA : En (B.add p) ρ σ H1 := (E.add (o := .lst vs) nh).ext (fun y o e n => by
    by_cases hy : y = p
    · subst hy
      rw [upd_same] at e
      cases e
      exact hp
    · rw [upd_ne hy] at e
      exact x y o e n) (ok.add (by rw [hp]; exact fun z => nomatch z))
  refine k p H1 es vs x nh ok EA hp (fun z => ?_) (DnAll.thaw (fun y z => ?_) es vs nl hd) hΞ
  · rcases z with z | z
    · exact np (.inl z)
    · obtain ⟨_, ws, e, _⟩ := E.ownLive z
      rw [nh] at e
      cases e
  · rcases z with z | z
    · exact .inl (.inl z)
    · obtain ⟨_, ws, e, _⟩ := EA.ownLive z
      exact .inr ⟨ws, e⟩
theorem es_lcTF (i : Nat) (vs : List Nat) {i0 : Nat} {ds0 : List PyData} (hr : ρ[i0]? = some (some (.own ds0))) {y : Str} {py spos : Pos} {P : Po} (hc : X.calm = true) (hN : X.N.Nodup) (hy : X.N[i]? = some y) (hyl : X.env.scope.names.lookup y = some .local) (hv : own.map (·.2) = vs) (hg : EvGc X scope tg vs T) (ok : BlkOk X.N X.env.scope scope own)
    (h : EvE X B (ρ.set i0 (some (.dat (.list ds0)))) iter fun d => ∃ ds, d = .tuple ds ∧ CompD X scope B (ρ.set i0 (some (.dat (.list ds0)))) vs elt T ds.length (fun k y => ds[k]? = some y) (fun ds => noLstAll ds = true ∧ P.nx (ρ.set i (some (.own ds))))) (hs : ∀ x, foldedSetIterable iter X.env x = pure x := by intro _; rfl)
    (hsw : swapsWith (.ListComp elt [⟨tg, iter, [], 0⟩] scope pos) (some (.Name y py)) spos.line X.env = pure true := by rfl) :
    EvS X B ρ (.Assign [.Name y py] (.ListComp elt [⟨tg, iter, [], 0⟩] scope pos) spos) P := by
  subst hv
  obtain ⟨g, p1, q1⟩ := hg
  exact ps_imp (ps_setLc hc hN hy hyl hsw (pi_tup h) ok p1 (fun _ _ _ _ _ => pts_nil) pe_sc hs) fun D σ H q => ef_lcT_read q1 σ H _ (frzF (Ξ := fun ds => P.nx (ρ.set i (some (.own ds)))) hr ⟨q.1, fun p H' ds vs x nh ok E hp np hd hr => q.2.1 _ _ H' (XS.own x nh) (E.setOwn ok hp np hd) hr⟩)
end
end Vw

/-! the least of a list of ints -/
namespace Vw
open PySem PySem.Spec L2
section
variable {X : Cx} {B : Bs} {ρ : Rho} {Φ : PyData → Prop} {P0 : Program} {w : World} {K : PySem.W.Frag} {mg : Str → Option Value} {base : Heap} {N : List Str} {a : Expr} {p pos : Pos}
theorem cd_minL {ns : List Int} (h0 : 0 < ns.length) (h : ∀ m, m ∈ ns → (∀ y, y ∈ ns → m ≤ y) → Φ (.int m)) : CallD B ρ (rMin X.K) [.dat (.list (ns.map PyData.int))] Φ := fun σ H vs Q E hs k => by
  obtain ⟨v, rfl, h1⟩ := sl1 hs
  obtain ⟨q, rfl, hq⟩ := datInts h1
  exact ⟨q, ns, rfl, SqL.of hq, h0, fun m h2 h3 => k _ H _ Ext.refl E (Dn.int.mpr rfl) (h m h2 h3)⟩
theorem ev_minL (S : Same X P0 w K mg base N) (hm : mg "min" = none) (hg : Gl X "min") (h : EvE X B ρ a fun x => ∃ ns : List Int, x = .list (ns.map PyData.int) ∧ 0 < ns.length ∧ ∀ m, m ∈ ns → (∀ y, y ∈ ns → m ≤ y) → Φ (.int m))
    (he : starEach [a] X.env = (false, eval a X.env) :: starEach [] X.env := by rfl) (hpl : (backTo pos (starEach [] X.env)).any (·.1) = false := by rfl) : EvE X B ρ (.Call (.Name "min" p) [a] [] pos) Φ :=
  ev_callB (cr_min S.c) hg (by rw [S.m]; exact hm) (by decide +kernel) (ea_cons (ev_mono h fun d ⟨ns, e1, h0, h2⟩ => by subst e1; exact ea_nil (cd_minL h0 h2)) he) (by decide) (by decide) he hpl
end
section
variable {X : Cx} {B : Bs} {ρ : Rho} {P : Po} {pos : Pos}
/-- x.pop(), x an own list -/
theorem es_pop (i : Nat) {x : Str} {ds : List PyData} {p1 p2 p3 : Pos} (hr : ρ[i]? = some (some (.own ds))) (hN : X.N[i]? = some x) (hv : Vis X.env.scope x) (hne : 0 < ds.length)
    (h : P.nx (ρ.set i (some (.own ds.dropLast)))) (hd : (x == ("__debug__" : Str)) = false := by decide) (hcd : (x == ("__classdict__" : Str)) = false := by decide)
    (hbase : attributeBase (.Name x p1) "pop" X.env (eval (.Name x p1) X.env) = eval (.Name x p1) X.env := by rfl) (hline : (p2.endLine == p3.line) = true := by rfl)
    (hsw : swapsWith (.Call (.Attribute (.Name x p1) "pop" p2) [] [] p3) none pos.line X.env = pure false := by rfl) :
    EvS X B ρ (.Expr (.Call (.Attribute (.Name x p1) "pop" p2) [] [] p3) pos) P := by
  refine ps_imp (ps_expr (pe_bm0 PySem.F.plainAttrs_list PySem.F.slot_list_pop PySem.F.type_list_pop mt_pop (pe_var hN hv hd hcd) hbase hline) hsw) fun D σ H q => ?_
  obtain ⟨v, e1, p, vs, rfl, hp, np, hds⟩ := q.1.sl i _ hr
  have hl := hds.length
  have d2 : DnAll (exO B ρ σ) H ds.dropLast vs.dropLast := by
    rw [List.dropLast_eq_take, List.dropLast_eq_take, hl]
    exact hds.take _
  obtain ⟨E2, x2⟩ := q.1.putOwn (es := ds.dropLast) (vs := vs.dropLast) hr e1 d2
  exact ⟨_, e1, .inl ⟨rfl, _, SqL.of hp⟩, p, vs, vs[vs.length - 1]'(by omega), rfl, rfl, hp, List.getElem?_eq_getElem _, q.2.1 _ _ _ (XS.put hr x2) E2 h⟩
end
end Vw

/-! the deep cells of the store: what is done where there are some -/
namespace Vw
open PySem PySem.Spec L2
section
variable {X : Cx} {B : Bs} {ρ : Rho} {P0 : Po} {P : Program} {w : World} {K : PySem.W.Frag} {mg : Str → Option Value} {base : Heap} {N : List Str} {j0 : Nat} {x : Str} {p p1 p2 p3 p4 pos : Pos} {k : Nat}
/-- src['far'] -/
theorem pe_far (S : Same X P w K mg base N) (hr : Rm j0 X.A) {i : Nat} (ha : At N i x) (hv : Vis X.env.scope x) (hd : (x == ("__debug__" : Str)) = false := by decide) (hcd : (x == ("__classdict__" : Str)) = false := by decide) :
    PE X (.Subscript (.Name x p) (.Constant (.str "far") k p1) p2) (tDGet (fun σ H Q => ∃ v, σ[i]? = some (some v) ∧ Q v H) (tC (.str "far"))) :=
  pe_dget (hu_of hr.r) (pe_var (by rw [S.n]; exact ha.get) hv hd hcd) pe_str (fun _ _ => rfl)
theorem far_at {H : Hp} {a b c : Addr} {deep small : List Int} {fold turn : Int} (s : SrcS H a b c deep small fold turn) : DGet H a (.str "far") (some (.ref b)) := by
  have := DGet.k (k := kFar) s.da
  rw [val_deep] at this
  exact this
theorem es_deepE (S : Same X P w K mg base N) (hr : Rm j0 X.A) {i : Nat} {bd : List Stmt} {tb : TS} {many : Int} (ha : At N i x) (hρ : ρ[i]? = some (some .src)) (hv : Vis X.env.scope x) (hb : PSs X bd tb)
    (hrd : ∀ D σ H a b c n r small fold turn, En B ρ σ H → σ[i]? = some (some (.ref a)) → SrcS H a b c (n :: r) small fold turn → (∀ H' d, 0 ≤ d → d < many → (∀ y o, H y = some o → y ≠ a → y ≠ b → H' y = some o) → Src H' a b c → D.rt (.int d) H') → tb D σ H)
    (hnx : P0.nx ρ) (hrt : ∀ d : Int, 0 ≤ d → d < many → P0.rt (.int d)) (hd : (x == ("__debug__" : Str)) = false := by decide) (hcd : (x == ("__classdict__" : Str)) = false := by decide) :
    EvS X B ρ (.If (.Compare (.Subscript (.Name x p) (.Constant (.str "far") k p1) p2) [.NotEq] [.List [] p3] p4) bd [] pos) P0 := by
  refine ps_imp (ps_if (pt_cmpR (op_neD hr.r.units) (pe_far S hr ha hv hd hcd) (pe_lst pa_nil) (nomark _)) hb pss_nil) fun D σ H q => ?_
  have E := q.1
  obtain ⟨a, b, c, hs, s1, _⟩ := E.src hρ
  obtain ⟨⟨deep, small, fold, turn, s⟩, exa, exb, exc⟩ := E.ok.sr a b c hs
  refine ⟨.ref a, s1, a, .ref b, rfl, far_at s, Nat.zero_le _, fun p hp => ?_⟩
  have e1 : ∀ {y : Addr} {o : HO}, H y = some o → upd H p (.lst []) y = some o := fun {y o} e => by rw [upd_ne (ne_of_none e hp)]; exact e
  have E1 : En B ρ σ (upd H p (.lst [])) := E.new hp
  refine ⟨.list (deep.map PyData.int), .list [], dpInts (e1 s.db), dpInts (ns := []) upd_same, shapedInts deep, shapedInts [], ?_⟩
  rw [eqvInts0]
  refine ⟨_, rfl, ?_⟩
  cases deep with
  | nil => exact q.2.1 ρ σ _ (XS.of_ext (Ext.new hp)) E1 hnx
  | cons n r =>
    refine hrd D σ _ a b c n r small fold turn E1 s1 ⟨e1 s.da, e1 s.db, e1 s.dc, s.ne, s.le, s.ld, s.bc⟩ fun H' d h1 h2 hk hS => ?_
    have no : ∀ y, ¬ B.S y → y ≠ a ∧ y ≠ b := fun y n => ⟨fun z => n ⟨a, b, c, hs, .inl z⟩, fun z => n ⟨a, b, c, hs, .inr z⟩⟩
    refine q.2.2.1 (.int d) H' (.int d) (fun y o e n m => hk y o (e1 e) (no y n).1 (no y n).2) ⟨fun y hy => ?_, fun a' b' c' e' => ?_⟩ (Dn.int.mpr rfl) (hrt d h1 h2)
    · have l1 := E1.ok.live y hy
      cases e : upd H p (.lst []) y with
      | none => exact absurd e l1
      | some o =>
        obtain ⟨_, _, _, _, s'⟩ := hS
        by_cases z1 : y = a
        · rw [z1, s'.da]; intro z; cases z
        · by_cases z2 : y = b
          · rw [z2, s'.db]; intro z; cases z
          · rw [hk y o e z1 z2]; intro z; cases z
    · rw [hs] at e'
      cases e'
      exact ⟨hS, exa, exb, exc⟩
end
end Vw

/-! a dict of four written names -/
namespace Vw
open PySem PySem.Spec L2
section
variable {X : Cx} {B : Bs} {ρ : Rho} {Φ : PyData → Prop} {a1 a2 a3 a4 : Expr} {pos p1 p2 p3 p4 : Pos} {k1 k2 k3 k4 : Nat} {x1 x2 x3 x4 : Str}
theorem ev_dict4 (hm : ∀ u1 u2 u3 u4 : V, mergeK [] [((.inr x1 : Key), u1), (.inr x2, u2), (.inr x3, u3), (.inr x4, u4)] = [(.inr x1, u1), (.inr x2, u2), (.inr x3, u3), (.inr x4, u4)])
    (h : ∀ B' : Bs, EvE X B' ρ a1 fun d1 => EvE X B' ρ a2 fun d2 => EvE X B' ρ a3 fun d3 => EvE X B' ρ a4 fun d4 => Φ (.dict [(.str x1, d1), (.str x2, d2), (.str x3, d3), (.str x4, d4)])) :
    EvE X B ρ (.Dict [some (.Constant (.str x1) k1 p1), some (.Constant (.str x2) k2 p2), some (.Constant (.str x3) k3 p3), some (.Constant (.str x4) k4 p4)] [a1, a2, a3, a4] pos) Φ :=
  pe_imp (pe_disp (pps_cons pe_str pe_s (pps_cons pe_str pe_s (pps_cons pe_str pe_s (pps_cons pe_str pe_s pps_nil)))) rfl rfl (fun z => nomatch z) (Nat.le_of_ble_eq_true rfl)) fun σ H Q ⟨E, k⟩ => fun p hp => by
    have E1 : En (B.add p) ρ σ (upd H p (.dK [])) := E.add hp
    refine ⟨_, h (B.add p), E1, fun v1 H1 d1 y1 F1 g1 b1 => ⟨_, b1, F1, fun v2 H2 d2 y2 F2 g2 b2 => ⟨_, b2, F2, fun v3 H3 d3 y3 F3 g3 b3 => ⟨_, b3, F3, fun v4 H4 d4 y4 F4 g4 hΦ => ?_⟩⟩⟩⟩
    have x12 : Ext (B.add p) (upd H p (.dK [])) H4 := y1.trans (y2.trans (y3.trans y4))
    have npS : ¬ (B.add p).S p := fun ⟨a, b, c, e, z⟩ => by
      have := E.ok.live p (E.ok.sx ⟨a, b, c, e, z⟩)
      exact this hp
    have hp2 : H4 p = some (.dK []) := x12 p _ upd_same npS
    have g1' := F1.dn (y2.trans (y3.trans y4)) g1
    have g2' := F2.dn (y3.trans y4) g2
    have g3' := F3.dn y4 g3
    refine ⟨hp2, [((.inr x1 : Key), v1), (.inr x2, v2), (.inr x3, v3), (.inr x4, v4)], rfl, Nat.le_of_ble_eq_true rfl, ?_⟩
    have hs : ∀ a b c, (B.add p).src = some (a, b, c) → a ≠ p ∧ b ≠ p ∧ c ≠ p := fun a b c e => by
      have e' : B.src = some (a, b, c) := e
      obtain ⟨_, h1, h2, h3⟩ := E.ok.sr a b c e'
      exact ⟨fun z => E.ok.live a h1 (z ▸ hp), fun z => E.ok.live b h2 (z ▸ hp), fun z => E.ok.live c h3 (z ▸ hp)⟩
    rw [hm]
    have E4 : En (B.add p) ρ σ (upd H4 p (.dK [((.inr x1 : Key), v1), (.inr x2, v2), (.inr x3, v3), (.inr x4, v4)])) := F4.poke (.inr rfl) hs
    have ok : B.Ok (upd H4 p (.dK [((.inr x1 : Key), v1), (.inr x2, v2), (.inr x3, v3), (.inr x4, v4)])) := ⟨fun y hy => E4.ok.live y (.inl hy), fun a b c e => by
      obtain ⟨h0, h1, h2, h3⟩ := E4.ok.sr a b c e
      obtain ⟨_, g1, g2, g3⟩ := E.ok.sr a b c e
      exact ⟨h0, g1, g2, g3⟩⟩
    have xx : Ext B H (upd H4 p (.dK [((.inr x1 : Key), v1), (.inr x2, v2), (.inr x3, v3), (.inr x4, v4)])) := fun y o e n => by
      have ny : y ≠ p := ne_of_none e hp
      rw [upd_ne ny]
      exact x12 y o (by rw [upd_ne ny]; exact e) n
    have mv : ∀ {d : PyData} {v : V}, Dn (exO (B.add p) ρ σ) H4 d v → Dn (exO B ρ σ) (upd H4 p (.dK [((.inr x1 : Key), v1), (.inr x2, v2), (.inr x3, v3), (.inr x4, v4)])) d v := fun {d v} hd => by
      refine Dn.mono (fun y z => .inl (z.imp .inl id)) (fun y o e n => ?_) d v hd
      rw [upd_ne (show y ≠ p from fun z => n (.inl (.inr z)))]
      exact e
    exact k (.ref p) _ (.dict [(kD (.inr x1), d1), (kD (.inr x2), d2), (kD (.inr x3), d3), (kD (.inr x4), d4)]) xx (E4.unadd ok) (Dn.dictK ⟨p, _, rfl, upd_same, E.nx hp, DnKv.cons.mpr ⟨.inr x1, v1, _, rfl, rfl, mv g1', DnKv.cons.mpr ⟨.inr x2, v2, _, rfl, rfl, mv g2', DnKv.cons.mpr ⟨.inr x3, v3, _, rfl, rfl, mv g3', DnKv.cons.mpr ⟨.inr x4, v4, _, rfl, rfl, mv g4, DnKv.nil.mpr rfl⟩⟩⟩⟩⟩) hΦ
end
end Vw

/-! x = [elt for tg in iter if cnd], iter a list -/
namespace Vw
open PySem PySem.Spec L2
section
variable {X : Cx} {B : Bs} {ρ : Rho} {iter : Expr} {pos p pos' : Pos} {own : List (Str × Nat)} {elt tg cnd : Expr} {scope : Scope} {T : PyData → Rho → (Rho → Prop) → Prop}
theorem es_lcI (i : Nat) (vs : List Nat) {y : Str} {py spos : Pos} {P : Po} (hc : X.calm = true) (hN : X.N.Nodup) (hy : X.N[i]? = some y) (hyl : X.env.scope.names.lookup y = some .local) (hv : own.map (·.2) = vs) (hg : EvGc X scope tg vs T) (ok : BlkOk X.N X.env.scope scope own)
    (h : EvE X B ρ iter fun d => ∃ ds, d = .list ds ∧ CompDI X scope B ρ vs elt cnd T ds.length (fun k y => ds[k]? = some y) (fun ds => P.nx (ρ.set i (some (.own ds))))) (hs : ∀ x, foldedSetIterable iter X.env x = pure x := by intro _; rfl)
    (hsw : swapsWith (.ListComp elt [⟨tg, iter, [cnd], 0⟩] scope pos) (some (.Name y py)) spos.line X.env = pure true := by rfl) :
    EvS X B ρ (.Assign [.Name y py] (.ListComp elt [⟨tg, iter, [cnd], 0⟩] scope pos) spos) P := by
  subst hv
  obtain ⟨g, p1, q1⟩ := hg
  refine ps_imp (ps_setLc hc hN hy hyl hsw (pi_list h) ok p1 (fun s H C cl fp => pts_one (pt_sc s H C cl fp)) pe_sc hs) fun D0 σ H q => ?_
  have k := fun (p : Addr) (H' : Hp) (ds : List PyData) (vs : List V) (x : Ext B H H') (nh : H p = none) (ok : B.Ok H') (E : En (B.add p) ρ σ H') (hp : H' p = some (.lst vs)) (np : ¬ exO B ρ σ p) (hd : DnAll (exO (B.add p) ρ σ) H' ds vs) (hr : P.nx (ρ.set i (some (.own ds)))) => q.2.1 _ _ H' (XS.own x nh) (E.setOwn ok hp np hd) hr
  refine ⟨q.1, fun v H1 d x1 E1 hd ⟨ds, ed, J, j0, jt, jd⟩ => ?_⟩
  subst ed
  obtain ⟨a, xs, rfl, ha, na, hds⟩ := Dn.list.mp hd
  refine ⟨a, rfl, ⟨xs, SqL.of ha⟩, fun D hD => lc_list (K := X.K) (a := a) (xs := xs) (CompP B ρ σ H1 D J) (comp_start E1 hD j0) (fun i H' _ ⟨_, _, _, _, _, _, x, _⟩ => SqL.of (x a _ ha fun z => na (.inl (E1.ok.sx z)))) ?_ ?_⟩
  · intro i y H' hy p
    obtain ⟨d, hdi, hdn⟩ := hds.get' hy
    have hlt : i < ds.length := (List.getElem?_eq_some_iff.mp hdi).1
    obtain ⟨_, _, _, _, _, E', x, _⟩ := id p
    exact comp_turnI E1 hD q1 (fun acc B' hB hj => jt i d acc B' hB hlt hdi hj) p (Dn.mono (fun z h => exAdd hD z h) (fun z o e n => x z o e fun h => n (.inl (E1.ok.sx h))) d y hdn)
  · intro H' p
    rw [← hds.length] at p
    exact comp_end (Q := fun v H' => D0.nx (σ.set i (some v)) H') k E1 hD x1 jd p
end
end Vw

/-! repr of any data, where the start state's sys.modules is no list -/
namespace Vw
open PySem PySem.Spec L2
section
variable {X : Cx} {pins : List (Addr × Obj)} {σ : L2.St} {H : Hp} {s : Shared} {ex : Addr → Prop}
theorem kD_noDict (k : Key) : (kD k).hasDict = false := by
  cases k <;> simp [kD, PyData.hasDict]
theorem kDs_noDict : ∀ k : List Key, PyData.hasDictAll (k.map kD) = false
  | [] => by simp [PyData.hasDictAll]
  | a :: k => by simp [PyData.hasDictAll, kD_noDict a, kDs_noDict k]
theorem DnKv.noDict : ∀ (ds : List (PyData × PyData)) (L : List (Key × V)), DnKv ex H ds L → PyData.hasDictAll (ds.map (·.1)) = false
  | [], L, h => by simp [PyData.hasDictAll]
  | (k, d) :: ds, L, h => by
    obtain ⟨key, v, w, rfl, rfl, h1, h2⟩ := DnKv.cons.mp h
    simp [PyData.hasDictAll, kD_noDict key, DnKv.noDict ds w h2]
theorem DnKt.noDict : ∀ (ds : List (PyData × PyData)) (L : List (List Key × V)), DnKt ex H ds L → PyData.hasDictAll (ds.map (·.1)) = false
  | [], L, h => by simp [PyData.hasDictAll]
  | (k, d) :: ds, L, h => by
    obtain ⟨key, v, w, rfl, rfl, h1, h2⟩ := DnKt.cons.mp h
    simp [PyData.hasDictAll, PyData.hasDict, kDs_noDict key, DnKt.noDict ds w h2]
theorem noHs {ds : List PyData} {as : List Addr} (h : PyData.hasDictAll ds = false) : PyData.hasDictAll ds = true → sysModules ∉ as := fun h' => by
  rw [h] at h'
  exact absurd h' Bool.false_ne_true
mutual
/-- what data that may have dicts in it is shown as -/
theorem Dn.rk (I : Inv X pins σ H s) : ∀ (d : PyData) (v : V) (u : Value), Dn ex H d v → RelV v u → d.showable = true → d.shown.length ≤ sizeLine → ∃ as bs, Reads s.heap u d as ∧ ReadAtMost s.heap d.depth bs ∧ ReprK X.prog X.w bs s.heap d.depth u d.shown
  | .none, v, u, h, r, hs, hz => by
    rw [Dn.none.mp h] at r; cases r
    obtain ⟨bs, q⟩ := ReprK.of_reads (prog := X.prog) (w := X.w) (h₀ := s.heap) Reads.none hs (PyData.noDict_hsm (by simp [PyData.hasDict])) hz
    exact ⟨_, bs, Reads.none, q⟩
  | .bool b, v, u, h, r, hs, hz => by
    rw [Dn.bool.mp h] at r; cases r
    obtain ⟨bs, q⟩ := ReprK.of_reads (prog := X.prog) (w := X.w) (h₀ := s.heap) (Reads.bool b) hs (PyData.noDict_hsm (by simp [PyData.hasDict])) hz
    exact ⟨_, bs, Reads.bool b, q⟩
  | .int i, v, u, h, r, hs, hz => by
    rw [Dn.int.mp h] at r; obtain ⟨t, rfl⟩ := r
    obtain ⟨bs, q⟩ := ReprK.of_reads (prog := X.prog) (w := X.w) (h₀ := s.heap) (Reads.int i t) hs (PyData.noDict_hsm (by simp [PyData.hasDict])) hz
    exact ⟨_, bs, Reads.int i t, q⟩
  | .str x, v, u, h, r, hs, hz => by
    rw [Dn.str.mp h] at r; obtain ⟨t, rfl⟩ := r
    obtain ⟨bs, q⟩ := ReprK.of_reads (prog := X.prog) (w := X.w) (h₀ := s.heap) (Reads.str x t) hs (PyData.noDict_hsm (by simp [PyData.hasDict])) hz
    exact ⟨_, bs, Reads.str x t, q⟩
  | .list ds, v, u, h, r, hs, hz => by
    obtain ⟨a, xs, rfl, ha, _, hd⟩ := Dn.list.mp h
    cases r
    obtain ⟨its, rv, ⟨o, n, h1, h2, _, h3⟩, _⟩ := I.list (SqL.of (K := X.K) ha)
    have hz' : (listText (PyData.shownAll ds)).length ≤ sizeLine := by simpa only [PyData.shown] using hz
    obtain ⟨as, bs, h4, hb, hk⟩ := DnAll.rk I ds xs its hd rv (by simpa [PyData.showable] using hs) (fun t ht => Nat.le_trans (listText_mem_le ht) hz')
    have r : Reads s.heap (.ref a) (.list ds) _ := .list h1 h2 h3 h4
    have hna : a ∉ bs := not_mem_of_deeper r (by simp only [PyData.depth]; omega) hb
    refine ⟨_, a :: bs, r, ReadAtMost.cons r (by simp only [PyData.depth]; omega) hb, ?_⟩
    simp only [PyData.depth, PyData.shown]
    cases its with
    | nil =>
      cases h4
      simp only [PyData.shownAll, listText_nil]
      exact ReprK.listEmpty h1 h2 h3
    | cons x l => exact ReprK.list h1 h2 h3 hna (by simpa using hk.length_eq) (fun i y e => hk.item i y (by simpa using e))
  | .tuple ds, v, u, h, r, hs, hz => by
    obtain ⟨a, xs, rfl, ha, _, hd⟩ := Dn.tuple.mp h
    cases r
    obtain ⟨its, rv, ⟨o, h1, h2, n, h3⟩, _⟩ := I.tuple (SqT.of (K := X.K) ha)
    have hz' : (tupleText (PyData.shownAll ds)).length ≤ sizeLine := by simpa only [PyData.shown] using hz
    obtain ⟨as, bs, h4, hb, hk⟩ := DnAll.rk I ds xs its hd rv (by simpa [PyData.showable] using hs) (fun t ht => Nat.le_trans (tupleText_mem_le ht) hz')
    have r : Reads s.heap (.ref a) (.tuple ds) _ := .tuple h1 h2 h3 h4
    have hna : a ∉ bs := not_mem_of_deeper r (by simp only [PyData.depth]; omega) hb
    refine ⟨_, a :: bs, r, ReadAtMost.cons r (by simp only [PyData.depth]; omega) hb, ?_⟩
    simp only [PyData.depth, PyData.shown]
    exact ReprK.tuple h1 h2 h3 hna hk
  | .dict kvs, v, u, h, r, hs, hz => by
    have hz' : (dictText (PyData.shownKv kvs)).length ≤ sizeLine := by simpa only [PyData.shown] using hz
    obtain ⟨hs1, hs2⟩ := PyData.showableKv_split kvs (by simpa [PyData.showable] using hs)
    have zk : ∀ t ∈ PyData.shownAll (kvs.map (·.1)), t.length ≤ sizeLine := fun t ht => let ⟨p, hp, hl⟩ := PyData.shownKv_key_le kvs t ht; Nat.le_trans hl (Nat.le_trans (dictText_mem_le hp) hz')
    have zv : ∀ t ∈ PyData.shownAll (kvs.map (·.2)), t.length ≤ sizeLine := fun t ht => let ⟨p, hp, hl⟩ := PyData.shownKv_val_le kvs t ht; Nat.le_trans hl (Nat.le_trans (dictText_mem_le hp) hz')
    have fin : ∀ {a : Addr} {o : Obj} {es : Array DictEntry} {ep : Nat} {a1 a2 b2 : List Addr}, (a == sysModules) = false → s.heap.get? a = some o → o.cls = .type "dict" → o.data = .dict es ep → ReadsAll s.heap (es.toList.map (·.key)) (kvs.map (·.1)) a1 → ReadsAll s.heap (es.toList.map (·.val)) (kvs.map (·.2)) a2 →
        PyData.hasDictAll (kvs.map (·.1)) = false → ReadAtMost s.heap (PyData.depthAll (kvs.map (·.2))) b2 → ReprAllK X.prog X.w b2 s.heap (PyData.depthAll (kvs.map (·.2))) (es.toList.map (·.val)) (PyData.shownAll (kvs.map (·.2))) →
        ∃ as bs, Reads s.heap (.ref a) (.dict kvs) as ∧ ReadAtMost s.heap (PyData.dict kvs).depth bs ∧ ReprK X.prog X.w bs s.heap (PyData.dict kvs).depth (.ref a) (PyData.dict kvs).shown := by
      intro a o es ep a1 a2 b2 hsys h1 h2 h3 h4 h5 nd hb2 k2
      obtain ⟨b1, hb1, k1⟩ := ReprAllK.of_readsAll (prog := X.prog) (w := X.w) h4 hs1 (noHs nd) zk
      have r : Reads s.heap (.ref a) (.dict kvs) _ := .dict h1 h2 h3 h4 h5
      have hb : ReadAtMost s.heap (PyData.depthKv kvs) (b1 ++ b2) := (hb1.mono (PyData.depthAll_keys_le kvs)).append (hb2.mono (PyData.depthAll_vals_le kvs))
      have hna : a ∉ b1 ++ b2 := not_mem_of_deeper r (by simp only [PyData.depth]; omega) hb
      refine ⟨_, a :: (b1 ++ b2), r, ReadAtMost.cons r (by simp only [PyData.depth]; omega) hb, ?_⟩
      simp only [PyData.depth, PyData.shown, PyData.shownKv_eq]
      exact ReprK.dict h1 h2 h3 hsys hna (ReprEntriesK.of_two es.toList _ _
        (k1.more_le (fun b hb => List.mem_append_left _ hb) (PyData.depthAll_keys_le kvs)) (k2.more_le (fun b hb => List.mem_append_right _ hb) (PyData.depthAll_vals_le kvs)))
    obtain ⟨a, rfl, _, ⟨L, ha, hd⟩ | ⟨L, ha, hd⟩⟩ := Dn.dict.mp h
    · cases r
      obtain ⟨_, ns, vs, kv, o, es, ep, ho, hx, he, _, hp, _⟩ := dk_of I.hok ha
      obtain ⟨a1, a2, b2, q1, q2, hb2, k2⟩ := DnKv.rk I kvs L es.toList vs hd kv hp hs2 zv
      exact fin ns ho hx.1 he q1 q2 (DnKv.noDict kvs L hd) hb2 k2
    · cases r
      obtain ⟨_, ns, xs, kt, o, es, ep, ho, hx, he, he2, _⟩ := dt_of I.hok ha
      obtain ⟨a1, a2, b2, q1, q2, hb2, k2⟩ := DnKt.rk I kvs L xs hd kt hs2 zv
      have w1 : es.toList.map (·.key) = xs.map fun x => Value.ref x.2.1 := by rw [he2, List.map_map]; rfl
      have w2 : es.toList.map (·.val) = xs.map fun x => x.2.2 := by rw [he2, List.map_map]; rfl
      rw [← w1] at q1
      rw [← w2] at q2 k2
      exact fin ns ho hx.1 he q1 q2 (DnKt.noDict kvs L hd) hb2 k2
theorem DnAll.rk (I : Inv X pins σ H s) : ∀ (ds : List PyData) (vs : List V) (us : List Value), DnAll ex H ds vs → Vals vs us → PyData.showableAll ds = true → (∀ t ∈ PyData.shownAll ds, t.length ≤ sizeLine) →
    ∃ as bs, ReadsAll s.heap us ds as ∧ ReadAtMost s.heap (PyData.depthAll ds) bs ∧ ReprAllK X.prog X.w bs s.heap (PyData.depthAll ds) us (PyData.shownAll ds)
  | [], vs, us, h, r, _, _ => by
    rw [DnAll.nil.mp h] at r; cases r
    exact ⟨_, [], ReadsAll.nil, (fun _ h => nomatch h), by simp only [PyData.shownAll]; exact .nil⟩
  | d :: ds, vs, us, h, r, hs, hz => by
    obtain ⟨v, w, rfl, h1, h2⟩ := DnAll.cons.mp h
    have hs' : d.showable = true ∧ PyData.showableAll ds = true := by simpa [PyData.showableAll] using hs
    cases r with
    | cons r1 r2 =>
      obtain ⟨as1, b1, q1, hb1, k1⟩ := Dn.rk I d _ _ h1 r1 hs'.1 (hz _ (by simp only [PyData.shownAll]; exact List.mem_cons_self ..))
      obtain ⟨as2, b2, q2, hb2, k2⟩ := DnAll.rk I ds _ _ h2 r2 hs'.2 (fun t ht => hz t (by simp only [PyData.shownAll]; exact List.mem_cons_of_mem _ ht))
      refine ⟨_, b1 ++ b2, ReadsAll.cons q1 q2, ?_, ?_⟩
      · simp only [PyData.depthAll]
        exact (hb1.mono (Nat.le_max_left _ _)).append (hb2.mono (Nat.le_max_right _ _))
      · simp only [PyData.depthAll, PyData.shownAll]
        exact .cons ((k1.more fun b hb => List.mem_append_left _ hb).level_le (Nat.le_max_left _ _)) (k2.more_le (fun b hb => List.mem_append_right _ hb) (Nat.le_max_right _ _))
theorem DnKv.rk (I : Inv X pins σ H s) : ∀ (ds : List (PyData × PyData)) (L : List (Key × V)) (es : List DictEntry) (vs : List (Key × Value)), DnKv ex H ds L → KV L vs → Pairs (mixKind X.prog X.w) es vs →
    PyData.showableAll (ds.map (·.2)) = true → (∀ t ∈ PyData.shownAll (ds.map (·.2)), t.length ≤ sizeLine) →
    ∃ as1 as2 bs, ReadsAll s.heap (es.map (·.key)) (ds.map (·.1)) as1 ∧ ReadsAll s.heap (es.map (·.val)) (ds.map (·.2)) as2 ∧ ReadAtMost s.heap (PyData.depthAll (ds.map (·.2))) bs ∧ ReprAllK X.prog X.w bs s.heap (PyData.depthAll (ds.map (·.2))) (es.map (·.val)) (PyData.shownAll (ds.map (·.2)))
  | [], L, es, vs, h, r, p, _, _ => by
    rw [DnKv.nil.mp h] at r
    cases r
    cases p
    exact ⟨_, _, [], ReadsAll.nil, ReadsAll.nil, (fun _ h => nomatch h), by simp only [List.map_nil, PyData.shownAll]; exact .nil⟩
  | (k, d) :: ds, L, es, vs, h, r, p, hs, hz => by
    obtain ⟨key, v, w, rfl, rfl, h1, h2⟩ := DnKv.cons.mp h
    have hs' : d.showable = true ∧ PyData.showableAll (ds.map (·.2)) = true := by simpa [PyData.showableAll] using hs
    cases r with
    | cons r1 r2 =>
      cases p with
      | cons p1 p2 p3 =>
        obtain ⟨e1, e2⟩ := r1
        obtain ⟨a1, b1, q2, hb1, k1⟩ := Dn.rk I d _ _ h1 e2 hs'.1 (hz _ (by simp only [List.map_cons, PyData.shownAll]; exact List.mem_cons_self ..))
        obtain ⟨a2, a3, b2, q3, q4, hb2, k2⟩ := DnKv.rk I ds _ _ _ h2 r2 p3 hs'.2 (fun t ht => hz t (by simp only [List.map_cons, PyData.shownAll]; exact List.mem_cons_of_mem _ ht))
        rw [← e1] at p1
        rw [← p2] at q2 k1
        refine ⟨_, _, b1 ++ b2, ReadsAll.cons (reads_key p1) q3, ReadsAll.cons q2 q4, ?_, ?_⟩
        · simp only [List.map_cons, PyData.depthAll]
          exact (hb1.mono (Nat.le_max_left _ _)).append (hb2.mono (Nat.le_max_right _ _))
        · simp only [List.map_cons, PyData.depthAll, PyData.shownAll]
          exact .cons ((k1.more fun b hb => List.mem_append_left _ hb).level_le (Nat.le_max_left _ _)) (k2.more_le (fun b hb => List.mem_append_right _ hb) (Nat.le_max_right _ _))
theorem DnKt.rk (I : Inv X pins σ H s) : ∀ (ds : List (PyData × PyData)) (L : List (List Key × V)) (xs : List (List Key × Addr × Value)), DnKt ex H ds L → KT H L xs →
    PyData.showableAll (ds.map (·.2)) = true → (∀ t ∈ PyData.shownAll (ds.map (·.2)), t.length ≤ sizeLine) →
    ∃ as1 as2 bs, ReadsAll s.heap (xs.map fun x => Value.ref x.2.1) (ds.map (·.1)) as1 ∧ ReadsAll s.heap (xs.map fun x => x.2.2) (ds.map (·.2)) as2 ∧ ReadAtMost s.heap (PyData.depthAll (ds.map (·.2))) bs ∧ ReprAllK X.prog X.w bs s.heap (PyData.depthAll (ds.map (·.2))) (xs.map fun x => x.2.2) (PyData.shownAll (ds.map (·.2)))
  | [], L, xs, h, r, _, _ => by
    rw [DnKt.nil.mp h] at r
    cases r
    exact ⟨_, _, [], ReadsAll.nil, ReadsAll.nil, (fun _ h => nomatch h), by simp only [List.map_nil, PyData.shownAll]; exact .nil⟩
  | (k, d) :: ds, L, xs, h, r, hs, hz => by
    obtain ⟨key, v, w, rfl, rfl, h1, h2⟩ := DnKt.cons.mp h
    have hs' : d.showable = true ∧ PyData.showableAll (ds.map (·.2)) = true := by simpa [PyData.showableAll] using hs
    cases r with
    | cons r1 r2 =>
      obtain ⟨e1, eb, e2⟩ := r1
      obtain ⟨a1, b1, q2, hb1, k1⟩ := Dn.rk I d _ _ h1 e2 hs'.1 (hz _ (by simp only [List.map_cons, PyData.shownAll]; exact List.mem_cons_self ..))
      obtain ⟨a2, a3, b2, q3, q4, hb2, k2⟩ := DnKt.rk I ds _ _ h2 r2 hs'.2 (fun t ht => hz t (by simp only [List.map_cons, PyData.shownAll]; exact List.mem_cons_of_mem _ ht))
      obtain ⟨its, rv, ⟨o, ho, hc, n, he⟩, _⟩ := I.tuple (SqT.of (K := X.K) eb)
      refine ⟨_, _, b1 ++ b2, ReadsAll.cons (Reads.tuple ho hc he (reads_keys X.prog X.w rv)) q3, ReadsAll.cons q2 q4, ?_, ?_⟩
      · simp only [List.map_cons, PyData.depthAll]
        exact (hb1.mono (Nat.le_max_left _ _)).append (hb2.mono (Nat.le_max_right _ _))
      · simp only [List.map_cons, PyData.depthAll, PyData.shownAll]
        exact .cons ((k1.more fun b hb => List.mem_append_left _ hb).level_le (Nat.le_max_left _ _)) (k2.more_le (fun b hb => List.mem_append_right _ hb) (Nat.le_max_right _ _))
end
end
section
variable {X : Cx} {B : Bs} {ρ : Rho} {Φ : PyData → Prop}
/-- repr of a list of data -/
def rReprK : List V → Hp → VK → Prop := fun xs H Q => ∃ (ex : Addr → Prop) (x : V) (ds : List PyData), xs = [x] ∧ Dn ex H (.list ds) x ∧ PyData.showable (.list ds) = true ∧ (PyData.list ds).shown.length ≤ sizeLine ∧ (PyData.list ds).depth ≤ 100 ∧ Q (.str (PyData.list ds).shown) H
theorem call_reprK (hr : Rm 0 X.A) : CallR X (.builtin "repr") rReprK := by
  intro pins s σ H xs us Q I r h
  obtain ⟨ex, x, ds, rfl, hd, sh, hz, dp, q⟩ := h
  obtain ⟨u, rfl, rx⟩ := vals1 r
  have fin : ∀ (h' : Heap) (t tk : Tok), (∀ b o, s.heap.get? b = some o → h'.get? b = some o) → EP X pins σ Q (.str (PyData.list ds).shown t) { s with heap := h', toks := tk } := fun h' t tk hk =>
    ⟨.str (PyData.list ds).shown, H, I.kept hk, ⟨t, rfl⟩, q⟩
  have un : X.A.units + ((PyData.list ds).depth + 1) < cLine := by
    have := hr.r.un
    omega
  obtain ⟨a, xs, rfl, ha, _, hd2⟩ := Dn.list.mp hd
  cases rx
  obtain ⟨its, rv, ⟨o, n, h1, h2, _, h3⟩, _⟩ := I.list (SqL.of (K := X.K) ha)
  have hz' : (listText (PyData.shownAll ds)).length ≤ sizeLine := by simpa only [PyData.shown] using hz
  obtain ⟨as, bs, h4, hb, hk⟩ := DnAll.rk I ds xs its hd2 rv (by simpa [PyData.showable] using sh) (fun t ht => Nat.le_trans (listText_mem_le ht) hz')
  have hna : a ∉ bs := not_mem_of_deeper (.list h1 h2 h3 h4) (by simp only [PyData.depth]; omega) hb
  simp only [PyData.depth] at un
  refine call_repr_slot (by omega) ⟨o, h1, h2⟩ F.slot_list_repr.toG ?_
  have hQ : ∀ h' u tk, (∀ b o, s.heap.get? b = some o → h'.get? b = some o) → EP X pins σ Q (.str (listText (PyData.shownAll ds)) u) { s with heap := h', toks := tk } := fun h' u tk hk => by
    have := fin h' u tk hk
    simpa only [PyData.shown] using this
  cases its with
  | nil =>
    cases h4
    simp only [PyData.shownAll, listText_nil] at hQ
    exact call_list_repr_empty ⟨o, h1, h2⟩ h1 h3 ⟨_, _, rfl, hQ s.heap _ _ fun _ _ e => e⟩
  | cons x l =>
    exact call_list_reprK h1 h2 h3 hna (by simpa using hk.length_eq) (fun i y e => hk.item i y (by simpa using e)) hr.g (fun b _ => Clear.nil b) (by show X.A.units + 1 + _ < cLine; omega) (fun _ _ e => e) (fun h' u tk hk => ⟨_, _, rfl, hQ h' u tk hk⟩) hz'
theorem cd_reprK {ds : List PyData} (sh : PyData.showable (.list ds) = true) (hz : (PyData.list ds).shown.length ≤ sizeLine) (dp : (PyData.list ds).depth ≤ 100) (h : Φ (.str (PyData.list ds).shown)) : CallD B ρ rReprK [.dat (.list ds)] Φ := fun σ H vs Q E hs k => by
  obtain ⟨v, rfl, h1⟩ := sl1 hs
  exact ⟨_, v, ds, rfl, h1, sh, hz, dp, k _ H (.str (PyData.list ds).shown) Ext.refl E (Dn.str.mpr rfl) h⟩
end
section
variable {X : Cx} {B : Bs} {ρ : Rho} {Φ : PyData → Prop} {P0 : Program} {w : World} {K : PySem.W.Frag} {mg : Str → Option Value} {base : Heap} {N : List Str} {a : Expr} {p pos : Pos}
theorem ev_reprK (S : Same X P0 w K mg base N) (T : Txt mg) {j : Nat} (hr : Rm j X.A) (hg : Gl X "repr") (h : EvE X B ρ a fun d => ∃ ds, d = .list ds ∧ (PyData.showable (.list ds) = true ∧ (PyData.list ds).shown.length ≤ sizeLine ∧ (PyData.list ds).depth ≤ 100) ∧ Φ (.str (PyData.list ds).shown))
    (he : starEach [a] X.env = (false, eval a X.env) :: starEach [] X.env := by rfl) (hpl : (backTo pos (starEach [] X.env)).any (·.1) = false := by rfl) : EvE X B ρ (.Call (.Name "repr" p) [a] [] pos) Φ :=
  ev_callB (call_reprK (hr.mono (Nat.zero_le _))) hg (by rw [S.m]; exact T.repr) (by decide +kernel) (ea_cons (ev_mono h fun d ⟨ds, ed, ⟨h1, h3, h4⟩, h5⟩ => by subst ed; exact ea_nil (cd_reprK h1 h3 h4 h5)) he) (by decide) (by decide) he hpl
end
end Vw

/-! x, y = a, b: both fresh lists that stay x's and y's own -/
namespace Vw
open PySem PySem.Spec L2
section
variable {X : Cx} {B : Bs} {ρ : Rho} {P0 : Po} {P : Program} {w : World} {K : PySem.W.Frag} {mg : Str → Option Value} {base : Heap} {N : List Str} {a b : Expr} {pos : Pos}
theorem es_p2H (S : Same X P w K mg base N) {i j : Nat} {x y : Str} {px py pt : Pos} {kt k2 : Nat} {pt2 : Pos} (hij : i ≠ j) (hi : At N i x) (hj : At N j y) (hx : X.env.scope.names.lookup x = some .local) (hy : X.env.scope.names.lookup y = some .local)
    (h : EvF X B ρ a fun ds => ∀ B' : Bs, B'.src = B.src → EvF X B' ρ b fun es => P0.nx ((ρ.set i (some (.own ds))).set j (some (.own es))))
    (hw : swappedStores [.Tuple [.Name x px, .Name y py] kt pt] (.Tuple [a, b] k2 pt2) X.env = pure (some [x, y]) := by rfl)
    (hs : swapsWithSole [.Tuple [.Name x px, .Name y py] kt pt] (.Tuple [a, b] k2 pt2) pos.line X.env = pure false := by rfl)
    (hs2 : starEach [a, b] X.env = (false, eval a X.env) :: starEach [b] X.env := by rfl) (hs1 : starEach [b] X.env = (false, eval b X.env) :: starEach [] X.env := by rfl) :
    EvS X B ρ (.Assign [.Tuple [.Name x px, .Name y py] kt pt] (.Tuple [a, b] k2 pt2) pos) P0 :=
  ps_imp (ps_par2 i j S.c S.nd (by rw [S.n]; exact hi.get) (by rw [S.n]; exact hj.get) hx hy (pa_cons h (pa_cons pe_s pa_nil hs1) hs2) hw hs) fun D σ H q => ⟨q.1, fun p H1 ds vs x1 nh ok E1 hp np hd hb => ⟨_, hb (B.add p) rfl, E1, fun q2 H2 es us x2 nh2 ok2 E2 hq nq hd2 hΦ => ⟨.ref p, .ref q2, rfl, by
    have npS : ¬ (B.add p).S p := fun ⟨a, b, c, e, z⟩ => by
      have := q.1.ok.live p (q.1.ok.sx ⟨a, b, c, e, z⟩)
      exact this nh
    have hp2 : H2 p = some (.lst vs) := x2 p _ hp npS
    have npq : p ≠ q2 := fun z => by rw [z, nh2] at hp; cases hp
    have okB : B.Ok H2 := ⟨fun z hz => ok2.live z (.inl hz), fun a b c e => ⟨(ok2.sr a b c e).1, (ok.sr a b c e).2⟩⟩
    have E3 := E2.setOwn (i := j) ok2 hq nq hd2
    have np3 : ¬ exO B (ρ.set j (some (.own es))) (σ.set j (some (.ref q2))) p := fun z => by
      rcases z with z | z
      · exact np (.inl z)
      · rcases own_put z with z | z
        · exact np (.inr z)
        · exact npq z
    have hd3 : DnAll (exO (B.add p) (ρ.set j (some (.own es))) (σ.set j (some (.ref q2)))) H2 ds vs := DnAll.mono (fun y z => by
      rcases z with z | z
      · exact .inl (.inl z)
      · rcases own_put z with z | z
        · exact .inl (.inr z)
        · exact .inr (z ▸ nh2)) (fun y o e n => x2 y o e fun m => n (.inl (E1.ok.sx m))) ds vs hd
    have E4 := E3.setOwn (i := i) okB hp2 np3 hd3
    have e1 : (σ.set i (some (V.ref p))).set j (some (V.ref q2)) = (σ.set j (some (.ref q2))).set i (some (.ref p)) := List.set_comm _ _ hij
    have e2 : (ρ.set i (some (Sl.own ds))).set j (some (.own es)) = (ρ.set j (some (.own es))).set i (some (.own ds)) := List.set_comm _ _ hij
    rw [← e1] at E4 ⊢
    rw [← e2] at E4
    exact q.2.1 _ _ H2 ((XS.own x1 nh).trans ok (XS.own (fun z o e n => x2 z o e n) nh2)) E4 hΦ⟩⟩⟩
end
end Vw

/-! t[::-1] of a tuple -/
namespace Vw
open PySem PySem.Spec L2 PyProof.Rows
section
variable {prog : Program} {w : World} {A : Around} {E : Value → Shared → Prop} {s : Shared}
theorem sliceApplied_back {sl : Addr} {vl vu vs : Value} {n : Nat} {Q : Int × Int × Nat → Shared → Prop} (hs : s.heap.IsSliceOf sl vl vu vs) (pl : IsPart vl none) (pu : IsPart vu none) (ps : IsPart vs (some (-1)))
    (h : Q ((n : Int) - 1, -1, n) s) : wpAny (model prog w) A (Builtin.Slice.sliceApplied (.ref sl) (pure (n : Int))) Q E s := by
  obtain ⟨os, hos, hcs, hds⟩ := id hs
  unfold Builtin.Slice.sliceApplied Builtin.Slice.sliceFields
  refine wpAny_bind (wpAny_bind (wpAny_field hos hds (x := vl) rfl (wpAny_bind (wpAny_field hos hds (x := vu) rfl (wpAny_bind (wpAny_field hos hds (x := vs) rfl (wpAny_pure ?_)))))))
  refine wpAny_bind (HT.slicePart_ ps ?_)
  show wpAny _ _ (if ((-1 : Int) == 0) = true then _ else _) _ _ s
  rw [if_neg (by decide)]
  refine wpAny_bind (HT.slicePart_ pl (wpAny_bind (HT.slicePart_ pu (wpAny_bind (wpAny_pure ?_)))))
  show wpAny _ _ (match Builtin.Slice.sliceAdjust none none (-1) (n : Int) with | (lo, hi) => pure (lo, (-1 : Int), Builtin.Slice.slicePlaces lo hi (-1))) _ _ s
  show wpAny _ _ (pure ((n : Int) - 1, (-1 : Int), Builtin.Slice.slicePlaces ((n : Int) - 1) (-1) (-1))) _ _ s
  have e : Builtin.Slice.slicePlaces ((n : Int) - 1) (-1) (-1) = n := by
    unfold Builtin.Slice.slicePlaces
    rw [if_neg (by decide)]
    split
    · rw [show (-(-1) : Int) = 1 by decide, Int.ediv_one]; omega
    · show (0 : Int).toNat = n
      omega
  rw [e]
  exact wpAny_pure h
theorem filterMap_same {α β : Type} {f g : α → Option β} : ∀ {l : List α}, (∀ k ∈ l, f k = g k) → l.filterMap f = l.filterMap g
  | [], _ => rfl
  | a :: l, h => by
    rw [List.filterMap_cons, List.filterMap_cons, h a (List.mem_cons_self ..), filterMap_same fun k hk => h k (List.mem_cons_of_mem _ hk)]
theorem pick_back (xs : Array Value) : ((List.range xs.size).filterMap fun (k : Nat) => xs[(((xs.size : Int) - 1) + (k : Int) * (-1)).toNat]?).toArray = xs.toList.reverse.toArray := by
  congr 1
  have e1 : (List.range xs.size).filterMap (fun (k : Nat) => xs[(((xs.size : Int) - 1) + (k : Int) * (-1)).toNat]?) = ((List.range xs.size).map fun k => xs.size - 1 - k).filterMap (xs[·]?) := by
    rw [List.filterMap_map]
    refine filterMap_same fun k hk => ?_
    have := List.mem_range.mp hk
    show xs[(((xs.size : Int) - 1) + (k : Int) * (-1)).toNat]? = xs[xs.size - 1 - k]?
    congr 1
    omega
  rw [e1, PySem.W.krv_range, List.filterMap_reverse, PySem.W.krv_all]
theorem getItem_tuple_back {t sl : Addr} {items : Array Value} {vl vu vs : Value} {Q : Value → Shared → Prop} (ht : IsTup s.heap t items) (hs : s.heap.IsSliceOf sl vl vu vs) (pl : IsPart vl none) (pu : IsPart vu none) (ps : IsPart vs (some (-1)))
    (h : Q (.ref s.heap.objs.size) { s with heap := s.heap.push { cls := .type "tuple", data := .seq items.toList.reverse.toArray } })
    (hsz : items.size ≤ sizeLine) : wpAny (model prog w) A (getItem (.ref t) (.ref sl)) Q E s := by
  have htake : sizeOk (.seq items.toList.reverse.toArray) := by
    show items.toList.reverse.toArray.size ≤ sizeLine
    rw [List.size_toArray, List.length_reverse, Array.length_toList]
    exact hsz
  obtain ⟨os, hos, hcs, hds⟩ := id hs
  have hTs : s.TypeIs (.ref sl) "slice" := ⟨os, hos, hcs⟩
  unfold getItem
  try with_reducible refine wpAny_holding ?_
  first | refine wpAny_bind (wpAny_pure ?_) | skip
  refine wpAny_bind (wpAny_sequenceKey ht.typeIs (by decide) ?_)
  refine wpAny_bind (wpAny_callSpecial?_slot (name := Str.ofString "__getitem__") ht.typeIs PyProof.Rows.slot_tuple_getitem
    (wpAny_call_entry PyProof.Rows.slot_tuple_getitem ht.typeIs entry_tuple_getitem ?_ (args_tuple_getitem _ _)))
  show wpAny _ _ (Builtin.Tuple.tupleItemsOf (.ref t) >>= _) _ _ s
  refine wpAny_bind (tupleItemsOf_ ht ?_)
  refine wpAny_bind (wpAny_typeOf hTs ?_)
  rw [if_pos (by decide)]
  refine wpAny_bind (sliceApplied_back hs pl pu ps ?_)
  have hno : ¬ (((items.size : Int) - 1 == 0 && (-1 : Int) == 1 && items.size == items.size) = true) := by
    intro q
    rw [Bool.and_eq_true, Bool.and_eq_true] at q
    exact absurd q.1.2 (by decide)
  show wpAny _ _ (if ((items.size : Int) - 1 == 0 && (-1 : Int) == 1 && items.size == items.size) = true then _ else _) _ _ s
  rw [if_neg hno, pick_back]
  first
    | exact wpAny_bind (m := Builtin.Tuple.tupleExact _) (wpAny_newObj_type (wpAny_pure ⟨_, rfl, wpAny_pure h⟩) htake)
    | exact wpAny_bind (m := Builtin.Tuple.tupleExact _) (wpAny_newObj_type (wpAny_bind (wpAny_pure (wpAny_pure ⟨_, rfl, wpAny_pure h⟩))) htake)
    | exact wpAny_bind (wpAny_bind (m := Builtin.Tuple.tupleExact _) (wpAny_newObj_type (wpAny_pure (wpAny_pure ⟨_, rfl, wpAny_pure h⟩)) htake))
    | exact wpAny_bind (wpAny_bind (m := Builtin.Tuple.tupleExact _) (wpAny_newObj_type (wpAny_pure ⟨_, rfl, wpAny_pure h⟩) htake))
end
section
variable {X : Cx}
def tRevT (K : PySem.W.Frag) (te : TE) : TE := fun σ H Q => te σ H fun x H1 => ∃ a xs, x = .ref a ∧ SqT K H1 a xs ∧ ∀ p, H1 p = none → Q (.ref p) (upd H1 p (.tup xs.reverse))
theorem pe_revT {e : Expr} {te : TE} {k : Nat} {p1 p2 p3 pos : Pos} (he : PE X e te) : PE X (.Subscript e (.Slice none none (some (.UnaryOp .USub (.Constant (.int 1) k p1) p2)) p3) pos) (tRevT X.K te) := by
  refine ⟨fun pins s σ H Q I h => ?_⟩
  refine Subscript_ (thn (he.run pins s σ H _ I h) fun v s1 ⟨x, H1, I1, r1, q1⟩ => ?_)
  obtain ⟨a, xs, ex, hx, q⟩ := q1
  subst ex
  cases r1
  have hst : PO X (some (.UnaryOp .USub (.Constant (.int 1) k p1) p2)) (tPart (tUn (rU fun i => .int (-i)) (tC (.int 1)))) := po_some (pe_un un_neg pe_int)
  refine wpAny_Slice (thn (po_none.run pins s1 σ H1 (fun o H2 => o = none ∧ H2 = H1) I1 ⟨rfl, rfl⟩) fun vl s2 ⟨l, H2, I2, pl, el, e2⟩ => ?_)
  subst el e2
  refine thn (po_none.run pins s2 σ H2 (fun o H3 => o = none ∧ H3 = H2) I2 ⟨rfl, rfl⟩) fun vu s3 ⟨u, H3, I3, pu, eu, e3⟩ => ?_
  subst eu e3
  refine thn (hst.run pins s3 σ H3 (fun o H4 => o = some (-1) ∧ H4 = H3) I3 ⟨1, rfl, -1, rfl, rfl, rfl⟩) fun vs s4 ⟨o, H4, I4, ps, eo, e4⟩ => ?_
  subst eo e4
  have I5 : Inv X pins σ H4 { s4 with heap := s4.heap.push { cls := .type "slice", data := .fields #[vl, vu, vs] } } := I4.kept (t' := s4.toks) fun b ob q => Heap.get?_push_of_some _ q
  obtain ⟨its, r, ht, hz⟩ := I5.tuple hx
  have hlen := r.length
  show wpAny (model X.prog X.w) X.A (subscriptTail e (.Slice none none (some (.UnaryOp .USub (.Constant (.int 1) k p1) p2)) p3) (.ref a) (.ref s4.heap.objs.size)) (EP X pins σ Q) X.xe { s4 with heap := s4.heap.push { cls := .type "slice", data := .fields #[vl, vu, vs] } }
  refine tail_any (ops := [.ref a, .ref s4.heap.objs.size]) ht.typeIs (PyProof.Rows.slot_tuple_getitem.lookup) ?_ (by with_unfolding_all rfl)
  refine getItem_tuple_back ht (Heap.IsSliceOf.new _ vl vu vs) pl pu ps ?_ (by rw [List.size_toArray]; omega)
  refine ⟨.ref _, _, I5.laid (t' := s4.toks) (o := .tup xs.reverse) (fun b ob q => Heap.get?_push_of_some _ q) (Nat.le_refl _) ?_, rfl, q _ (I5.hok.fresh (Nat.le_refl _))⟩
  exact ⟨by rw [List.length_reverse]; exact hz, _, r.reverse, IsTup.new _ _⟩
end
section
variable {X : Cx} {B : Bs} {ρ : Rho} {Φ : PyData → Prop} {e : Expr} {p1 p2 p3 pos : Pos}
theorem ev_backT {k1 : Nat} (h : EvE X B ρ e fun d => ∃ ds, d = .tuple ds ∧ Φ (.tuple ds.reverse)) : EvE X B ρ (.Subscript e (.Slice none none (some (.UnaryOp .USub (.Constant (.int 1) k1 p1) p2)) p3) pos) Φ :=
  pe_imp (pe_revT h) fun σ H Q ⟨E, k⟩ => ⟨E, fun v H1 d x1 E1 hd ⟨ds, ed, hΦ⟩ => by
    subst ed
    obtain ⟨q, xs, rfl, ha, na, r⟩ := Dn.tuple.mp hd
    exact ⟨q, xs, rfl, SqT.of ha, fun l hl => k _ _ (.tuple ds.reverse) (x1.trans (Ext.new hl)) (E1.new hl) (Dn.tuple.mpr ⟨l, _, rfl, upd_same, E1.nx hl, E1.dnAll (Ext.new hl) r.rev⟩) hΦ⟩⟩
end
end Vw

/-! polynomials told by what they come to from one place to another: all their parts from 0 on -/
namespace Vw
def zad (p q : List Rat) : List Rat := List.zipWith (· + ·) p q
def mul2 (a d : Rat) (g : List Rat) : List Rat := zad (g.map (a * ·) ++ [0]) (0 :: g.map (d * ·))
def opw : Nat → List Rat
  | 0 => [1]
  | n + 1 => mul2 1 1 (opw n)
def gL (b e : Rat) : List Rat → List Rat
  | [] => []
  | c :: r => zad ((opw r.length).map (c * ·)) (mul2 b e (gL b e r))
theorem mul2_len (a d : Rat) (g : List Rat) : (mul2 a d g).length = g.length + 1 := by simp [mul2, zad]
theorem opw_len : ∀ n, (opw n).length = n + 1
  | 0 => rfl
  | n + 1 => by show (mul2 1 1 (opw n)).length = _; rw [mul2_len, opw_len n]
theorem gL_len (b e : Rat) : ∀ r, (gL b e r).length = r.length
  | [] => rfl
  | c :: r => by simp [gL, zad, mul2_len, opw_len, gL_len b e r]
theorem ev_zad : ∀ (p q : List Rat) (x : Rat), p.length = q.length → ev (zad p q) x = ev p x + ev q x
  | [], [], x, _ => by simp [zad, ev]; grind
  | [], _ :: _, x, h => by cases h
  | _ :: _, [], x, h => by cases h
  | a :: p, b :: q, x, h => by
    have ih := ev_zad p q x (by simpa using h)
    show ev ((a + b) :: zad p q) x = _
    simp only [ev]
    rw [ih]
    grind
theorem ev_smap (a : Rat) : ∀ (p : List Rat) (x : Rat), ev (p.map (a * ·)) x = a * ev p x
  | [], x => by simp [ev]
  | c :: p, x => by
    simp only [List.map_cons, ev]
    rw [ev_smap a p x]
    grind
theorem ev_mul2 (a d : Rat) (g : List Rat) (x : Rat) : ev (mul2 a d g) x = (a + d * x) * ev g x := by
  unfold mul2
  rw [ev_zad _ _ _ (by simp), ev_append, ev_smap]
  simp only [ev]
  rw [ev_smap]
  grind
theorem ev_opw (x : Rat) : ∀ n, ev (opw n) x = (1 + x) ^ n
  | 0 => by simp [opw, ev]; grind
  | n + 1 => by
    show ev (mul2 1 1 (opw n)) x = _
    rw [ev_mul2, ev_opw x n, Rat.pow_succ]
    grind
theorem ev_gL (b e c : Rat) (r : List Rat) (x : Rat) : ev (gL b e (c :: r)) x = c * (1 + x) ^ r.length + (b + e * x) * ev (gL b e r) x := by
  show ev (zad _ _) x = _
  rw [ev_zad _ _ _ (by simp [mul2_len, opw_len, gL_len]), ev_smap, ev_opw, ev_mul2]
theorem zad_comm (p q : List Rat) : zad p q = zad q p := by
  unfold zad
  rw [List.zipWith_comm]
  congr 1
  funext a b
  grind
theorem mul2_rev (a d : Rat) (g : List Rat) : (mul2 a d g).reverse = mul2 d a g.reverse := by
  unfold mul2
  conv => lhs; unfold zad
  rw [List.reverse_zipWith (by simp)]
  rw [zad_comm]
  simp [zad]
theorem opw_rev : ∀ n, (opw n).reverse = opw n
  | 0 => rfl
  | n + 1 => by show (mul2 1 1 (opw n)).reverse = _; rw [mul2_rev, opw_rev n]; rfl
theorem gL_rev (b e : Rat) : ∀ r, (gL b e r).reverse = gL e b r
  | [] => rfl
  | c :: r => by
    show (zad _ _).reverse = _
    unfold zad
    rw [List.reverse_zipWith (by simp [mul2_len, opw_len, gL_len]), mul2_rev, gL_rev b e r, ← List.map_reverse, opw_rev]
    rfl
/-- all parts from 0 on -/
def gdB (b e : Rat) (r : List Rat) : Bool := (gL b e r).all fun q => decide (0 ≤ q)
theorem gdB_iff {b e : Rat} {r : List Rat} : gdB b e r = true ↔ ∀ q ∈ gL b e r, 0 ≤ q := by
  unfold gdB
  rw [List.all_eq_true]
  exact ⟨fun h q hq => of_decide_eq_true (h q hq), fun h q hq => decide_eq_true (h q hq)⟩
theorem gdB_rev {b e : Rat} {r : List Rat} : gdB b e r = true ↔ ∀ q ∈ gL e b r, 0 ≤ q := by
  rw [gdB_iff, ← gL_rev b e r]
  exact ⟨fun h q hq => h q (List.mem_reverse.mp hq), fun h q hq => h q (List.mem_reverse.mpr hq)⟩
/-- alike at all counts: alike -/
theorem ev_nat {p q : List Rat} (h : ∀ k : Nat, ev p (k : Rat) = ev q (k : Rat)) (i : Nat) : p.getD i 0 = q.getD i 0 := by
  have hz : ∀ c ∈ padd p (psc (-1) q), c = 0 := by
    refine zeros_of _ (padd p (psc (-1) q)) (Nat.le_refl _) 0 fun k _ => ?_
    rw [ev_padd, ev_psc, h k]
    grind
  have e : (padd p (psc (-1) q)).getD i 0 = 0 := by
    rw [List.getD_eq_getElem?_getD]
    cases hh : (padd p (psc (-1) q))[i]? with
    | none => rfl
    | some c => exact hz c (List.mem_of_getElem? hh)
  rw [coef_add, coef_sc] at e
  grind
theorem len_nat {p q : List Rat} (hl : p.length = q.length) (h : ∀ k : Nat, ev p (k : Rat) = ev q (k : Rat)) : p = q := by
  refine List.ext_getElem hl fun i h1 h2 => ?_
  have := ev_nat h i
  rw [List.getD_eq_getElem?_getD, List.getD_eq_getElem?_getD, List.getElem?_eq_getElem h1, List.getElem?_eq_getElem h2] at this
  exact this
theorem ev_rev {y : Rat} (hy : y ≠ 0) : ∀ l : List Rat, ev l.reverse y * y = y ^ l.length * ev l (1 / y)
  | [] => by simp [ev]
  | c :: l => by
    have ih := ev_rev hy l
    rw [List.reverse_cons, ev_append, List.length_reverse]
    simp only [ev, List.length_cons]
    rw [Rat.pow_succ]
    have : (ev l.reverse y + y ^ l.length * (c + y * 0)) * y = ev l.reverse y * y + y ^ l.length * c * y := by grind
    rw [this, ih]
    grind
theorem gL_at {b e x : Rat} (hx : 1 + x ≠ 0) : ∀ r : List Rat, ev (gL e b r) x * (1 + x) = (1 + x) ^ r.length * ev r ((e + b * x) / (1 + x))
  | [] => by simp [gL, ev]
  | c :: r => by
    have ih := gL_at (b := b) (e := e) hx r
    rw [ev_gL]
    simp only [ev, List.length_cons]
    rw [Rat.pow_succ]
    have h1 : (c * (1 + x) ^ r.length + (e + b * x) * ev (gL e b r) x) * (1 + x) = c * (1 + x) ^ r.length * (1 + x) + (e + b * x) * (ev (gL e b r) x * (1 + x)) := by grind
    rw [h1, ih]
    grind
/-- the row at the ends, made through the place turned about -/
theorem end_eq {r v : List Rat} {E : List Rat} {b e κ : Rat} (lv : v.length = r.length) (hv : ∀ y, ev v y = κ * ev r (b + (e - b) * y)) (lE : E.length = r.length) (hE : ∀ x, ev E x = ev v.reverse (x + 1)) : E = (gL e b r).map (κ * ·) := by
  refine len_nat (by rw [List.length_map, gL_len]; exact lE) fun k => ?_
  have hx : 1 + (k : Rat) ≠ 0 := by
    have : (0 : Rat) ≤ (k : Rat) := by exact_mod_cast Nat.zero_le k
    grind
  have h1 := ev_rev (y := (k : Rat) + 1) (by grind) v
  have h2 := gL_at (b := b) (e := e) hx r
  rw [← hE, hv, lv] at h1
  rw [ev_smap]
  have e1 : b + (e - b) * (1 / ((k : Rat) + 1)) = (e + b * k) / (1 + k) := by grind
  rw [e1] at h1
  have e2 : (k : Rat) + 1 = 1 + k := by grind
  rw [e2] at h1
  have h3 : (ev E k - κ * ev (gL e b r) k) * (1 + (k : Rat)) = 0 := by
    have : (ev E k - κ * ev (gL e b r) k) * (1 + (k : Rat)) = ev E k * (1 + k) - κ * (ev (gL e b r) k * (1 + k)) := by grind
    rw [this, h1, h2]
    grind
  rcases Rat.mul_eq_zero.mp h3 with h | h
  · grind
  · exact absurd h hx
end Vw

namespace KP
open PySem PySem.Spec L2 Vw
open PyProof.Rows (envOfC)

section
local macro_rules | `(tactic| walk_at "q0.vis") => `(tactic| first
  | exact Or.inl rfl
  | exact Or.inr (Or.inl rfl)
  | exact Or.inr (Or.inr rfl))
local macro_rules | `(tactic| walk_at "q0.at") => `(tactic| with_reducible first
  | exact At.here
  | exact At.there (by walk_at "q0.at"))
local macro_rules | `(tactic| walk_at "q0.sz") => `(tactic| with_reducible first
  | assumption
  | (apply mulm <;> walk_at "q0.sz")
  | (apply addx <;> walk_at "q0.sz")
  | (apply subx <;> walk_at "q0.sz")
  | (apply negm <;> walk_at "q0.sz")
  | (apply Sz.nn <;> assumption)
  | (apply Sz.dd <;> assumption)
  | exact rsgn_lt _
  | exact sgn_lt _
  | exact litm)
local macro_rules | `(tactic| walk_at "q0.sd") => `(tactic| first
  | ((with_reducible show CMulW _ _); exact w_mul (by walk_at "q0.sz") (by walk_at "q0.sz") (by decide))
  | ((with_reducible show CDivW _ _); exact w_div (by with_reducible assumption) (by walk_at "q0.sz") (by decide))
  | ((with_reducible show CDivZ _ _); exact w_divZ (by with_reducible assumption) (by walk_at "q0.sz") (by decide))
  | ((with_reducible show CPow _ _); exact ⟨by decide, by decide, (show Lt2 _ 64 from Lt2.mono (by walk_at "q0.sz") (by decide))⟩)
  | with_reducible assumption)
local macro_rules | `(tactic| walk_at "q0.szq") => `(tactic| with_reducible first
  | assumption
  | (apply Sz.add <;> walk_at "q0.szq")
  | (apply Sz.sub <;> walk_at "q0.szq")
  | (apply Sz.mul <;> walk_at "q0.szq")
  | (apply Sz.div <;> first | assumption | walk_at "q0.szq"))
local macro_rules | `(tactic| walk_at "q0.szm") => `(tactic| first
  | exact w_sz (by walk_at "q0.szq") (by decide))
local macro_rules | `(tactic| walk_at "q0.rm") => `(tactic| first
  | with_reducible assumption)
local macro_rules | `(tactic| walk_at "q0.exc") => `(tactic| first
  | ((with_reducible show EvE _ _ _ (.Constant (.int _) _ _) _); refine ev_int ?_)
  | ((with_reducible show EvE _ _ _ (.Constant (.str _) _ _) _); refine ev_str ?_)
  | ((with_reducible show EvE _ _ _ (.Constant (.bool _) _ _) _); refine ev_bl ?_)
  | ((with_reducible show EvE _ _ _ (.Constant (.none) _ _) _); refine ev_non ?_))
local macro_rules | `(tactic| walk_at "q0.exo") => `(tactic| first
  | ((with_reducible show EvE _ _ _ (.BinOp _ .Mult _ _) _); refine ev_op op_mulW ?_)
  | ((with_reducible show EvE _ _ _ (.BinOp _ .Add _ _) _); refine ev_op op_add ?_)
  | ((with_reducible show EvE _ _ _ (.BinOp _ .Sub _ _) _); refine ev_op op_sub ?_)
  | ((with_reducible show EvE _ _ _ (.BinOp _ .FloorDiv _ _) _); refine ev_op op_fdivW ?_)
  | ((with_reducible show EvE _ _ _ (.BinOp _ .Mod _ _) _); refine ev_op op_mod ?_)
  | ((with_reducible show EvE _ _ _ (.BinOp _ .Pow _ _) _); refine ev_op op_pow ?_))
local macro_rules | `(tactic| walk_at "q0.nm") => `(tactic| first
  | ((with_reducible show EvE _ _ _ (.Name _ _) _); refine ev_nm (by walk_at "q0.rm") (by walk_at "q0.at") rfl (by walk_at "q0.vis") ?_))
local macro_rules | `(tactic| walk_at "q0.exl") => `(tactic| first
  | ((with_reducible show EvE _ _ _ (.Call (.Name "isinstance" _) [_, .Name "int" _] _ _) _); refine ev_isT (T := "int") (by walk_at "q0.rm") (by walk_at "q0.rm") rfl rfl (Txt.int (by walk_at "q0.rm")) (by decide +kernel) ?_)
  | ((with_reducible show EvE _ _ _ (.Call (.Name "isinstance" _) [_, .Name "bool" _] _ _) _); refine ev_isT (T := "bool") (by walk_at "q0.rm") (by walk_at "q0.rm") rfl rfl (Txt.bool (by walk_at "q0.rm")) (by decide +kernel) ?_)
  | ((with_reducible show EvE _ _ _ (.Call (.Name "isinstance" _) [_, .Name "tuple" _] _ _) _); refine ev_isT (T := "tuple") (by walk_at "q0.rm") (by walk_at "q0.rm") rfl rfl (Txt.tuple (by walk_at "q0.rm")) (by decide +kernel) ?_)
  | ((with_reducible show EvE _ _ _ (.Call (.Name "gcd" _) _ _ _) _); refine ev_gcd (by walk_at "q0.rm") (by walk_at "q0.rm") rfl ?_)
  | ((with_reducible show EvE _ _ _ (.Call (.Name "abs" _) _ _ _) _); refine ev_abs (by walk_at "q0.rm") (by walk_at "q0.rm") rfl ?_)
  | ((with_reducible show EvE _ _ _ (.Call (.Name "int" _) _ _ _) _); refine ev_toint (by walk_at "q0.rm") (by walk_at "q0.rm") rfl ?_)
  | ((with_reducible show EvE _ _ _ (.Call (.Name "len" _) _ _ _) _); refine ev_len (by walk_at "q0.rm") (by walk_at "q0.rm") rfl ?_)
  | ((with_reducible show EvE _ _ _ (.Call (.Name "repr" _) _ _ _) _); refine ev_repr (by walk_at "q0.rm") (by walk_at "q0.rm") (by walk_at "q0.rm") rfl ?_)
  | ((with_reducible show EvE _ _ _ (.Call (.Name _ _) (_ :: _) _ _) _); refine ev_ca (by walk_at "q0.rm") (by with_reducible assumption) (by walk_at "q0.rm") (by decide) rfl ?_)
  | ((with_reducible show EvE _ _ _ (.Call (.Name _ _) [] (_ :: _) _) _); refine ev_kw (by walk_at "q0.rm") ["g", "f"] [1, 0] (by with_reducible assumption) (by walk_at "q0.rm") (by decide) rfl ?_ ?_; exact (fun _ _ _ _ _ _ ws hl => match ws, hl with | [_, _], _ => rfl)))
local macro_rules | `(tactic| walk_at "q0.exm") => `(tactic| first
  | ((with_reducible show EvE _ _ _ (.Compare _ [.Lt] _ _) _); refine ev_cmp op_lt (nomark _) ?_)
  | ((with_reducible show EvE _ _ _ (.Compare _ [.LtE] _ _) _); refine ev_cmp op_le (nomark _) ?_)
  | ((with_reducible show EvE _ _ _ (.Compare _ [.Gt] _ _) _); refine ev_cmp op_gt (nomark _) ?_)
  | ((with_reducible show EvE _ _ _ (.Compare _ [.GtE] _ _) _); refine ev_cmp op_ge (nomark _) ?_)
  | ((with_reducible show EvE _ _ _ (.Compare _ [.Eq] _ _) _); refine ev_cmp (op_eqD (Rm.r (by walk_at "q0.rm" : Rm _ _)).units) (nomark _) ?_)
  | ((with_reducible show EvE _ _ _ (.Compare _ [.NotEq] _ _) _); refine ev_cmp (op_neD (Rm.r (by walk_at "q0.rm" : Rm _ _)).units) (nomark _) ?_))
local macro_rules | `(tactic| walk_at "q0.ex") => `(tactic| first
  | ((with_reducible show EvE _ _ _ (.Name _ _) _); refine ev_nm (by walk_at "q0.rm") (by walk_at "q0.at") rfl (by walk_at "q0.vis") ?_)
  | ((with_reducible show EvE _ _ _ (.Constant _ _ _) _); walk_at "q0.exc")
  | ((with_reducible show EvE _ _ _ (.Subscript _ (.Constant (.int _) _ _) _) _); refine ev_ix (fun _ _ => rfl) ?_)
  | ((with_reducible show EvE _ _ _ (.Subscript _ (.UnaryOp _ _ _) _) _); refine ev_ix (fun _ _ => rfl) ?_)
  | ((with_reducible show EvE _ _ _ (.Subscript _ (.Name _ _) _) _); refine ev_ix (fun _ _ => rfl) ?_)
  | ((with_reducible show EvE _ _ _ (.Subscript _ (.Call _ _ _ _) _) _); refine ev_ix (fun _ _ => rfl) ?_)
  | ((with_reducible show EvE _ _ _ (.Subscript _ (.BinOp _ _ _ _) _) _); refine ev_ix (fun _ _ => rfl) ?_)
  | ((with_reducible show EvE _ _ _ (.BinOp _ .Add (.List _ _) _) _); refine ev_cat ?_)
  | ((with_reducible show EvE _ _ _ (.BinOp _ _ _ _) _); walk_at "q0.exo")
  | ((with_reducible show EvE _ _ _ (.Tuple _ _ _) _); refine ev_tup ?_)
  | ((with_reducible show EvE _ _ _ (.List _ _) _); refine ev_lst ?_)
  | ((with_reducible show EvE _ _ _ (.Call _ _ _ _) _); walk_at "q0.exl")
  | ((with_reducible show EvE _ _ _ (.Compare (.Call (.Name "repr" _) _ _ _) [.Eq] [.Call (.Name "repr" _) _ _ _] _) _); refine ev_reprEq (by walk_at "q0.rm") (by walk_at "q0.rm") (by walk_at "q0.rm") rfl ?_)
  | ((with_reducible show EvE _ _ _ (.Compare _ _ _ _) _); walk_at "q0.exm")
  | ((with_reducible show EvE _ _ _ (.UnaryOp .USub _ _) _); refine ev_un un_neg ?_)
  | ((with_reducible show EvE _ _ _ (.UnaryOp .Not _ _) _); refine ev_not ?_)
  | ((with_reducible show EvE _ _ _ (.IfExp _ _ _ _) _); refine ev_if ?_)
  | ((with_reducible show EvE _ _ _ (.BoolOp _ [_] _) _); refine ev_one ?_)
  | ((with_reducible show EvE _ _ _ (.BoolOp .And _ _) _); refine ev_and ?_)
  | ((with_reducible show EvE _ _ _ (.BoolOp .Or _ _) _); refine ev_or ?_))
local macro_rules | `(tactic| walk_at "q0.etm") => `(tactic| first
  | ((with_reducible show EvT _ _ _ (.Compare _ [.Lt] _ _) _); refine et_cmp op_lt (nomark _) ?_)
  | ((with_reducible show EvT _ _ _ (.Compare _ [.LtE] _ _) _); refine et_cmp op_le (nomark _) ?_)
  | ((with_reducible show EvT _ _ _ (.Compare _ [.Gt] _ _) _); refine et_cmp op_gt (nomark _) ?_)
  | ((with_reducible show EvT _ _ _ (.Compare _ [.GtE] _ _) _); refine et_cmp op_ge (nomark _) ?_)
  | ((with_reducible show EvT _ _ _ (.Compare _ [.Eq] _ _) _); refine et_cmp (op_eqD (Rm.r (by walk_at "q0.rm" : Rm _ _)).units) (nomark _) ?_)
  | ((with_reducible show EvT _ _ _ (.Compare _ [.NotEq] _ _) _); refine et_cmp (op_neD (Rm.r (by walk_at "q0.rm" : Rm _ _)).units) (nomark _) ?_))
local macro_rules | `(tactic| walk_at "q0.te") => `(tactic| first
  | ((with_reducible show EvT _ _ _ (.Compare (.Call (.Name "repr" _) _ _ _) [.NotEq] [.Call (.Name "repr" _) _ _ _] _) _); refine et_reprNe (by walk_at "q0.rm") (by walk_at "q0.rm") (by walk_at "q0.rm") rfl ?_)
  | ((with_reducible show EvT _ _ _ (.Compare _ _ _ _) _); walk_at "q0.etm")
  | ((with_reducible show EvT _ _ _ (.UnaryOp .Not _ _) _); refine et_not ?_)
  | ((with_reducible show EvT _ _ _ (.BoolOp _ _ _) _); refine et_w ?_)
  | ((with_reducible show EvT _ _ _ (.Call _ _ _ _) _); refine et_val ?_)
  | ((with_reducible show EvT _ _ _ (.Name _ _) _); refine et_val ?_))
local macro_rules | `(tactic| walk_at "q0.tw") => `(tactic| with_reducible first
  | (show EvW _ _ _ (.BoolOp .And [_] _) _; refine ew_and1 ?_)
  | (show EvW _ _ _ (.BoolOp .Or [_] _) _; refine ew_or1 ?_)
  | refine ew_and ?_
  | refine ew_or ?_)
local macro_rules | `(tactic| walk_at "q0.as") => `(tactic| first
  | ((with_reducible show EvA _ _ _ (.Name _ _ :: _) _); refine ea_src (by walk_at "q0.rm") (by walk_at "q0.at") rfl (.inl rfl) (by walk_at "q0.vis") ?_)
  | ((with_reducible show EvA _ _ _ (_ :: _) _); refine ea_cons ?_)
  | ((with_reducible show EvA _ _ _ [] _); refine ea_nil ?_)
  | ((with_reducible show EvK _ _ _ (_ :: _) _); refine ek_cons ?_)
  | ((with_reducible show EvK _ _ _ [] _); refine ek_nil ?_))
local macro_rules | `(tactic| walk_at "q0.shp") => `(tactic| first
  | rfl
  | decide +kernel)
local macro_rules | `(tactic| walk_at "q0.kit") => `(tactic| first
  | (refine ⟨true, rfl, ?_⟩)
  | (refine ⟨false, rfl, ?_⟩))
local macro_rules | `(tactic| walk_at "q0.od") => `(tactic| first
  | ((with_reducible show OpD _ _ _ _ _ _); first | ((with_reducible show OpD _ _ (rI0 (fun _ _ => .int _)) _ _ _); refine od_i0 ?_) | ((with_reducible show OpD _ _ (rI0 (fun _ _ => .bl _)) _ _ _); refine od_b0 ?_) | ((with_reducible show OpD _ _ (rEqD _) _ _ _); refine od_eq ?_ ?_ ?_; walk_at "q0.shp"; walk_at "q0.shp") | ((with_reducible show OpD _ _ (rNeD _) _ _ _); refine od_ne ?_ ?_ ?_; walk_at "q0.shp"; walk_at "q0.shp") | ((with_reducible show OpD _ _ (rI _ _) _ _ _); refine od_ic ?_ ?_; first | walk_at "q0.sd" | skip)))
local macro_rules | `(tactic| walk_at "q0.br") => `(tactic| with_reducible first
  | refine ix_fr0 ?_
  | refine ix_fr1 ?_
  | refine asInt ?_
  | refine asInt2 ?_
  | refine asBool ?_
  | refine ⟨_, rfl, rfl, ?_⟩)
local macro_rules | `(tactic| walk_at "q0.bl") => `(tactic| first
  | ((with_reducible show ∃ ds es, PyData.list _ = PyData.list ds ∧ PyData.list _ = PyData.list es ∧ _); refine ⟨_, _, rfl, rfl, few rfl, ?_⟩)
  | ((with_reducible show ∃ ds i d, (PyData.list _ = PyData.tuple ds ∨ _) ∧ _ = PyData.int i ∧ _ ∧ _); refine ix_lst rfl ?_)
  | ((with_reducible show ∃ ds i d, (PyData.tuple _ = PyData.tuple ds ∨ _) ∧ _ = PyData.int i ∧ _ ∧ _); refine ix_tup rfl ?_)
  | ((with_reducible show ∃ c, kitB _ _ = some c ∧ _); walk_at "q0.kit")
  | ((with_reducible show ∃ ds, (fr _ = PyData.list ds ∨ fr _ = PyData.tuple ds) ∧ _); refine ⟨_, .inr rfl, ?_⟩)
  | ((with_reducible show ∃ ds, (PyData.list _ = PyData.list ds ∨ PyData.list _ = PyData.tuple ds) ∧ _); refine ⟨_, .inl rfl, ?_⟩)
  | ((with_reducible show ∃ a b, fr _ = PyData.tuple [a, b] ∧ _); refine ⟨_, _, rfl, ?_⟩)
  | ((with_reducible show ∃ a b, PyData.tuple _ = PyData.tuple [a, b] ∧ _); refine ⟨_, _, rfl, ?_⟩))
local macro_rules | `(tactic| walk_at "q0.stm") => `(tactic| first
  | ((with_reducible show EvB _ _ _ [_] _); refine eb_one ?_)
  | ((with_reducible show EvB _ _ _ (_ :: _) _); refine eb_cons ?_)
  | ((with_reducible show EvB _ _ _ [] _); refine eb_nil ?_)
  | ((with_reducible show EvS _ _ _ (.Assign [.Tuple [.Name _ _, .Name _ _] _ _] (.Subscript _ _ _) _) _); refine es_un2 (by walk_at "q0.rm") (by walk_at "q0.at") (by walk_at "q0.at") (.inl rfl) (.inl rfl) ?_)
  | ((with_reducible show EvS _ _ _ (.Assign [.Tuple [.Name _ _, .Name _ _] _ _] (.Call _ _ _ _) _) _); refine es_un2 (by walk_at "q0.rm") (by walk_at "q0.at") (by walk_at "q0.at") (.inl rfl) (.inl rfl) ?_)
  | ((with_reducible show EvS _ _ _ (.Assign [.Tuple [.Name _ _, .Name _ _] _ _] (.Name _ _) _) _); refine es_un2 (by walk_at "q0.rm") (by walk_at "q0.at") (by walk_at "q0.at") (.inl rfl) (.inl rfl) ?_)
  | ((with_reducible show EvS _ _ _ (.Assign [.Tuple [.Name _ _, .Name _ _] _ _] (.Tuple [.Tuple [.Constant _ _ _, .Constant _ _ _] _ _, .Tuple [.Constant _ _ _, .Constant _ _ _] _ _] _ _) _) _); refine es_un2 (by walk_at "q0.rm") (by walk_at "q0.at") (by walk_at "q0.at") (.inl rfl) (.inl rfl) ?_)
  | ((with_reducible show EvS _ _ _ (.Assign [.Tuple [.Name _ _, .Name _ _] _ _] (.Tuple [.Constant _ _ _, .Constant _ _ _] _ _) _) _); refine es_un2 (by walk_at "q0.rm") (by walk_at "q0.at") (by walk_at "q0.at") (.inl rfl) (.inl rfl) ?_)
  | ((with_reducible show EvS _ _ _ (.Return (some _) _) _); refine es_ret ?_)
  | ((with_reducible show EvS _ _ _ (.If _ _ _ _) _); refine es_if ?_)
  | ((with_reducible show EvS _ _ _ (.Assign [.Name _ _] _ _) _); refine es_st (by walk_at "q0.rm") (by walk_at "q0.at") (.inl rfl) ?_)
  | ((with_reducible show EvS _ _ _ (.Assign [.Tuple [.Name _ _, .Name _ _] _ _] (.Tuple _ _ _) _) _); refine es_p2 (by walk_at "q0.rm") (by walk_at "q0.at") (by walk_at "q0.at") rfl rfl ?_)
  | ((with_reducible show EvS _ _ _ (.Assign [.Tuple [.Name _ _, .Name _ _, .Name _ _] _ _] (.Tuple _ _ _) _) _); refine es_p3 (by walk_at "q0.rm") (by walk_at "q0.at") (by walk_at "q0.at") (by walk_at "q0.at") rfl rfl rfl ?_))
local macro_rules | `(tactic| walk_at "q0.sts") => `(tactic| first
  | ((with_reducible show EvS _ _ _ (.Assign [.Tuple [.Name _ _, .Name _ _] _ _] (.Subscript _ _ _) _) _); refine es_un2 (by walk_at "q0.rm") (by walk_at "q0.at") (by walk_at "q0.at") (.inl rfl) (.inl rfl) ?_)
  | ((with_reducible show EvS _ _ _ (.Assign [.Tuple [.Name _ _, .Name _ _] _ _] (.Call _ _ _ _) _) _); refine es_un2 (by walk_at "q0.rm") (by walk_at "q0.at") (by walk_at "q0.at") (.inl rfl) (.inl rfl) ?_)
  | ((with_reducible show EvS _ _ _ (.Assign [.Tuple [.Name _ _, .Name _ _] _ _] (.Name _ _) _) _); refine es_un2 (by walk_at "q0.rm") (by walk_at "q0.at") (by walk_at "q0.at") (.inl rfl) (.inl rfl) ?_)
  | ((with_reducible show EvS _ _ _ (.Assign [.Tuple [.Name _ _, .Name _ _] _ _] (.Tuple [.Tuple [.Constant _ _ _, .Constant _ _ _] _ _, .Tuple [.Constant _ _ _, .Constant _ _ _] _ _] _ _) _) _); refine es_un2 (by walk_at "q0.rm") (by walk_at "q0.at") (by walk_at "q0.at") (.inl rfl) (.inl rfl) ?_)
  | ((with_reducible show EvS _ _ _ (.Assign [.Tuple [.Name _ _, .Name _ _] _ _] (.Tuple [.Constant _ _ _, .Constant _ _ _] _ _) _) _); refine es_un2 (by walk_at "q0.rm") (by walk_at "q0.at") (by walk_at "q0.at") (.inl rfl) (.inl rfl) ?_)
  | ((with_reducible show EvS _ _ _ (.Return (some _) _) _); refine es_ret ?_)
  | ((with_reducible show EvS _ _ _ (.If _ _ _ _) _); refine es_if ?_)
  | ((with_reducible show EvS _ _ _ (.Assign [.Name _ _] _ _) _); refine es_st (by walk_at "q0.rm") (by walk_at "q0.at") (.inl rfl) ?_)
  | ((with_reducible show EvS _ _ _ (.Assign [.Tuple [.Name _ _, .Name _ _] _ _] (.Tuple _ _ _) _) _); refine es_p2 (by walk_at "q0.rm") (by walk_at "q0.at") (by walk_at "q0.at") rfl rfl ?_)
  | ((with_reducible show EvS _ _ _ (.Assign [.Tuple [.Name _ _, .Name _ _, .Name _ _] _ _] (.Tuple _ _ _) _) _); refine es_p3 (by walk_at "q0.rm") (by walk_at "q0.at") (by walk_at "q0.at") (by walk_at "q0.at") rfl rfl rfl ?_))
local macro_rules | `(tactic| walk_at "q0.stb") => `(tactic| first
  | ((with_reducible show EvB _ _ _ [_] _); refine eb_one ?_)
  | ((with_reducible show EvB _ _ _ (_ :: _) _); refine eb_cons ?_)
  | ((with_reducible show EvB _ _ _ [] _); refine eb_nil ?_))
local macro_rules | `(tactic| walk_at "q0.r0") => `(tactic| first
  | exact Rp0.fr (by walk_at "q0.szm")
  | exact Rp0.int (by walk_at "q0.lt")
  | exact Rp0.fr (q := 0) (by walk_at "q0.szm")
  | exact Rp0.fr (q := 1) (by walk_at "q0.szm"))
local macro_rules | `(tactic| walk_at "q0.rps") => `(tactic| first
  | exact True.intro
  | (refine ⟨by walk_at "q0.r0", ?_⟩; walk_at "q0.rps"))
local macro_rules | `(tactic| walk_at "q0.leq") => `(tactic| first
  | rfl
  | (refine cons_eq ?_ ?_; rotate_left; walk_at "q0.leq"))
local macro_rules | `(tactic| walk_at "q0.rc") => `(tactic| first
  | ((with_reducible show Rplus _ _); walk_at "q0.rp")
  | ((with_reducible show Rless _ _); walk_at "q0.rp")
  | ((with_reducible show Rtimes _ _); walk_at "q0.rp")
  | ((with_reducible show Rorder _ _); walk_at "q0.rp")
  | ((with_reducible show Rover _ _); walk_at "q0.ro"))
local macro_rules | `(tactic| walk_at "q0.ro") => `(tactic| first
  | refine ⟨_, _, rfl, by assumption, by walk_at "q0.szm", by walk_at "q0.szm", ?_⟩
  | refine ⟨1, _, rfl, by assumption, by walk_at "q0.szm", by walk_at "q0.szm", ?_⟩
  | refine ⟨_, 2, rfl, by assumption, by walk_at "q0.szm", by walk_at "q0.szm", ?_⟩)
local macro_rules | `(tactic| walk_at "q0.rp") => `(tactic| first
  | refine ⟨_, _, rfl, by walk_at "q0.szm", by walk_at "q0.szm", ?_⟩
  | refine ⟨0, _, rfl, by walk_at "q0.szm", by walk_at "q0.szm", ?_⟩
  | refine ⟨_, 0, rfl, by walk_at "q0.szm", by walk_at "q0.szm", ?_⟩
  | refine ⟨1, _, rfl, by walk_at "q0.szm", by walk_at "q0.szm", ?_⟩
  | refine ⟨_, 1, rfl, by walk_at "q0.szm", by walk_at "q0.szm", ?_⟩)
local macro_rules | `(tactic| walk_at "q0.lt") => `(tactic| first
  | exact Lt2.mono (by walk_at "q0.sz") (by decide))
local macro_rules | `(tactic| walk_at "q0.stw") => `(tactic| first
  | ((with_reducible show EvS _ _ _ (.Assign [.Tuple [.Name _ _, .Name _ _] _ _] (.Subscript _ _ _) _) _); refine es_un2 (by walk_at "q0.rm") (by walk_at "q0.at") (by walk_at "q0.at") (.inl rfl) (.inl rfl) ?_)
  | ((with_reducible show EvS _ _ _ (.Assign [.Tuple [.Name _ _, .Name _ _] _ _] (.Call _ _ _ _) _) _); refine es_un2 (by walk_at "q0.rm") (by walk_at "q0.at") (by walk_at "q0.at") (.inl rfl) (.inl rfl) ?_)
  | ((with_reducible show EvS _ _ _ (.Assign [.Tuple [.Name _ _, .Name _ _] _ _] (.Name _ _) _) _); refine es_un2 (by walk_at "q0.rm") (by walk_at "q0.at") (by walk_at "q0.at") (.inl rfl) (.inl rfl) ?_)
  | ((with_reducible show EvS _ _ _ (.Assign [.Tuple [.Name _ _, .Name _ _] _ _] (.Tuple [.Tuple [.Constant _ _ _, .Constant _ _ _] _ _, .Tuple [.Constant _ _ _, .Constant _ _ _] _ _] _ _) _) _); refine es_un2 (by walk_at "q0.rm") (by walk_at "q0.at") (by walk_at "q0.at") (.inl rfl) (.inl rfl) ?_)
  | ((with_reducible show EvS _ _ _ (.Assign [.Tuple [.Name _ _, .Name _ _] _ _] (.Tuple [.Constant _ _ _, .Constant _ _ _] _ _) _) _); refine es_un2 (by walk_at "q0.rm") (by walk_at "q0.at") (by walk_at "q0.at") (.inl rfl) (.inl rfl) ?_)
  | ((with_reducible show EvS _ _ _ (.Return (some _) _) _); refine es_ret ?_)
  | ((with_reducible show EvS _ _ _ (.Assign [.Name _ _] _ _) _); refine es_st (by walk_at "q0.rm") (by walk_at "q0.at") (.inl rfl) ?_)
  | ((with_reducible show EvS _ _ _ (.Assign [.Tuple [.Name _ _, .Name _ _] _ _] (.Tuple _ _ _) _) _); refine es_p2 (by walk_at "q0.rm") (by walk_at "q0.at") (by walk_at "q0.at") rfl rfl ?_)
  | ((with_reducible show EvS _ _ _ (.Assign [.Tuple [.Name _ _, .Name _ _, .Name _ _] _ _] (.Tuple _ _ _) _) _); refine es_p3 (by walk_at "q0.rm") (by walk_at "q0.at") (by walk_at "q0.at") (by walk_at "q0.at") rfl rfl rfl ?_))
local macro_rules | `(tactic| walk_at "q0.x1") => `(tactic| first
  | ((with_reducible show EvE _ _ _ _ _); walk_at "q0.ex")
  | ((with_reducible show EvA _ _ _ _ _); walk_at "q0.as")
  | ((with_reducible show OpD _ _ _ _ _ _); walk_at "q0.od")
  | ((with_reducible show EvT _ _ _ _ _); walk_at "q0.te")
  | ((with_reducible show EvW _ _ _ _ _); walk_at "q0.tw")
  | ((with_reducible show EvK _ _ _ _ _); walk_at "q0.as")
  | ((with_reducible show Exists _); first | walk_at "q0.br" | walk_at "q0.bl")
  | ((with_reducible show And (noOwn _ = true) _); refine ⟨rfl, ?_⟩)
  | ((with_reducible show And (List.length _ = _) _); refine ⟨rfl, rfl, ?_⟩)
  | walk_at "q0.rc")
local macro_rules | `(tactic| walk_at "q0.x") => `(tactic| repeat walk_at "q0.x1")
local macro_rules | `(tactic| walk_at "q0.w1") => `(tactic| first
  | ((with_reducible show EvE _ _ _ _ _); walk_at "q0.ex")
  | ((with_reducible show EvA _ _ _ _ _); walk_at "q0.as")
  | ((with_reducible show OpD _ _ _ _ _ _); walk_at "q0.od")
  | ((with_reducible show EvS _ _ _ _ _); walk_at "q0.stw")
  | ((with_reducible show EvB _ _ _ _ _); walk_at "q0.stb")
  | ((with_reducible show EvT _ _ _ _ _); walk_at "q0.te")
  | ((with_reducible show EvW _ _ _ _ _); walk_at "q0.tw")
  | ((with_reducible show EvK _ _ _ _ _); walk_at "q0.as")
  | ((with_reducible show Exists _); first | walk_at "q0.br" | walk_at "q0.bl")
  | ((with_reducible show And (noOwn _ = true) _); refine ⟨rfl, ?_⟩)
  | ((with_reducible show And (List.length _ = _) _); refine ⟨rfl, rfl, ?_⟩)
  | walk_at "q0.rc")
local macro_rules | `(tactic| walk_at "q0.w") => `(tactic| repeat walk_at "q0.w1")
local macro_rules | `(tactic| walk_at "q0.v1") => `(tactic| first
  | ((with_reducible show EvE _ _ _ _ _); walk_at "q0.ex")
  | ((with_reducible show EvA _ _ _ _ _); walk_at "q0.as")
  | ((with_reducible show OpD _ _ _ _ _ _); walk_at "q0.od")
  | ((with_reducible show EvS _ _ _ _ _); walk_at "q0.sts")
  | ((with_reducible show EvB _ _ _ _ _); walk_at "q0.stb")
  | ((with_reducible show EvT _ _ _ _ _); walk_at "q0.te")
  | ((with_reducible show EvW _ _ _ _ _); walk_at "q0.tw")
  | ((with_reducible show EvK _ _ _ _ _); walk_at "q0.as")
  | ((with_reducible show Exists _); first | walk_at "q0.br" | walk_at "q0.bl")
  | ((with_reducible show And (noOwn _ = true) _); refine ⟨rfl, ?_⟩))
local macro_rules | `(tactic| walk_at "q0.v") => `(tactic| repeat walk_at "q0.v1")
local macro_rules | `(tactic| walk_at "q0.v0") => `(tactic| (first | refine eb_one ?_ | refine eb_cons ?_); walk_at "q0.v")
local macro_rules | `(tactic| walk_at "q0.ex") => `(tactic| first
  | ((with_reducible show EvE _ _ _ (.Call (.Name "tuple" _) _ _ _) _); refine ev_tupleS (by walk_at "q0.rm") (by walk_at "q0.rm") rfl ?_)
  | ((with_reducible show EvE _ _ _ (.Call (.Name "list" _) _ _ _) _); refine ev_listS (by walk_at "q0.rm") (by walk_at "q0.rm") rfl ?_)
  | ((with_reducible show EvE _ _ _ (.Subscript _ (.Slice none none (some (.UnaryOp .USub _ _)) _) _) _); refine ev_back ?_))
local macro_rules | `(tactic| walk_at "q0.v1") => `(tactic| ((with_reducible show EvO _ _ _ _ _); first | refine eo_none ?_ | refine eo_some ?_))
local macro_rules | `(tactic| walk_at "q0.w1") => `(tactic| ((with_reducible show EvO _ _ _ _ _); first | refine eo_none ?_ | refine eo_some ?_))
local macro_rules | `(tactic| walk_at "q0.x1") => `(tactic| ((with_reducible show EvO _ _ _ _ _); first | refine eo_none ?_ | refine eo_some ?_))
local macro_rules | `(tactic| walk_at "q0.shp") => `(tactic| exact shapedInts _)
local macro_rules | `(tactic| walk_at "q0.bl") => `(tactic| first
  | ((with_reducible show ∃ ds, (pol _ = PyData.list ds ∨ pol _ = PyData.tuple ds) ∧ _); refine ⟨_, .inr rfl, ?_⟩)
  | ((with_reducible show ∃ ds, (intsD _ = PyData.list ds ∨ intsD _ = PyData.tuple ds) ∧ _); refine ⟨_, .inl rfl, ?_⟩)
  | ((with_reducible show ∃ ds, (PyData.tuple _ = PyData.list ds ∨ PyData.tuple _ = PyData.tuple ds) ∧ _); refine ⟨_, .inr rfl, ?_⟩))
local macro_rules | `(tactic| walk_at "q0.shp") => `(tactic| exact shapedPol _)
local macro_rules | `(tactic| walk_at "q0.ex") => `(tactic| ((with_reducible show EvE _ _ _ (.BinOp (.List _ _) .Add _ _) _); refine ev_cat ?_))
local macro_rules | `(tactic| walk_at "q0.exl") => `(tactic| first
  | ((with_reducible show EvE _ _ _ (.Call (.Name "int" _) [.Compare _ _ _ _] _ _) _); refine ev_tointB (by walk_at "q0.rm") (by walk_at "q0.rm") rfl ?_)
  | ((with_reducible show EvE _ _ _ (.Call (.Name "any" _) _ _ _) _); refine ev_any (by walk_at "q0.rm") (TxL.any (by walk_at "q0.rm")) rfl ?_)
  | ((with_reducible show EvE _ _ _ (.Call (.Name "all" _) _ _ _) _); refine ev_all (by walk_at "q0.rm") (TxL.all (by walk_at "q0.rm")) rfl ?_)
  | ((with_reducible show EvE _ _ _ (.Call (.Name "sum" _) _ _ _) _); refine ev_sum (by walk_at "q0.rm") (TxL.sum (by walk_at "q0.rm")) rfl ?_)
  | ((with_reducible show EvE _ _ _ (.Call (.Name "str" _) _ _ _) _); refine ev_strI (by walk_at "q0.rm") (TxL.str (by walk_at "q0.rm")) rfl ?_))
local macro_rules | `(tactic| walk_at "q0.ex") => `(tactic| first
  | ((with_reducible show EvE _ _ _ (.Dict [] [] _) _); refine ev_dict0 ?_))
local macro_rules | `(tactic| walk_at "q0.ex") => `(tactic| first
  | ((with_reducible show EvE _ _ _ (.BinOp (.List _ _) .Mult _ _) _); refine ev_rep ?_)
  | ((with_reducible show EvE _ _ _ (.BinOp _ .Add (.BinOp (.List _ _) .Mult _ _) _) _); refine ev_cat ?_)
  | ((with_reducible show EvE _ _ _ (.BinOp _ .Add (.List _ _) _) _); refine ev_cat ?_))
local macro_rules | `(tactic| walk_at "q0.ex") => `(tactic| ((with_reducible show EvE _ _ _ (.Subscript _ (.Subscript _ _ _) _) _); refine ev_ix (fun _ _ => rfl) ?_))
local macro_rules | `(tactic| walk_at "q0.etm") => `(tactic| ((with_reducible show EvT _ _ _ (.Compare _ [.In] _ _) _); refine et_inS ?_))
local macro_rules | `(tactic| walk_at "q0.ex") => `(tactic| ((with_reducible show EvE _ _ _ (.Call (.Name "list" _) [.Call (.Name "zip" _) _ _ _] _ _) _); refine ev_listZip (by walk_at "q0.rm") (by walk_at "q0.rm") (TxL.zip (by walk_at "q0.rm")) rfl rfl ?_))
local macro_rules | `(tactic| walk_at "q0.exl") => `(tactic| ((with_reducible show EvE _ _ _ (.Call (.Name "lcm" _) _ _ _) _); refine ev_lcm (by walk_at "q0.rm") (TxL.lcm (by walk_at "q0.rm")) rfl ?_))

def top (i : Nat) : Stmt := PySem.Challenge.pw_unsureworks_k36_what_is_a_sign_paper.main.body.getD i (.Pass ⟨0, 0, 0, 0⟩)
def Rreduced (ss : List Sl) (Φ : PyData → Prop) : Prop := ∃ t b : Int, ss = [.dat (.int t), .dat (.int b)] ∧ 0 < b ∧ Lt2 b 8500 ∧ Φ (fr ((t : Rat) / (b : Rat)))
def Rorder (ss : List Sl) (Φ : PyData → Prop) : Prop := ∃ p q : Rat, ss = [.dat (fr p), .dat (fr q)] ∧ Sz 4000 p ∧ Sz 4000 q ∧ Φ (.int (rsgn (p - q)))
theorem screduced : FnScope ["top", "bottom", "common"] ["top", "bottom"] (defScope (top 4)) := ⟨rfl, rfl, rfl, by decide +kernel, rfl, by decide +kernel, by decide +kernel⟩
theorem fireduced {P : Program} {w : World} {K : PySem.W.Frag} {mg : Str → Option Value} {base : Heap} {f : Addr} {fd : FuncData} (F : Fun K "reduced" "reduced" (top 4) f fd) (hm : mg "reduced" = some (.ref f)) (T : Txt mg) (U : TxL mg) : Fi P w K mg base 1 "reduced" (top 4) ["top", "bottom"] Rreduced := by
  have sc := screduced
  refine fi_ofS F sc hm (F.binds fun _ _ _ _ _ _ us hl => match us, hl with | [_, _], _ => rfl) (fun ss Φ ⟨_, _, e, _⟩ => by rw [e]; exact ⟨rfl, rfl⟩) ?_
  rintro X B ss Φ ⟨cdv, A, out, s, H, rfl⟩ S hr ⟨t, b, rfl, hb, hz, hΦ⟩
  have hg : (0 : Int) < (Nat.gcd t.natAbs b.natAbs : Nat) := by
    have := Nat.gcd_pos_of_pos_right t.natAbs (show 0 < b.natAbs by omega)
    omega
  have hgz : Lt2 ((Nat.gcd t.natAbs b.natAbs : Nat) : Int) 8500 := by
    unfold Lt2 at hz ⊢
    have := Nat.gcd_le_right t.natAbs (n := b.natAbs) (by omega)
    omega
  walk_at "q0.v0"
  unfold fr at hΦ
  rw [low_num hb, low_den hb] at hΦ
  exact hΦ
theorem scorder : FnScope ["f", "g", "left", "right"] ["f", "g"] (defScope (top 6)) := ⟨rfl, rfl, rfl, by decide +kernel, rfl, by decide +kernel, by decide +kernel⟩
theorem fiorder {P : Program} {w : World} {K : PySem.W.Frag} {mg : Str → Option Value} {base : Heap} {f : Addr} {fd : FuncData} (F : Fun K "order" "order" (top 6) f fd) (hm : mg "order" = some (.ref f)) (T : Txt mg) (U : TxL mg) : Fi P w K mg base 1 "order" (top 6) ["f", "g"] Rorder := by
  have sc := scorder
  refine fi_ofS F sc hm (F.binds fun _ _ _ _ _ _ us hl => match us, hl with | [_, _], _ => rfl) (fun ss Φ ⟨_, _, e, _⟩ => by rw [e]; exact ⟨rfl, rfl⟩) ?_
  rintro X B ss Φ ⟨cdv, A, out, s, H, rfl⟩ S hr ⟨p, q, rfl, hp, hq, hΦ⟩
  rw [← order_rsgn] at hΦ
  unfold sgn at hΦ
  walk_at "q0.v0"
  refine ⟨fun hz => ?_, fun hz => ?_⟩ <;> walk_at "q0.v"
  · have h1 := of_decide_eq_true hz
    rw [if_neg (by omega), if_pos (by omega)] at hΦ
    exact hΦ
  have h1 := of_decide_eq_false hz
  refine ⟨fun hz => ?_, fun hz => ?_⟩ <;> walk_at "q0.v"
  · have h1 := of_decide_eq_true hz
    rw [if_pos (by omega)] at hΦ
    exact hΦ
  have h2 := of_decide_eq_false hz
  rw [if_neg (by omega), if_neg (by omega)] at hΦ
  exact hΦ
theorem low_of (u d : Int) (hd : d ≠ 0) (g : Int) (hg : g = (Nat.gcd u.natAbs d.natAbs : Nat)) : fr ((u : Rat) / (d : Rat)) = .tuple [.int (u.fdiv (if 0 < d then g else -g)), .int (d.fdiv (if 0 < d then g else -g))] := by
  have hp : 0 < g := by
    have := Nat.gcd_pos_of_pos_right u.natAbs (show 0 < d.natAbs by omega)
    omega
  by_cases h : 0 < d
  · rw [if_pos h, Int.fdiv_eq_ediv_of_nonneg _ (by omega), Int.fdiv_eq_ediv_of_nonneg _ (by omega)]
    unfold fr
    rw [low_num h, low_den h, ← hg]
  · rw [if_neg h, ← ratneg]
    have h' : 0 < -d := by omega
    unfold fr
    have e : ∀ x : Int, x.fdiv (-g) = (-x) / g := fun x => by
      rw [← Int.fdiv_eq_ediv_of_nonneg _ (by omega : 0 ≤ g)]
      have := Int.neg_fdiv_neg (-x) g
      rw [← this]; simp
    rw [low_num h', low_den h', e, e, Int.natAbs_neg, Int.natAbs_neg, ← hg]
theorem lit {i : Int} {k : Nat} (h : i.natAbs < 18446744073709551616) (h2 : 64 ≤ k) : Lt2 i k := Lt2.mono (a := 64) h h2
theorem lt2_pow {b : Int} {c : Nat} (h : Lt2 b c) : ∀ n : Nat, Lt2 (b ^ n) (c * n + 1)
  | 0 => by rw [Int.pow_zero]; exact (show Lt2 1 (c * 0 + 1) by unfold Lt2; simp)
  | n + 1 => by
    rw [Int.pow_succ]
    exact (mulm (lt2_pow h n) h).mono (by rw [Nat.mul_add]; omega)
def powL (b : Int) (n : Nat) : List Int := (List.range n).map fun i => b ^ i
theorem powL_succ (b : Int) (n : Nat) : powL b (n + 1) = powL b n ++ [b ^ n] := by simp [powL, List.range_succ]
theorem powL_len (b : Int) (n : Nat) : (powL b n).length = n := by simp [powL]
theorem lz_mono {a b : Nat} {r : List Int} (h : Lz a r) (l : a ≤ b) : Lz b r := fun t ht => (h t ht).mono l
theorem szl {n m : Nat} (h : n ≤ m) (hm : Nat.ble m 100000 = true) : n < sizeLine := by
  have := Nat.le_of_ble_eq_true hm
  have : sizeLine = 2 ^ 24 := rfl
  omega
theorem tkL {L : List PyData} {k : Nat} {y : PyData} (h : L[k]? = some y) (hz : L.length ≤ 1000) : (L.take k).length < sizeLine ∧ (fun k acc => acc = L.take k) (k + 1) (L.take k ++ [y]) := by
  obtain ⟨lt, e⟩ := List.getElem?_eq_some_iff.mp h
  refine ⟨szl (m := 1000) (by rw [List.length_take]; omega) rfl, ?_⟩
  show L.take k ++ [y] = L.take (k + 1)
  rw [← e, List.take_append_getElem]
theorem tkN {L : List PyData} {n : Nat} (h : n = L.length) {acc : List PyData} (e : acc = L.take n) : acc = L := by rw [e, h, List.take_length]
theorem ints_at {r : List Int} {k : Nat} {d : PyData} (h : (r.map PyData.int)[k]? = some d) : ∃ i, r[k]? = some i ∧ d = .int i := by
  rw [List.getElem?_map] at h
  cases e : r[k]? with
  | none => rw [e] at h; cases h
  | some i => rw [e] at h; exact ⟨i, rfl, (Option.some.inj h).symm⟩
theorem frs_at {r : List Rat} {k : Nat} {d : PyData} (h : (r.map fr)[k]? = some d) : ∃ i, r[k]? = some i ∧ d = fr i := by
  rw [List.getElem?_map] at h
  cases e : r[k]? with
  | none => rw [e] at h; cases h
  | some i => rw [e] at h; exact ⟨i, rfl, (Option.some.inj h).symm⟩
theorem cut_to (ds : List PyData) (n : Nat) (h : n ≤ ds.length) : cutD ds none (some (n : Int)) = ds.take n := by
  unfold cutD
  rw [HT.sIx_none, HT.sIx_nat, Nat.min_eq_left h]
  simp
theorem cut_from (ds : List PyData) (n : Nat) (h : n ≤ ds.length) : cutD ds (some (n : Int)) none = ds.drop n := by
  unfold cutD
  rw [HT.sIx_none, HT.sIx_nat, Nat.min_eq_left h]
  rw [List.take_of_length_le (by rw [List.length_drop]; omega)]

def Rless (ss : List Sl) (Φ : PyData → Prop) : Prop := ∃ p q : Rat, ss = [.dat (fr p), .dat (fr q)] ∧ Sz 4000 p ∧ Sz 4000 q ∧ Φ (fr (p - q))
theorem scless : FnScope ["f", "g"] ["f", "g"] (defScope (top 5)) := ⟨rfl, rfl, rfl, by decide +kernel, rfl, by decide +kernel, by decide +kernel⟩
theorem filess {P : Program} {w : World} {K : PySem.W.Frag} {mg : Str → Option Value} {base : Heap} {f : Addr} {fd : FuncData} (F : Fun K "less" "less" (top 5) f fd) (hm : mg "less" = some (.ref f)) (T : Txt mg) (U : TxL mg) (F1 : Fi P w K mg base 1 "reduced" (top 4) ["top", "bottom"] Rreduced) : Fi P w K mg base 2 "less" (top 5) ["f", "g"] Rless := by
  have sc := scless
  refine fi_ofS F sc hm (F.binds fun _ _ _ _ _ _ us hl => match us, hl with | [_, _], _ => rfl) (fun ss Φ ⟨_, _, e, _⟩ => by rw [e]; exact ⟨rfl, rfl⟩) ?_
  rintro X B ss Φ ⟨cdv, A, out, s, H, rfl⟩ S hr ⟨p, q, rfl, hp, hq, hΦ⟩
  have e : p - q = ((p.num * q.den - q.num * p.den : Int) : Rat) / ((p.den * q.den : Int) : Rat) := by
    have h1 : (p.den : Rat) ≠ 0 := by exact_mod_cast p.den_nz
    have h2 : (q.den : Rat) ≠ 0 := by exact_mod_cast q.den_nz
    have e1 := num_den p
    have e2 := num_den q
    push_cast
    rw [e1, e2]
    grind
  rw [e] at hΦ
  have dp := den_pos p
  have dq := den_pos q
  walk_at "q0.v0"
  exact ⟨_, _, rfl, Int.mul_pos dp dq, (mulm hp.dd hq.dd).mono (by decide), hΦ⟩

def isIntD : PyData → Bool
  | .int _ => true
  | _ => false
def intOf : PyData → Int
  | .int i => i
  | _ => 0
def isFr : PyData → Bool
  | .tuple [a, b] => isIntD a && (isIntD b && (decide (0 < intOf b) && decide (Nat.gcd (intOf a).natAbs (intOf b).natAbs = 1)))
  | _ => false
theorem isIntD_ex {d : PyData} (h : isIntD d = true) : ∃ i, d = .int i := by
  cases d with
  | int i => exact ⟨i, rfl⟩
  | _ => cases h
theorem isFr_ex {d : PyData} (h : isFr d = true) : ∃ q, d = fr q := by
  unfold isFr at h
  split at h
  · rename_i a b
    simp only [Bool.and_eq_true] at h
    obtain ⟨h0, h1, h2, h3⟩ := h
    obtain ⟨t, rfl⟩ := isIntD_ex h0
    obtain ⟨u, rfl⟩ := isIntD_ex h1
    have h2 : 0 < u := of_decide_eq_true h2
    have h3 : Nat.gcd t.natAbs u.natAbs = 1 := of_decide_eq_true h3
    refine ⟨(t : Rat) / (u : Rat), ?_⟩
    unfold fr
    rw [low_num h2, low_den h2, h3]
    simp
  · cases h
theorem isFr_fr (q : Rat) : isFr (fr q) = true := by
  show (decide (0 < (q.den : Int)) && decide (Nat.gcd q.num.natAbs (q.den : Int).natAbs = 1)) = true
  rw [decide_eq_true (den_pos q)]
  have : Nat.gcd q.num.natAbs (q.den : Int).natAbs = 1 := by simpa using q.reduced
  rw [decide_eq_true this]
  rfl
theorem allFr_ex : ∀ {ds : List PyData}, ds.all isFr = true → ∃ ps : List Rat, ds = ps.map fr
  | [], _ => ⟨[], rfl⟩
  | d :: ds, h => by
    rw [List.all_cons, Bool.and_eq_true] at h
    obtain ⟨q, rfl⟩ := isFr_ex h.1
    obtain ⟨ps, rfl⟩ := allFr_ex h.2
    exact ⟨q :: ps, rfl⟩
theorem allFr_frs (ps : List Rat) : (ps.map fr).all isFr = true := by
  rw [List.all_eq_true]
  intro d hd
  obtain ⟨q, _, rfl⟩ := List.mem_map.mp hd
  exact isFr_fr q
def Risint (ss : List Sl) (Φ : PyData → Prop) : Prop := ∃ d : PyData, ss = [.dat d] ∧ Φ (.bool (isIntD d))
theorem scisint : FnScope ["value"] ["value"] (defScope (top 3)) := ⟨rfl, rfl, rfl, by decide +kernel, rfl, by decide +kernel, by decide +kernel⟩
theorem fiisint {P : Program} {w : World} {K : PySem.W.Frag} {mg : Str → Option Value} {base : Heap} {f : Addr} {fd : FuncData} (F : Fun K "is_integer" "is_integer" (top 3) f fd) (hm : mg "is_integer" = some (.ref f)) (T : Txt mg) (U : TxL mg) : Fi P w K mg base 1 "is_integer" (top 3) ["value"] Risint := by
  have sc := scisint
  refine fi_ofS F sc hm (F.binds fun _ _ _ _ _ _ us hl => match us, hl with | [_], _ => rfl) (fun ss Φ ⟨_, e, _⟩ => by rw [e]; exact ⟨rfl, rfl⟩) ?_
  rintro X B ss Φ ⟨cdv, A, out, s, H, rfl⟩ S hr ⟨d, rfl, hΦ⟩
  cases d <;> walk_at "q0.v0"
  all_goals first
    | exact onF rfl hΦ
    | (refine onT rfl ?_; walk_at "q0.v"; exact hΦ)
    | exact hΦ
def Risfr (ss : List Sl) (Φ : PyData → Prop) : Prop := ∃ d : PyData, ss = [.dat d] ∧ Φ (.bool (isFr d))
theorem isFr_len {ds : List PyData} (h : ds.length ≠ 2) : isFr (.tuple ds) = false := by
  match ds, h with
  | [], _ => rfl
  | [_], _ => rfl
  | [_, _], h => exact absurd rfl h
  | _ :: _ :: _ :: _, _ => rfl
theorem scisfr : FnScope ["value", "top", "bottom"] ["value"] (defScope (top 2)) := ⟨rfl, rfl, rfl, by decide +kernel, rfl, by decide +kernel, by decide +kernel⟩
theorem fiisfr {P : Program} {w : World} {K : PySem.W.Frag} {mg : Str → Option Value} {base : Heap} {f : Addr} {fd : FuncData} (F : Fun K "is_fraction" "is_fraction" (top 2) f fd) (hm : mg "is_fraction" = some (.ref f)) (T : Txt mg) (U : TxL mg) (F1 : Fi P w K mg base 1 "is_integer" (top 3) ["value"] Risint) : Fi P w K mg base 2 "is_fraction" (top 2) ["value"] Risfr := by
  have sc := scisfr
  refine fi_ofS F sc hm (F.binds fun _ _ _ _ _ _ us hl => match us, hl with | [_], _ => rfl) (fun ss Φ ⟨_, e, _⟩ => by rw [e]; exact ⟨rfl, rfl⟩) ?_
  rintro X B ss Φ ⟨cdv, A, out, s, H, rfl⟩ S hr ⟨d, rfl, hΦ⟩
  cases d with
  | tuple ds =>
    walk_at "q0.v0"
    refine onF' rfl ?_
    walk_at "q0.v"
    rw [eqv_int]
    by_cases h2 : ds.length = 2
    · refine onF (by simp [h2]) ?_
      walk_at "q0.v"
      match ds, h2 with
      | [a, b], _ =>
        walk_at "q0.v"
        refine ⟨a, rfl, ?_⟩
        walk_at "q0.v"
        cases h0 : isIntD a with
        | false =>
          refine onF rfl ?_
          have e : isFr (.tuple [a, b]) = false := by
            show (isIntD a && _) = false
            rw [h0]; rfl
          rw [e] at hΦ
          exact hΦ
        | true =>
          refine onT rfl ?_
          walk_at "q0.v"
          refine ⟨b, rfl, ?_⟩
          walk_at "q0.v"
          cases h1 : isIntD b with
          | false =>
            refine onF rfl ?_
            have e : isFr (.tuple [a, b]) = false := by
              show (isIntD a && (isIntD b && _)) = false
              rw [h0, h1]; rfl
            rw [e] at hΦ
            exact hΦ
          | true =>
            refine onT rfl ?_
            obtain ⟨t, rfl⟩ := isIntD_ex h0
            obtain ⟨u, rfl⟩ := isIntD_ex h1
            have e0 : isFr (.tuple [.int t, .int u]) = (decide (0 < u) && decide (Nat.gcd t.natAbs u.natAbs = 1)) := rfl
            rw [e0] at hΦ
            walk_at "q0.v"
            by_cases hu : 0 < u
            · refine onT (decide_eq_true hu) ?_
              walk_at "q0.v"
              rw [eqv_int]
              have e : (decide (0 < u) && decide (Nat.gcd t.natAbs u.natAbs = 1)) = decide (((Nat.gcd t.natAbs u.natAbs : Nat) : Int) = 1) := by
                rw [decide_eq_true hu, Bool.true_and]
                congr 1
                exact propext ⟨fun h => by rw [h]; rfl, fun h => by exact_mod_cast h⟩
              rw [← e]
              exact hΦ
            · refine onF (decide_eq_false hu) ?_
              rw [decide_eq_false hu] at hΦ
              exact hΦ
    · rw [isFr_len h2] at hΦ
      refine onT (by simp; omega) ?_
      walk_at "q0.v"
      exact hΦ
  | _ =>
    walk_at "q0.v0"
    refine onT' rfl (onT rfl ?_)
    walk_at "q0.v"
    exact hΦ

def Rpolof (ss : List Sl) (Φ : PyData → Prop) : Prop := ∃ (r : List Int) (b : Int), ss = [.dat (intsD r), .dat (.int b)] ∧ 0 < b ∧ Lt2 b 8500 ∧ r.length ≤ 100 ∧ Φ (pol (polQ r b))
def Rpowers (ss : List Sl) (Φ : PyData → Prop) : Prop := ∃ (b : Int) (n : Nat), ss = [.dat (.int b), .dat (.int (n : Int))] ∧ Lt2 b 1000 ∧ n ≤ 100 ∧ Φ (intsD (powL b n))
theorem scpolof : FnScope ["row", "bottom", "top"] ["row", "bottom"] (defScope (top 9)) := ⟨rfl, rfl, rfl, by decide +kernel, rfl, by decide +kernel, by decide +kernel⟩
theorem fipolof {P : Program} {w : World} {K : PySem.W.Frag} {mg : Str → Option Value} {base : Heap} {f : Addr} {fd : FuncData} (F : Fun K "polynomial_of" "polynomial_of" (top 9) f fd) (hm : mg "polynomial_of" = some (.ref f)) (T : Txt mg) (U : TxL mg) (F1 : Fi P w K mg base 1 "reduced" (top 4) ["top", "bottom"] Rreduced) : Fi P w K mg base 2 "polynomial_of" (top 9) ["row", "bottom"] Rpolof := by
  have sc := scpolof
  refine fi_ofS F sc hm (F.binds fun _ _ _ _ _ _ us hl => match us, hl with | [_, _], _ => rfl) (fun ss Φ ⟨_, _, e, _⟩ => by rw [e]; exact ⟨rfl, rfl⟩) ?_
  rintro X B ss Φ ⟨cdv, A, out, s, H, rfl⟩ S hr ⟨r, b, rfl, hb, hbz, hl, hΦ⟩
  refine eb_one (es_ret (ev_tuple rfl T.tuple (ev_of_f (ef_lc [2] S.c S.nd (own := [("top", 2)]) rfl (egc_name 2 S.nd rfl) (by change BlkOk ["row", "bottom", "top"] (defScope (top 9)) _ _; exact ⟨rfl, by decide +kernel, by decide +kernel, by decide +kernel, by decide +kernel⟩) ?_) fun ds h => ⟨ds, .inl rfl, h⟩)))
  walk_at "q0.v"
  refine ⟨_, rfl, fun k acc => acc = ((polQ r b).map fr).take k, rfl, ?_, ?_⟩
  · rintro k d acc B' hB hk hd rfl
    obtain ⟨i, hi, rfl⟩ := ints_at hd
    intro s1 H1 C cl fp
    refine eve_same S fun S1 => ?_
    walk_at "q0.v"
    exact ⟨_, _, rfl, hb, hbz, tkL (by simp [polQ, hi]) (by simp [polQ]; omega)⟩
  intro acc e
  rw [tkN (by simp [polQ]) e]
  exact hΦ
theorem scpowers : FnScope ["base", "many", "powers", "power", "_"] ["base", "many"] (defScope (top 10)) := ⟨rfl, rfl, rfl, by decide +kernel, rfl, by decide +kernel, by decide +kernel⟩
theorem fipowers {P : Program} {w : World} {K : PySem.W.Frag} {mg : Str → Option Value} {base : Heap} {f : Addr} {fd : FuncData} (F : Fun K "powers_of" "powers_of" (top 10) f fd) (hm : mg "powers_of" = some (.ref f)) (T : Txt mg) (U : TxL mg) : Fi P w K mg base 1 "powers_of" (top 10) ["base", "many"] Rpowers := by
  have sc := scpowers
  refine fi_ofS F sc hm (F.binds fun _ _ _ _ _ _ us hl => match us, hl with | [_, _], _ => rfl) (fun ss Φ ⟨_, _, e, _⟩ => by rw [e]; exact ⟨rfl, rfl⟩) ?_
  rintro X B ss Φ ⟨cdv, A, out, s, H, rfl⟩ S hr ⟨b, n, rfl, hb, hn, hΦ⟩
  refine eb_cons (es_stF S (i := 2) (by walk_at "q0.at") (.inl rfl) (ef_lst ?_))
  walk_at "q0.v"
  refine es_range S.po S.c rfl T.range (eg_nm S (by walk_at "q0.at") (.inl rfl)) ?_
  walk_at "q0.v"
  refine ⟨by omega, by omega, fun k ρ => ∃ t, ρ = [some (.dat (.int b)), some (.dat (.int (n : Int))), some (.own ((powL b k).map PyData.int)), some (.dat (.int (b ^ k))), t], ⟨none, by rw [Int.pow_zero]; rfl⟩, ?_, ?_⟩
  · rintro k y ρ hk rfl ⟨t, rfl⟩
    have hk' : k < n := by omega
    refine eb_cons (es_appendN S (i := 2) (by walk_at "q0.at") rfl (.inl rfl) ?_)
    walk_at "q0.v"
    refine ⟨rfl, szl (m := 1000) (by simp [powL_len]; omega) rfl, ?_⟩
    refine eb_one (es_aug S iop_mulW (i := 3) (by walk_at "q0.at") (.inl rfl) rfl ?_)
    have h1 := lt2_pow hb k
    walk_at "q0.v"
    · exact w_mul h1 hb (by have : 1000 * k ≤ 1000 * 100 := Nat.mul_le_mul_left _ (by omega); omega)
    refine ⟨some (.dat (.int k)), ?_⟩
    rw [powL_succ, Int.pow_succ, List.map_append]
    rfl
  · rintro ρ ⟨t, rfl⟩
    refine eb_freeze (i := 2) rfl ?_
    walk_at "q0.v"
    exact hΦ
def Rrow (ss : List Sl) (Φ : PyData → Prop) : Prop := ∃ (p : List Rat) (n k : Nat), ss = [.dat (pol p)] ∧ p.length ≤ n ∧ Pz k p ∧ n * k ≤ 8000 ∧ n ≤ 100 ∧ Φ (.tuple [intsD (rowT p), .int (rowU p : Nat)])
theorem take_succ {α : Type} {l : List α} {k : Nat} {c : α} (h : l[k]? = some c) : l.take (k + 1) = l.take k ++ [c] := by
  obtain ⟨lt, e⟩ := List.getElem?_eq_some_iff.mp h
  rw [← e, List.take_append_getElem]
theorem lt2_nat {u k : Nat} (h : u ≤ 2 ^ k) : Lt2 (u : Int) (k + 1) := by
  unfold Lt2
  rw [Int.natAbs_natCast, Nat.pow_succ]
  have : 0 < 2 ^ k := Nat.pow_pos (by decide)
  omega
theorem frac_at {α : Type} {l : List α} {k : Nat} (h : k < l.length) : ∃ c, l[k]? = some c := ⟨_, List.getElem?_eq_getElem h⟩
theorem scrow : FnScope ["p", "bottom", "factor", "top", "under"] ["p"] (defScope (top 8)) := ⟨rfl, rfl, rfl, by decide +kernel, rfl, by decide +kernel, by decide +kernel⟩
theorem firow {P : Program} {w : World} {K : PySem.W.Frag} {mg : Str → Option Value} {base : Heap} {f : Addr} {fd : FuncData} (F : Fun K "row_of" "row_of" (top 8) f fd) (hm : mg "row_of" = some (.ref f)) (T : Txt mg) (U : TxL mg) : Fi P w K mg base 1 "row_of" (top 8) ["p"] Rrow := by
  have sc := scrow
  refine fi_ofS F sc hm (F.binds fun _ _ _ _ _ _ us hl => match us, hl with | [_], _ => rfl) (fun ss Φ ⟨_, _, _, e, _⟩ => by rw [e]; exact ⟨rfl, rfl⟩) ?_
  rintro X B ss Φ ⟨cdv, A, out, s, H, rfl⟩ S hr ⟨p, n, k, rfl, hn, hp, hnk, hn1, hΦ⟩
  have fl : ∀ j, (p.take j).foldl (fun b c => Nat.lcm b c.den) 1 ≤ 2 ^ 8000 := fun j => by
    have := fold_le (k := k) (p.take j) 1 0 (fun c hc => (hp c (List.mem_of_mem_take hc)).2) (Nat.le_refl _)
    refine Nat.le_trans this (Nat.pow_le_pow_right (by decide) ?_)
    have h1 : (p.take j).length ≤ n := by rw [List.length_take]; omega
    have := Nat.mul_le_mul_left k h1
    rw [Nat.mul_comm k n] at this
    omega
  have kk : k ≤ 8000 ∨ p = [] := by
    cases p with
    | nil => exact .inr rfl
    | cons a r =>
      left
      have : 1 ≤ n := by simp at hn; omega
      have := Nat.mul_le_mul_right k this
      omega
  have hpz : ∀ c ∈ p, Lt2 (c.den : Int) 8000 := fun c hc => by
    rcases kk with h | h
    · exact (hp c hc).dd.mono h
    · subst h; cases hc
  refine eb_cons (es_st S (i := 1) (by walk_at "q0.at") (.inr rfl) (ev_int ?_))
  refine eb_cons (es_forT S.po S.c (eg_nm S (i := 2) (by walk_at "q0.at") (.inl rfl)) ?_)
  walk_at "q0.v"
  refine ⟨_, rfl, fun j ρ => ∃ t, ρ = [some (.dat (pol p)), some (.dat (.int ((p.take j).foldl (fun b c => Nat.lcm b c.den) 1 : Nat))), t, none, none], ⟨none, rfl⟩, ?_, ?_⟩
  · rintro j y ρ hj hy ⟨t, rfl⟩
    obtain ⟨c, hc, rfl⟩ := frs_at hy
    have hcm := List.mem_of_getElem? hc
    refine eb_one (es_st S (i := 1) (by walk_at "q0.at") (.inr rfl) ?_)
    walk_at "q0.v"
    refine ⟨(lt2_nat (fl j)).mono (by decide), (hpz c hcm).mono (by decide), some (.dat (fr c)), ?_⟩
    rw [take_succ hc, List.foldl_append]
    rfl
  rintro ρ ⟨t, rfl⟩
  rw [show (List.foldl (fun (b : Nat) (c : Rat) => b.lcm c.den) 1 (List.take (p.map fr).length p)) = rowU p by rw [List.length_map, List.take_length]; rfl]
  have hu : Lt2 ((rowU p : Nat) : Int) 8001 := by
    have := fl p.length
    rw [List.take_length] at this
    exact lt2_nat this
  walk_at "q0.v"
  refine ev_of_f (ef_lcT [3, 4] S.c S.nd (own := [("top", 3), ("under", 4)]) rfl (egc_tup (n := 2) S.c (egcs_cons 3 S.nd rfl (egcs_cons 4 S.nd rfl egcs_nil))) (by change BlkOk ["p", "bottom", "factor", "top", "under"] (defScope (top 8)) _ _; exact ⟨rfl, by decide +kernel, by decide +kernel, by decide +kernel, by decide +kernel⟩) ?_) fun ds h => h
  walk_at "q0.v"
  refine ⟨_, rfl, fun j acc => acc = ((rowT p).map PyData.int).take j, rfl, ?_, ?_⟩
  · rintro j d acc B' hB hj hd rfl
    obtain ⟨c, hc, rfl⟩ := frs_at hd
    have hcm := List.mem_of_getElem? hc
    refine ⟨_, rfl, rfl, _, _, rfl, _, _, rfl, rfl, ?_⟩
    intro s1 H1 C cl fp
    refine eve_same S fun S1 => ?_
    walk_at "q0.v"
    · have h1 : Lt2 ((rowU p : Nat) / (c.den : Int)) 8001 := by
        have h0 : (0 : Int) ≤ ((rowU p : Nat) : Int) / (c.den : Int) := Int.ediv_nonneg (by omega) (by omega)
        have h2 : ((rowU p : Nat) : Int) / (c.den : Int) ≤ (rowU p : Nat) := Int.ediv_le_self _ (by omega)
        unfold Lt2 at hu ⊢
        omega
      rcases kk with h | h
      · exact w_mul ((hp c hcm).nn.mono h) h1 (by decide)
      · subst h; cases hcm
    · exact tkL (by simp [rowT, hc]) (by rw [List.length_map, rowT_len]; omega)
    · exact w_div (den_pos c) (hpz c hcm) (by decide)
  · intro acc e
    rw [tkN (by simp [rowT]) e]
    walk_at "q0.v"
    exact hΦ
theorem rowU_le {p : List Rat} {n k : Nat} (hn : p.length ≤ n) (hp : Pz k p) : rowU p ≤ 2 ^ (k * n) := by
  have := fold_le (k := k) p 1 0 (fun c hc => (hp c hc).2) (Nat.le_refl _)
  refine Nat.le_trans this (Nat.pow_le_pow_right (by decide) ?_)
  rw [Nat.zero_add]
  exact Nat.mul_le_mul_left k hn
theorem rowU_lt {p : List Rat} {n k : Nat} (hn : p.length ≤ n) (hp : Pz k p) : Lt2 ((rowU p : Nat) : Int) (k * n + 1) := lt2_nat (rowU_le hn hp)
theorem rowT_lz {p : List Rat} {n k : Nat} (hn : p.length ≤ n) (hp : Pz k p) : Lz (k + (k * n + 1)) (rowT p) := fun t ht => by
  obtain ⟨c, hc, rfl⟩ := List.mem_map.mp ht
  refine mulm (hp c hc).nn ?_
  have hu := rowU_lt hn hp
  have h0 : (0 : Int) ≤ ((rowU p : Nat) : Int) / (c.den : Int) := Int.ediv_nonneg (by omega) (by omega)
  have h2 : ((rowU p : Nat) : Int) / (c.den : Int) ≤ (rowU p : Nat) := Int.ediv_le_self _ (by omega)
  unfold Lt2 at hu ⊢
  omega

def Rshrow (ss : List Sl) (Φ : PyData → Prop) : Prop := ∃ (r : List Int) (b : Int) (n a c : Nat), ss = [.dat (intsD r), .dat (.int b)] ∧ r.length ≤ n ∧ n ≤ 20 ∧ Lz a r ∧ Lt2 b c ∧ a ≤ 20000 ∧ c ≤ 2000 ∧
  ∀ m : List Int, m.length = r.length → (∀ x : Rat, ev (ql m) x = ev (ql r) (x + b)) → Lz (a + n * n * (c + 1)) m → Φ (intsD m)
theorem scshrow : FnScope ["row", "by", "found", "done", "place"] ["row", "by"] (defScope (top 13)) := ⟨rfl, rfl, rfl, by decide +kernel, rfl, by decide +kernel, by decide +kernel⟩
theorem fishrow {P : Program} {w : World} {K : PySem.W.Frag} {mg : Str → Option Value} {base : Heap} {f : Addr} {fd : FuncData} (F : Fun K "row_shifted" "row_shifted" (top 13) f fd) (hm : mg "row_shifted" = some (.ref f)) (T : Txt mg) (U : TxL mg) : Fi P w K mg base 1 "row_shifted" (top 13) ["row", "by"] Rshrow := by
  have sc := scshrow
  refine fi_ofS F sc hm (F.binds fun _ _ _ _ _ _ us hl => match us, hl with | [_, _], _ => rfl) (fun ss Φ ⟨_, _, _, _, _, e, _⟩ => by rw [e]; exact ⟨rfl, rfl⟩) ?_
  rintro X B ss Φ ⟨cdv, A, out, s, H, rfl⟩ S hr ⟨r, b, n, a, c, rfl, hn, hn2, ha, hb, ha2, hc2, hΦ⟩
  refine eb_cons (es_stF S (i := 2) (by walk_at "q0.at") (.inl rfl) (ef_list rfl T.list ?_))
  walk_at "q0.v"
  refine (es_range S.po S.c rfl T.range (eg_nm S (i := 3) (by walk_at "q0.at") (.inl rfl)) ?_)
  walk_at "q0.v"
  have ll : (List.map PyData.int r).length = r.length := List.length_map ..
  refine ⟨by omega, by omega, fun j ρ => ∃ (g : List Int) (t u : Option Sl), ρ = [some (.dat (intsD r)), some (.dat (.int b)), some (.own (g.map PyData.int)), t, u] ∧ g.length = r.length ∧ Lz (a + j * (n * (c + 1))) g ∧
    ∀ y : Rat, ev (ql r) y = ev (ql (g.take j)) (y - b) + (y - b) ^ j * ev (ql (g.drop j)) y, ⟨r, none, none, rfl, rfl, by simpa using ha, fun y => by simp [ql, ev]; grind⟩, ?_, ?_⟩
  · rintro j y ρ hj rfl ⟨g, t, u, rfl, hg, hz, hev⟩
    have hj1 : j + 1 < r.length := by omega
    refine eb_one (es_range3 S.po S.c rfl T.range (eg_nm S (i := 4) (by walk_at "q0.at") (.inl rfl)) ?_)
    walk_at "q0.v"
    refine ⟨_, _, _, r.length - 1 - j, rfl, rfl, rfl, ?_, ?_⟩
    · have e := RgC.neg (i := ((List.map PyData.int r).length : Int) - 2) (j := (j : Int) - 1) (by omega) (by omega) (by omega) (by omega)
      rw [show (((List.map PyData.int r).length : Int) - 2 - ((j : Int) - 1)).toNat = r.length - 1 - j by omega] at e
      exact e
    refine ⟨fun i ρ => ∃ (g' : List Int) (u : Option Sl), ρ = [some (.dat (intsD r)), some (.dat (.int b)), some (.own (g'.map PyData.int)), some (.dat (.int (j : Nat))), u] ∧ g'.length = r.length ∧ Lz (a + j * (n * (c + 1)) + i * (c + 1)) g' ∧
      g'.take (r.length - 1 - i) = g.take (r.length - 1 - i) ∧ g'.drop (r.length - 1 - i) = sdivZ b (g.drop (r.length - 1 - i)), ⟨g, u, rfl, hg, by simpa using hz, rfl, ?_⟩, ?_, ?_⟩
    · have hc : g[r.length - 1]? = some (g[r.length - 1]'(by omega)) := List.getElem?_eq_getElem (by omega)
      rw [Nat.sub_zero, drop_cons hc, List.drop_of_length_le (by omega), sdivZ_one]
    · rintro i y ρ hi rfl ⟨g', u', rfl, hg', hz', ht', hd'⟩
      obtain ⟨q, hq⟩ : ∃ q, r.length - 1 - i = q + 1 := ⟨r.length - 2 - i, by omega⟩
      rw [hq] at ht' hd'
      obtain ⟨x0, x1, e0, e1, e2, e3⟩ := inner_step hg hg' (by omega) ht' hd'
      have z0 := hz'.get e0
      have z1 := hz'.get e1
      have mm : a + j * (n * (c + 1)) + i * (c + 1) + c ≤ 900000 := by
        have h1 : j * (n * (c + 1)) ≤ 20 * (20 * 2001) := Nat.mul_le_mul (by omega) (Nat.mul_le_mul hn2 (by omega))
        have h2 : i * (c + 1) ≤ 20 * 2001 := Nat.mul_le_mul (by omega) (by omega)
        omega
      have ep : ((List.map PyData.int r).length : Int) - 2 + (i : Nat) * (-1) = ((q : Nat) : Int) := by omega
      rw [ep]
      refine eb_one (es_augI S iop_add (i := 2) (by walk_at "q0.at") rfl (.inl rfl) ?_)
      walk_at "q0.v"
      refine ⟨_, .int x0, rfl, by omega, by rw [Int.toNat_natCast, List.getElem?_map, e0]; rfl, ?_⟩
      walk_at "q0.v"
      refine ix_lst (d := .int x1) (by rw [show ((q : Nat) : Int) + 1 = ((q + 1 : Nat) : Int) by omega, atI_nat (by rw [List.length_map]; omega), List.getElem?_map, e1]; rfl) ?_
      walk_at "q0.v"
      any_goals ((with_reducible show CMulW _ _); exact w_mul hb z1 (by omega))
      refine ⟨rfl, g'.set q (x0 + b * x1), some (.dat (.int (q : Nat))), ?_, by simpa using hg', ?_, ?_, ?_⟩
      · rw [Int.toNat_natCast, List.map_set]
        rfl
      · refine (lz_mono hz' (by rw [Nat.add_mul]; omega)).set (Lt2.mono (addx z0 (mulm hb z1)) ?_)
        rw [Nat.add_mul]
        omega
      · rw [show r.length - 1 - (i + 1) = q by omega]; exact e2
      · rw [show r.length - 1 - (i + 1) = q by omega]; exact e3
    · rintro ρ ⟨g', u', rfl, hg', hz', ht', hd'⟩
      rw [show r.length - 1 - (r.length - 1 - j) = j by omega] at ht' hd'
      have eg : g' = g.take j ++ sdivZ b (g.drop j) := by
        conv => lhs; rw [← List.take_append_drop j g', ht', hd']
      refine ⟨g', some (.dat (.int (j : Nat))), u', rfl, hg', lz_mono hz' ?_, fun y => ?_⟩
      · have h2 : (r.length - 1 - j) * (c + 1) ≤ n * (c + 1) := Nat.mul_le_mul_right _ (by omega)
        rw [Nat.add_mul]
        omega
      · rw [eg]
        exact ev_pass b g j (by omega) (ev (ql r)) hev y
  · rintro ρ ⟨g, t, u, rfl, hg, hz, hev⟩
    refine eb_freeze (i := 2) rfl ?_
    walk_at "q0.v"
    refine hΦ g hg (fun x => ?_) (lz_mono hz ?_)
    · by_cases h0 : r.length = 0
      · have e1 : g = [] := List.length_eq_zero_iff.mp (by omega)
        have e2 : r = [] := List.length_eq_zero_iff.mp h0
        rw [e1, e2]; rfl
      · exact last_pass (j := ((List.map PyData.int r).length - 1 : Int).toNat) (by omega) hev x
    · have h1 : ((List.map PyData.int r).length - 1 : Int).toNat ≤ n := by omega
      have := Nat.mul_le_mul_right (n * (c + 1)) h1
      rw [Nat.mul_assoc]
      omega

def Rmrow (ss : List Sl) (Φ : PyData → Prop) : Prop := ∃ (r1 r2 : List Int) (n a : Nat), ss = [.dat (intsD r1), .dat (intsD r2)] ∧ r1 ≠ [] ∧ r2 ≠ [] ∧ r1.length ≤ n ∧ r2.length ≤ n ∧ n ≤ 20 ∧ Lz a r1 ∧ Lz a r2 ∧ a ≤ 20000 ∧
  ∀ m : List Int, m.length = r1.length + r2.length - 1 → (∀ x : Rat, ev (ql m) x = ev (ql r1) x * ev (ql r2) x) → Lz (2 * a + 1 + n * n) m → Φ (intsD m)
theorem rep_one (n : Nat) : (List.replicate n [PyData.int 0]).flatten = (List.replicate n (0 : Int)).map PyData.int := by
  induction n with
  | zero => rfl
  | succ n ih => rw [List.replicate_succ, List.flatten_cons, ih, List.replicate_succ]; rfl
theorem isE {r : List Int} (h : r ≠ []) : PyData.eqv (intsD r) (.list []) = false := by
  show PyData.eqv (.list (r.map PyData.int)) (.list []) = false
  rw [eqvInts0]
  cases r with
  | nil => exact absurd rfl h
  | cons a r => rfl
theorem scmrow : FnScope ["one", "other", "found", "place", "factor", "further", "by"] ["one", "other"] (defScope (top 14)) := ⟨rfl, rfl, rfl, by decide +kernel, rfl, by decide +kernel, by decide +kernel⟩
theorem fimrow {P : Program} {w : World} {K : PySem.W.Frag} {mg : Str → Option Value} {base : Heap} {f : Addr} {fd : FuncData} (F : Fun K "rows_multiplied" "rows_multiplied" (top 14) f fd) (hm : mg "rows_multiplied" = some (.ref f)) (T : Txt mg) (U : TxL mg) : Fi P w K mg base 1 "rows_multiplied" (top 14) ["one", "other"] Rmrow := by
  have sc := scmrow
  refine fi_ofS F sc hm (F.binds fun _ _ _ _ _ _ us hl => match us, hl with | [_, _], _ => rfl) (fun ss Φ ⟨_, _, _, _, e, _⟩ => by rw [e]; exact ⟨rfl, rfl⟩) ?_
  rintro X B ss Φ ⟨cdv, A, out, s, H, rfl⟩ S hr ⟨r1, r2, n, a, rfl, h1, h2, l1, l2, hn, z1, z2, ha, hΦ⟩
  have p1 : 0 < r1.length := List.length_pos_iff.mpr h1
  have p2 : 0 < r2.length := List.length_pos_iff.mpr h2
  walk_at "q0.v0"
  refine onF' (isE h1) ?_
  walk_at "q0.v"
  refine onF (isE h2) (eb_nil (eb_cons ?_))
  refine es_stF S (i := 2) (by walk_at "q0.at") (.inl rfl) (ef_rep ?_)
  walk_at "q0.v"
  refine ⟨_, _, rfl, rfl, ?_, ?_, ?_, ?_⟩
  · simp; omega
  · simp; omega
  · exact Nat.le_of_lt (szl (m := 1000) (by simp; omega) rfl)
  rw [show ((((List.map PyData.int r1).length : Nat) : Int) + (List.map PyData.int r2).length - 1).toNat = r1.length + r2.length - 1 by simp; omega, rep_one]
  refine eb_cons (es_enum S.po S.c rfl U.enumerate (eg_tup (n := 2) S.c (egs_cons (eg_nm S (i := 3) (by walk_at "q0.at") (.inl rfl)) (egs_cons (eg_nm S (i := 4) (by walk_at "q0.at") (.inl rfl)) egs_nil))) ?_)
  walk_at "q0.v"
  refine ⟨_, rfl, fun k ρ => ∃ (g : List Int) (t u v w : Option Sl), ρ = [some (.dat (intsD r1)), some (.dat (intsD r2)), some (.own (g.map PyData.int)), t, u, v, w] ∧ g.length = r1.length + r2.length - 1 ∧ Lz (2 * a + 1 + k * n) g ∧
    ∀ x : Rat, ev (ql g) x = ev (ql (r1.take k)) x * ev (ql r2) x, ⟨_, none, none, none, none, rfl, by simp, fun t ht => ?_, fun x => ?_⟩, ?_, ?_⟩
  · rw [List.eq_of_mem_replicate ht]
    exact lit (by decide) (by omega) |> fun (h : Lt2 0 64) => by unfold Lt2; rw [Int.natAbs_zero]; exact Nat.pow_pos (by decide)
  · rw [ev_zeros]; simp [ql, ev]
  · rintro k y ρ hk ⟨z, hz, rfl⟩ ⟨g, t, u, v, w, rfl, hg, hgz, hev⟩
    obtain ⟨c, hc, rfl⟩ := ints_at hz
    refine ⟨_, rfl, rfl, _, _, rfl, _, _, rfl, rfl, ?_⟩
    refine eb_one (es_enum S.po S.c rfl U.enumerate (eg_tup (n := 2) S.c (egs_cons (eg_nm S (i := 5) (by walk_at "q0.at") (.inl rfl)) (egs_cons (eg_nm S (i := 6) (by walk_at "q0.at") (.inl rfl)) egs_nil))) ?_)
    walk_at "q0.v"
    have kl : k < r1.length := (List.getElem?_eq_some_iff.mp hc).1
    refine ⟨_, rfl, fun j ρ => ∃ (g' : List Int) (v w : Option Sl), ρ = [some (.dat (intsD r1)), some (.dat (intsD r2)), some (.own (g'.map PyData.int)), some (.dat (.int (k : Nat))), some (.dat (.int c)), v, w] ∧ g'.length = r1.length + r2.length - 1 ∧
      Lz (2 * a + 1 + k * n + j) g' ∧ ∀ x : Rat, ev (ql g') x = ev (ql (r1.take k)) x * ev (ql r2) x + c * x ^ k * ev (ql (r2.take j)) x, ⟨g, v, w, rfl, hg, by simpa using hgz, fun x => by rw [hev]; simp [ql, ev]; grind⟩, ?_, ?_⟩
    · rintro j y ρ hj ⟨z, hz, rfl⟩ ⟨g', v, w, rfl, hg', hgz', hev'⟩
      obtain ⟨d, hd, rfl⟩ := ints_at hz
      have jl : j < r2.length := (List.getElem?_eq_some_iff.mp hd).1
      obtain ⟨e0, he⟩ : ∃ e0, g'[k + j]? = some e0 := frac_at (by omega)
      have zc := z1.get hc
      have zd := z2.get hd
      have ze := hgz'.get he
      refine ⟨_, rfl, rfl, _, _, rfl, _, _, rfl, rfl, ?_⟩
      refine eb_one (es_augI S iop_add (i := 2) (by walk_at "q0.at") rfl (.inl rfl) ?_)
      walk_at "q0.v"
      rw [show ((k : Nat) : Int) + (j : Nat) = ((k + j : Nat) : Int) by omega]
      refine ⟨_, .int e0, rfl, by omega, by rw [Int.toNat_natCast, List.getElem?_map, he]; rfl, ?_⟩
      walk_at "q0.v"
      any_goals ((with_reducible show CMulW _ _); exact w_mul zc zd (by omega))
      refine ⟨rfl, g'.set (k + j) (e0 + c * d), some (.dat (.int (j : Nat))), some (.dat (.int d)), ?_, by simpa using hg', ?_, mul_step hc hd he hev'⟩
      · rw [Int.toNat_natCast, List.map_set]
        rfl
      · exact (lz_mono hgz' (by omega)).set (Lt2.mono (addx ze (mulm zc zd)) (by omega))
    · rintro ρ ⟨g', v, w, rfl, hg', hgz', hev'⟩
      refine ⟨g', some (.dat (.int (k : Nat))), some (.dat (.int c)), v, w, rfl, hg', lz_mono hgz' ?_, fun x => ?_⟩
      · rw [List.length_map, Nat.add_mul]
        omega
      · rw [hev', List.length_map]
        exact mul_next hc x
  · rintro ρ ⟨g, t, u, v, w, rfl, hg, hgz, hev⟩
    refine eb_freeze (i := 2) rfl ?_
    walk_at "q0.v"
    refine hΦ g hg (fun x => ?_) (lz_mono hgz ?_)
    · rw [hev, List.length_map, List.take_length]
    · rw [List.length_map]
      have := Nat.mul_le_mul_right n l1
      omega

theorem num_neg {q : Rat} : q.num < 0 ↔ q < 0 := by
  constructor
  · intro h
    exact Rat.not_le.mp fun z => by have := Rat.num_nonneg.mpr z; omega
  · intro h
    have h2 := Rat.not_le.mpr h
    have : ¬ 0 ≤ q.num := fun z => h2 (Rat.num_nonneg.mp z)
    omega
theorem num_pos {q : Rat} : 0 < q.num ↔ 0 < q := by
  constructor
  · intro h
    have h1 : 0 ≤ q := Rat.num_nonneg.mp (by omega)
    exact Rat.lt_of_le_of_ne h1 fun z => by rw [← z] at h; simp at h
  · intro h
    have h1 : 0 ≤ q.num := Rat.num_nonneg.mpr (Rat.le_of_lt h)
    have h2 : q.num ≠ 0 := fun z => by rw [Rat.num_eq_zero] at z; rw [z] at h; exact absurd h (by decide)
    omega
theorem num_zero {q : Rat} : q.num = 0 ↔ q = 0 := Rat.num_eq_zero
theorem atI_last {α : Type} {xs : List α} (h : 0 < xs.length) : atI xs (-1) = xs[xs.length - 1]? := by
  unfold atI ixN
  rw [if_neg (by omega), if_pos (by omega)]
  show xs[((-1 : Int) + (xs.length : Nat)).toNat]? = _
  congr 1
  omega
def Ln (d : PyData) : Prop := ∀ ds, d = .tuple ds → ds.length ≤ 1000
def isPol : PyData → Bool
  | .tuple ds => ds.all isFr && (ds.isEmpty || (match ds.getLast? with
    | some (.tuple (.int t :: _)) => decide (t ≠ 0)
    | _ => false))
  | _ => false
theorem eqNo {p : List Rat} (h : p ≠ []) : PyData.eqv (pol p) (.tuple []) = false := by
  cases p with
  | nil => exact absurd rfl h
  | cons c r => rfl
theorem last_frs {p : List Rat} (h : p ≠ []) : (p.map fr).getLast? = some (fr (p.getD (p.length - 1) 0)) := by
  have hn : 0 < p.length := List.length_pos_iff.mpr h
  rw [List.getLast?_eq_getElem?, List.length_map, List.getElem?_map, List.getD_eq_getElem?_getD, List.getElem?_eq_getElem (by omega)]
  rfl
def nmB (p : List Rat) : Bool := p.isEmpty || !decide ((p.getD (p.length - 1) 0).num = 0)
theorem nmB_iff {p : List Rat} : nmB p = true ↔ Nm p := by
  unfold nmB
  rw [nm_last, Bool.or_eq_true, List.isEmpty_iff]
  simp [num_zero]
theorem nmB_nil : nmB [] = true := rfl
theorem isPol_pol (p : List Rat) : isPol (pol p) = nmB p := by
  show ((p.map fr).all isFr && _) = _
  rw [allFr_frs, Bool.true_and]
  by_cases h : p = []
  · subst h; rfl
  · rw [last_frs h]
    have e1 : (p.map fr).isEmpty = false := by cases p with
      | nil => exact absurd rfl h
      | cons c r => rfl
    have e2 : p.isEmpty = false := by cases p with
      | nil => exact absurd rfl h
      | cons c r => rfl
    unfold nmB
    rw [e1, e2, Bool.false_or, Bool.false_or]
    show decide ((p.getD (p.length - 1) 0).num ≠ 0) = _
    rw [decide_not]
theorem isPol_ex {d : PyData} (h : isPol d = true) : ∃ p, d = pol p ∧ Nm p := by
  cases d with
  | tuple ds =>
    have h' := h
    unfold isPol at h'
    obtain ⟨ps, rfl⟩ := allFr_ex (Bool.and_eq_true_iff.mp h').1
    have : isPol (pol ps) = true := h
    rw [isPol_pol] at this
    exact ⟨ps, rfl, nmB_iff.mp this⟩
  | _ => cases h
def Rispol (ss : List Sl) (Φ : PyData → Prop) : Prop := ∃ d : PyData, ss = [.dat d] ∧ Ln d ∧ Φ (.bool (isPol d))
theorem scispol : FnScope ["value", "factor"] ["value"] (defScope (top 17)) := ⟨rfl, rfl, rfl, by decide +kernel, rfl, by decide +kernel, by decide +kernel⟩
theorem fiispol {P : Program} {w : World} {K : PySem.W.Frag} {mg : Str → Option Value} {base : Heap} {f : Addr} {fd : FuncData} (F : Fun K "is_polynomial" "is_polynomial" (top 17) f fd) (hm : mg "is_polynomial" = some (.ref f)) (T : Txt mg) (U : TxL mg) (F1 : Fi P w K mg base 2 "is_fraction" (top 2) ["value"] Risfr) : Fi P w K mg base 3 "is_polynomial" (top 17) ["value"] Rispol := by
  have sc := scispol
  refine fi_ofS F sc hm (F.binds fun _ _ _ _ _ _ us hl => match us, hl with | [_], _ => rfl) (fun ss Φ ⟨_, e, _⟩ => by rw [e]; exact ⟨rfl, rfl⟩) ?_
  rintro X B ss Φ ⟨cdv, A, out, s, H, rfl⟩ S hr ⟨d, rfl, hn, hΦ⟩
  cases d with
  | tuple ds =>
    have hn := hn ds rfl
    walk_at "q0.v0"
    refine onF' rfl ?_
    walk_at "q0.v"
    refine ev_of_f (ef_lcT [1] S.c S.nd (own := [("factor", 1)]) rfl (egc_name 1 S.nd rfl) (by change BlkOk ["value", "factor"] (defScope (top 17)) _ _; exact ⟨rfl, by decide +kernel, by decide +kernel, by decide +kernel, by decide +kernel⟩) (Ξ := fun es => es = (ds.map isFr).map PyData.bool) ?_) ?_
    · walk_at "q0.v"
      refine ⟨_, rfl, fun k acc => acc = ((ds.map isFr).map PyData.bool).take k, rfl, ?_, fun acc e => tkN (by simp) e⟩
      rintro k d acc B' hB hk2 hd2 rfl
      intro s1 H1 C cl fp
      refine eve_same S fun S1 => ?_
      walk_at "q0.v"
      refine ⟨d, rfl, ?_⟩
      exact tkL (by simp [hd2]) (by simp; omega)
    rintro _ rfl
    refine ⟨_, rfl, ?_⟩
    cases hb : ds.all isFr with
    | false =>
      refine ⟨false, by rw [← hb]; simp [List.all_map], ?_⟩
      refine onT rfl ?_
      walk_at "q0.v"
      have e : isPol (.tuple ds) = false := by
        show (ds.all isFr && _) = false
        rw [hb]; rfl
      rw [e] at hΦ
      exact hΦ
    | true =>
      obtain ⟨p, rfl⟩ := allFr_ex hb
      refine ⟨true, by rw [← allFr_frs p]; simp [List.all_map], ?_⟩
      refine onF rfl (eb_nil ?_)
      have hΦ : Φ (.bool (isPol (pol p))) := hΦ
      rw [isPol_pol] at hΦ
      show EvB _ _ [some (.dat (pol p)), none] _ _
      walk_at "q0.v0"
      by_cases h0 : p = []
      · subst h0
        refine onT' rfl ?_
        exact hΦ
      refine onF' (eqNo h0) ?_
      have hn0 : 0 < p.length := List.length_pos_iff.mpr h0
      obtain ⟨c, hc⟩ : ∃ c, p[p.length - 1]? = some c := ⟨_, List.getElem?_eq_getElem (by omega)⟩
      have cD : p.getD (p.length - 1) 0 = c := by rw [List.getD_eq_getElem?_getD, hc]; rfl
      walk_at "q0.v"
      refine ix_tup (d := fr c) (by rw [atI_last (by rw [List.length_map]; exact hn0), List.length_map, List.getElem?_map, hc]; rfl) ?_
      walk_at "q0.v"
      rw [eqv_int]
      have e : (!decide (c.num = 0)) = nmB p := by
        unfold nmB
        rw [cD]
        have e2 : p.isEmpty = false := by cases p with
          | nil => exact absurd rfl h0
          | cons c r => rfl
        rw [e2, Bool.false_or]
      rw [← e] at hΦ
      exact hΦ
  | _ =>
    walk_at "q0.v0"
    refine onT' rfl (onT rfl ?_)
    walk_at "q0.v"
    exact hΦ
def Rmult (ss : List Sl) (Φ : PyData → Prop) : Prop := ∃ (p q : List Rat) (n k : Nat), ss = [.dat (pol p), .dat (pol q)] ∧ p.length ≤ n ∧ q.length ≤ n ∧ n ≤ 20 ∧ Pz k p ∧ Pz k q ∧ n * k ≤ 4000 ∧ k ≤ 4000 ∧ Φ (pol (multQ p q))
theorem scmult : FnScope ["p", "q", "one", "bottom", "other", "further"] ["p", "q"] (defScope (top 18)) := ⟨rfl, rfl, rfl, by decide +kernel, rfl, by decide +kernel, by decide +kernel⟩
theorem fimult {P : Program} {w : World} {K : PySem.W.Frag} {mg : Str → Option Value} {base : Heap} {f : Addr} {fd : FuncData} (F : Fun K "multiplied" "multiplied" (top 18) f fd) (hm : mg "multiplied" = some (.ref f)) (T : Txt mg) (U : TxL mg) (F1 : Fi P w K mg base 1 "row_of" (top 8) ["p"] Rrow) (F2 : Fi P w K mg base 1 "rows_multiplied" (top 14) ["one", "other"] Rmrow) (F3 : Fi P w K mg base 2 "polynomial_of" (top 9) ["row", "bottom"] Rpolof) : Fi P w K mg base 3 "multiplied" (top 18) ["p", "q"] Rmult := by
  have sc := scmult
  refine fi_ofS F sc hm (F.binds fun _ _ _ _ _ _ us hl => match us, hl with | [_, _], _ => rfl) (fun ss Φ ⟨_, _, _, _, e, _⟩ => by rw [e]; exact ⟨rfl, rfl⟩) ?_
  rintro X B ss Φ ⟨cdv, A, out, s, H, rfl⟩ S hr ⟨p, q, n, k, rfl, lp, lq, hn, hp, hq, hnk, hk, hΦ⟩
  unfold multQ at hΦ
  by_cases h1 : p = []
  · subst h1
    rw [if_pos (.inl rfl)] at hΦ
    walk_at "q0.v0"
    refine onT' rfl ?_
    walk_at "q0.v"
    refine onT rfl ?_
    walk_at "q0.v"
    exact hΦ
  by_cases h2 : q = []
  · subst h2
    walk_at "q0.v0"
    refine onF' (eqNo h1) ?_
    rw [if_pos (.inr rfl)] at hΦ
    walk_at "q0.v"
    refine onT rfl ?_
    walk_at "q0.v"
    exact hΦ
  rw [if_neg (fun z => z.elim h1 h2)] at hΦ
  walk_at "q0.v0"
  refine onF' (eqNo h1) ?_
  walk_at "q0.v"
  refine onF (eqNo h2) ?_
  have u1 := rowU_lt lp hp
  have u2 := rowU_lt lq hq
  have z1 := rowT_lz lp hp
  have z2 := rowT_lz lq hq
  have kn : k * n ≤ 4000 := by rw [Nat.mul_comm]; exact hnk
  have p1 := rowU_pos p
  have p2 := rowU_pos q
  walk_at "q0.v"
  refine ⟨p, n, k, rfl, lp, hp, by omega, by omega, ?_⟩
  walk_at "q0.v"
  refine ⟨q, n, k, rfl, lq, hq, by omega, by omega, ?_⟩
  walk_at "q0.v"
  have n1 : rowT p ≠ [] := fun e => h1 (List.length_eq_zero_iff.mp (by rw [← rowT_len p, e]; rfl))
  have n2 : rowT q ≠ [] := fun e => h2 (List.length_eq_zero_iff.mp (by rw [← rowT_len q, e]; rfl))
  refine ⟨rowT p, rowT q, n, _, rfl, n1, n2, by rw [rowT_len]; exact lp, by rw [rowT_len]; exact lq, hn, z1, z2, by omega, fun m hm hev hmz => ?_⟩
  walk_at "q0.v"
  any_goals ((with_reducible show CMulW _ _); exact w_mul u1 u2 (by omega))
  rw [rowT_len, rowT_len] at hm
  refine ⟨m, _, rfl, Int.mul_pos (by omega) (by omega), (mulm u1 u2).mono (by omega), by omega, ?_⟩
  have e : polQ m ((rowU p : Nat) * (rowU q : Nat) : Int) = pmul p q := by
    refine len_ext (by rw [polQ_len, pmul_len h1 h2]; exact hm) fun x => ?_
    rw [ev_polQ, hev, ev_rowT, ev_rowT, ev_pmul]
    have a1 := rowU_ne p
    have a2 := rowU_ne q
    push_cast
    grind
  rw [e]
  exact hΦ



def gcdG (g : Nat) (r : List Int) : Nat := r.foldl (fun g c => Nat.gcd g c.natAbs) g
theorem gcdG_dvd : ∀ (r : List Int) (g : Nat), gcdG g r ∣ g ∧ ∀ c ∈ r, ((gcdG g r : Nat) : Int) ∣ c
  | [], g => ⟨Nat.dvd_refl _, fun c h => nomatch h⟩
  | a :: r, g => by
    obtain ⟨h1, h2⟩ := gcdG_dvd r (Nat.gcd g a.natAbs)
    refine ⟨Nat.dvd_trans h1 (Nat.gcd_dvd_left _ _), fun c hc => ?_⟩
    rcases List.mem_cons.mp hc with rfl | hc
    · have := Nat.dvd_trans h1 (Nat.gcd_dvd_right g c.natAbs)
      exact Int.ofNat_dvd_left.mpr this
    · exact h2 c hc
theorem gcdG_pos {r : List Int} (h : ∃ c ∈ r, c ≠ 0) : 0 < gcdG 0 r := by
  obtain ⟨c, hc, h0⟩ := h
  refine Nat.pos_of_ne_zero fun z => h0 ?_
  have := (gcdG_dvd r 0).2 c hc
  rw [z] at this
  exact Int.zero_dvd.mp this
theorem gcdG_le {r : List Int} {a : Nat} (hz : Lz a r) (ha : ∃ c ∈ r, c ≠ 0) : Lt2 ((gcdG 0 r : Nat) : Int) a := by
  obtain ⟨c, hc, h0⟩ := ha
  have h1 := Int.ofNat_dvd_left.mp ((gcdG_dvd r 0).2 c hc)
  have h2 := Nat.le_of_dvd (by omega) h1
  have h3 : c.natAbs < 2 ^ a := hz c hc
  show ((gcdG 0 r : Nat) : Int).natAbs < 2 ^ a
  rw [Int.natAbs_natCast]
  omega
def plR (r : List Int) : List Int := r.map fun c => c / ((gcdG 0 r : Nat) : Int)
theorem plR_mul {r : List Int} (h : ∃ c ∈ r, c ≠ 0) : r = (plR r).map fun c => ((gcdG 0 r : Nat) : Int) * c := by
  unfold plR
  rw [List.map_map]
  conv => lhs; rw [← List.map_id r]
  refine List.map_congr_left fun c hc => ?_
  exact (Int.mul_ediv_cancel' ((gcdG_dvd r 0).2 c hc)).symm
theorem plR_lz {r : List Int} {a : Nat} (hz : Lz a r) : Lz a (plR r) := fun c hc => by
  obtain ⟨d, hd, rfl⟩ := List.mem_map.mp hc
  have h1 : d.natAbs < 2 ^ a := hz d hd
  show (d / ((gcdG 0 r : Nat) : Int)).natAbs < 2 ^ a
  have := Int.natAbs_ediv_le_natAbs d ((gcdG 0 r : Nat) : Int)
  omega
def Rplrow (ss : List Sl) (Φ : PyData → Prop) : Prop := ∃ (r : List Int) (a : Nat), ss = [.dat (intsD r)] ∧ r.length ≤ 100 ∧ Lz a r ∧ a ≤ 8000 ∧ (∃ c ∈ r, c ≠ 0) ∧ Φ (intsD (plR r))
theorem scplrow : FnScope ["row", "common", "factor"] ["row"] (defScope (top 15)) := ⟨rfl, rfl, rfl, by decide +kernel, rfl, by decide +kernel, by decide +kernel⟩
theorem fiplrow {P : Program} {w : World} {K : PySem.W.Frag} {mg : Str → Option Value} {base : Heap} {f : Addr} {fd : FuncData} (F : Fun K "plain_row" "plain_row" (top 15) f fd) (hm : mg "plain_row" = some (.ref f)) (T : Txt mg) (U : TxL mg) : Fi P w K mg base 1 "plain_row" (top 15) ["row"] Rplrow := by
  have sc := scplrow
  refine fi_ofS F sc hm (F.binds fun _ _ _ _ _ _ us hl => match us, hl with | [_], _ => rfl) (fun ss Φ ⟨_, _, e, _⟩ => by rw [e]; exact ⟨rfl, rfl⟩) ?_
  rintro X B ss Φ ⟨cdv, A, out, s, H, rfl⟩ S hr ⟨r, a, rfl, hl, hz, ha, hne, hΦ⟩
  refine eb_cons (es_st S (i := 1) (by walk_at "q0.at") (by first | exact .inl rfl | exact .inr rfl) (ev_int ?_))
  refine eb_cons (es_for S.po S.c (eg_nm S (i := 2) (by walk_at "q0.at") (by first | exact .inl rfl | exact .inr rfl)) ?_)
  walk_at "q0.v"
  refine ⟨_, rfl, fun j ρ => ∃ t, ρ = [some (.dat (intsD r)), some (.dat (.int (gcdG 0 (r.take j) : Nat))), t], ⟨none, rfl⟩, ?_, ?_⟩
  · rintro j y ρ hj hy ⟨t, rfl⟩
    obtain ⟨c, hc, rfl⟩ := ints_at hy
    refine eb_one (es_st S (i := 1) (by walk_at "q0.at") (by first | exact .inl rfl | exact .inr rfl) ?_)
    walk_at "q0.v"
    refine ⟨some (.dat (.int c)), ?_⟩
    rw [take_succ hc]
    unfold gcdG
    rw [List.foldl_append]
    rfl
  rintro ρ ⟨t, rfl⟩
  rw [List.length_map, List.take_length]
  have hp := gcdG_pos hne
  refine eb_one (es_ret ?_)
  refine ev_of_f (ef_lc [2] S.c S.nd (own := [("factor", 2)]) rfl (egc_name 2 S.nd rfl) (by change BlkOk ["row", "common", "factor"] (defScope (top 15)) _ _; exact ⟨rfl, by decide +kernel, by decide +kernel, by decide +kernel, by decide +kernel⟩) (Ξ := fun ds => ds = (plR r).map PyData.int) ?_) ?_
  · walk_at "q0.v"
    refine ⟨_, rfl, fun k acc => acc = ((plR r).map PyData.int).take k, rfl, ?_, fun acc e => tkN (by simp [plR]) e⟩
    rintro k d acc B' hB hk hd rfl
    obtain ⟨c, hc, rfl⟩ := ints_at hd
    intro s1 H1 C cl fp
    refine eve_same S fun S1 => ?_
    walk_at "q0.v"
    all_goals first
      | exact w_div (by omega) (gcdG_le hz hne) (by omega)
      | exact tkL (by simp [plR, hc]) (by simp [plR]; omega)
  rintro _ rfl
  exact hΦ

theorem powL_at {b : Int} {n i : Nat} (h : i < n) : (powL b n)[i]? = some (b ^ i) := by
  simp [powL, h]
theorem powL_back {b : Int} {n i : Nat} (h : i < n) : (powL b n).reverse[i]? = some (b ^ (n - 1 - i)) := by
  rw [List.getElem?_reverse (by rw [powL_len]; exact h), powL_len, powL_at (by omega)]
theorem ql_plR {r : List Int} (h : ∃ c ∈ r, c ≠ 0) (x : Rat) : ev (ql r) x = ((gcdG 0 r : Nat) : Rat) * ev (ql (plR r)) x := by
  have e : ql r = (ql (plR r)).map (((gcdG 0 r : Nat) : Rat) * ·) := by
    conv => lhs; rw [plR_mul h]
    unfold ql
    rw [List.map_map, List.map_map]
    refine List.map_congr_left fun c _ => ?_
    show (((gcdG 0 r : Nat) : Int) * c : Int) = (((gcdG 0 r : Nat) : Rat)) * (c : Rat)
    rw [Rat.intCast_mul]
    rfl
  rw [e, ev_smap]
theorem plR_ne {r : List Int} (h : ∃ c ∈ r, c ≠ 0) : ∃ c ∈ plR r, c ≠ 0 := by
  obtain ⟨c, hc, h0⟩ := h
  refine ⟨c / ((gcdG 0 r : Nat) : Int), List.mem_map_of_mem hc, fun z => h0 ?_⟩
  have := Int.mul_ediv_cancel' ((gcdG_dvd r 0).2 c hc)
  rw [z] at this
  omega
theorem ev_ne {r : List Int} {x : Rat} (h : ev (ql r) x ≠ 0) : ∃ c ∈ r, c ≠ 0 := by
  refine Classical.byContradiction fun n => h ?_
  have hz : ∀ c ∈ r, c = 0 := fun c hc => Classical.byContradiction fun z => n ⟨c, hc, z⟩
  have : ∀ r : List Int, (∀ c ∈ r, c = 0) → ev (ql r) x = 0 := by
    intro r
    induction r with
    | nil => intro _; rfl
    | cons c r ih =>
      intro hz
      show (c : Rat) + x * ev (ql r) x = 0
      rw [ih fun d hd => hz d (List.mem_cons_of_mem _ hd), hz c (List.mem_cons_self ..)]
      show ((0 : Int) : Rat) + x * 0 = 0
      rw [show ((0 : Int) : Rat) = 0 from rfl]
      grind
  exact this r hz
theorem ne_ev {r : List Int} (h : ∃ c ∈ r, c ≠ 0) : ∃ x, ev (ql r) x ≠ 0 := by
  refine Classical.byContradiction fun n => ?_
  obtain ⟨c, hc, h0⟩ := h
  have hz := zeros_of _ (ql r) (Nat.le_refl _) 0 (fun k _ => Classical.byContradiction fun z => n ⟨_, z⟩) (c : Rat) (List.mem_map_of_mem hc)
  exact h0 (by exact_mod_cast hz)
theorem plR_len (r : List Int) : (plR r).length = r.length := by simp [plR]
theorem num_ne {q : Rat} (h : q ≠ 0) : q.num ≠ 0 := fun z => h (Rat.num_eq_zero.mp z)
theorem sqz_eq {R W m V : List Int} {t b f : Int} (hb : 0 < b) (lw : W.length = R.length) (hw : ∀ i c, R[i]? = some c → W[i]? = some (c * b ^ (R.length - 1 - i))) (hR : R ≠ [])
    (lm : m.length = W.length) (hm : ∀ x : Rat, ev (ql m) x = ev (ql W) (x + t)) (lv : V.length = m.length) (hv : ∀ i c, m[i]? = some c → V[i]? = some (c * f ^ i)) (y : Rat) :
    ev (ql V) y = (b : Rat) ^ (R.length - 1) * ev (ql R) ((t : Rat) / b + (f : Rat) / b * y) := by
  have bn : (b : Rat) ≠ 0 := fun z => by
    have : b = 0 := by exact_mod_cast z
    omega
  obtain ⟨n, hn⟩ : ∃ n, R.length = n + 1 := ⟨R.length - 1, by have := List.length_pos_iff.mpr hR; omega⟩
  have e1 := ev_up f m V 1 lv (fun i c h => by rw [Int.one_mul]; exact hv i c h) y
  have e2 := ev_dn b bn R W lw hw ((f : Rat) * y + t)
  rw [hn, Rat.pow_succ] at e2
  rw [e1, hm, hn]
  have e3 : ((f : Rat) * y + t) / b = (t : Rat) / b + (f : Rat) / b * y := by grind
  rw [e3] at e2
  have e4 : (b : Rat) * ev (ql W) ((f : Rat) * y + t) = b * ((b : Rat) ^ n * ev (ql R) ((t : Rat) / b + (f : Rat) / b * y)) := by grind
  show ((1 : Int) : Rat) * _ = _
  rw [show ((1 : Int) : Rat) = 1 from rfl, show n + 1 - 1 = n from rfl]
  grind
def Rsqz (ss : List Sl) (Φ : PyData → Prop) : Prop := ∃ (R : List Int) (q wd : Rat) (n k a c : Nat), ss = [.dat (intsD R), .dat (fr q), .dat (fr wd)] ∧ R ≠ [] ∧ R.length ≤ n ∧ n ≤ 8 ∧ Lz k R ∧ Sz a q ∧ Sz c wd ∧ k ≤ 400 ∧ a + c ≤ 82 ∧ wd ≠ 0 ∧ (∃ x ∈ R, x ≠ 0) ∧
  ∀ v : List Int, v.length = R.length → (∃ κ : Rat, 0 < κ ∧ ∀ y, ev (ql v) y = κ * ev (ql R) (q + wd * y)) → Lz 8000 v → Φ (intsD v)
theorem scsqz : FnScope ["row", "low", "width", "top", "bottom", "further", "under", "powers", "moved", "factor", "power"] ["row", "low", "width"] (defScope (top 11)) := ⟨rfl, rfl, rfl, by decide +kernel, rfl, by decide +kernel, by decide +kernel⟩
theorem fisqz {P : Program} {w : World} {K : PySem.W.Frag} {mg : Str → Option Value} {base : Heap} {f : Addr} {fd : FuncData} (F : Fun K "row_squeezed" "row_squeezed" (top 11) f fd) (hm : mg "row_squeezed" = some (.ref f)) (T : Txt mg) (U : TxL mg) (F1 : Fi P w K mg base 1 "powers_of" (top 10) ["base", "many"] Rpowers) (F2 : Fi P w K mg base 1 "row_shifted" (top 13) ["row", "by"] Rshrow) (F3 : Fi P w K mg base 1 "plain_row" (top 15) ["row"] Rplrow) : Fi P w K mg base 2 "row_squeezed" (top 11) ["row", "low", "width"] Rsqz := by
  have sc := scsqz
  refine fi_ofS F sc hm (F.binds fun _ _ _ _ _ _ us hl => match us, hl with | [_, _, _], _ => rfl) (fun ss Φ ⟨_, _, _, _, _, _, _, e, _⟩ => by rw [e]; exact ⟨rfl, rfl⟩) ?_
  rintro X B ss Φ ⟨cdv, A, out, s, H, rfl⟩ S hr ⟨R, q, wd, n, k, a, c, rfl, hR, lR, hn, zR, hq, hw, hk, hac, hw0, hne, hΦ⟩
  have l0 := List.length_pos_iff.mpr hR
  have dq := den_pos q
  have dw := den_pos wd
  obtain ⟨tt, htt⟩ : ∃ tt : Int, tt = q.num * (wd.den : Int) := ⟨_, rfl⟩
  obtain ⟨ff, hff⟩ : ∃ ff : Int, ff = wd.num * (q.den : Int) := ⟨_, rfl⟩
  obtain ⟨bb, hbb⟩ : ∃ bb : Int, bb = (q.den : Int) * (wd.den : Int) := ⟨_, rfl⟩
  have zt : Lt2 tt 82 := by rw [htt]; exact (mulm hq.nn hw.dd).mono (by omega)
  have zf : Lt2 ff 82 := by rw [hff]; exact (mulm hw.nn hq.dd).mono (by omega)
  have zb : Lt2 bb 82 := by rw [hbb]; exact (mulm hq.dd hw.dd).mono (by omega)
  have pb : 0 < bb := by rw [hbb]; exact Int.mul_pos dq dw
  have hf0 : ff ≠ 0 := by rw [hff]; exact Int.mul_ne_zero (num_ne hw0) (by omega)
  have eq1 : (tt : Rat) / bb = q := by
    rw [htt, hbb]
    have h1 : (q.den : Rat) ≠ 0 := by exact_mod_cast q.den_nz
    have h2 : (wd.den : Rat) ≠ 0 := by exact_mod_cast wd.den_nz
    have e1 := num_den q
    push_cast
    rw [e1]
    grind
  have eq2 : (ff : Rat) / bb = wd := by
    rw [hff, hbb]
    have h1 : (q.den : Rat) ≠ 0 := by exact_mod_cast q.den_nz
    have h2 : (wd.den : Rat) ≠ 0 := by exact_mod_cast wd.den_nz
    have e1 := num_den wd
    push_cast
    rw [e1]
    grind
  have zp : ∀ (b : Int), Lt2 b 82 → ∀ i, i < R.length → Lt2 (b ^ i) 657 := fun b h i hi => (lt2_pow h i).mono (by have := Nat.mul_le_mul_left 82 (show i ≤ 8 by omega); omega)
  walk_at "q0.v0"
  any_goals ((with_reducible show CMulW _ _); first | exact w_mul hq.nn hw.dd (by omega) | exact w_mul hw.nn hq.dd (by omega) | exact w_mul hq.dd hw.dd (by omega))
  rw [← htt, ← hff, ← hbb]
  refine ⟨bb, R.length, by rw [List.length_map], zb.mono (by decide), by omega, ?_⟩
  show EvB _ _ [some (.dat (intsD R)), some (.dat (fr q)), some (.dat (fr wd)), some (.dat (.int tt)), some (.dat (.int bb)), some (.dat (.int ff)), some (.dat (.int (wd.den : Int))), some (.dat (intsD (powL bb R.length))), none, none, none] _ _
  walk_at "q0.v"
  obtain ⟨W, hW⟩ : ∃ W : List Int, W = List.zipWith (· * ·) R (powL bb R.length).reverse := ⟨_, rfl⟩
  have lW : W.length = R.length := by rw [hW, List.length_zipWith, List.length_reverse, powL_len, Nat.min_self]
  have atW : ∀ i x, R[i]? = some x → W[i]? = some (x * bb ^ (R.length - 1 - i)) := fun i x hx => by
    have : i < R.length := (List.getElem?_eq_some_iff.mp hx).1
    rw [hW, List.getElem?_zipWith, hx, powL_back this]
  have zW : Lz 1057 W := fun t ht => by
    obtain ⟨i, hi, e⟩ := List.getElem_of_mem ht
    have hx : R[i]? = some (R[i]'(by omega)) := List.getElem?_eq_getElem (by omega)
    have := atW i _ hx
    rw [List.getElem?_eq_getElem hi, e] at this
    rw [Option.some.inj this]
    exact (mulm (zR.get hx) (zp bb zb _ (by omega))).mono (by omega)
  refine ev_of_f (ef_lcZ [9, 10] S.c S.nd (own := [("factor", 9), ("power", 10)]) rfl rfl U.zip (egc_tup (n := 2) S.c (egcs_cons 9 S.nd rfl (egcs_cons 10 S.nd rfl egcs_nil))) (by change BlkOk ["row", "low", "width", "top", "bottom", "further", "under", "powers", "moved", "factor", "power"] (defScope (top 11)) _ _; exact ⟨rfl, by decide +kernel, by decide +kernel, by decide +kernel, by decide +kernel⟩) (Ξ := fun ds => ds = W.map PyData.int) ?_) ?_
  · walk_at "q0.v"
    refine ⟨_, rfl, ?_⟩
    rw [← List.map_reverse]
    refine ⟨_, _, .inl ⟨rfl, rfl⟩, fun j acc => acc = (W.map PyData.int).take j, rfl, ?_, fun acc e => tkN (by rw [List.length_map, List.length_map, List.length_map, List.length_reverse, powL_len, lW, Nat.min_self]) e⟩
    rintro j d acc B' hB hj ⟨z, w2, hz, hw, rfl⟩ rfl
    obtain ⟨x, hx, rfl⟩ := ints_at hz
    obtain ⟨y, hy, rfl⟩ := ints_at hw
    have jl : j < R.length := (List.getElem?_eq_some_iff.mp hx).1
    have ey : y = bb ^ (R.length - 1 - j) := by
      rw [powL_back jl] at hy
      exact (Option.some.inj hy).symm
    have zx := zR.get hx
    have zy := zp bb zb (R.length - 1 - j) (by omega)
    rw [← ey] at zy
    have ax := atW j x hx
    rw [← ey] at ax
    refine ⟨_, rfl, rfl, _, _, rfl, _, _, rfl, rfl, ?_⟩
    intro s1 H1 C cl fp
    refine eve_same S fun S1 => ?_
    walk_at "q0.v"
    any_goals ((with_reducible show CMulW _ _); exact w_mul zx zy (by omega))
    exact tkL (by rw [List.getElem?_map, ax]; rfl) (by rw [List.length_map]; omega)
  rintro _ rfl
  walk_at "q0.v"
  refine ⟨W, tt, 8, 1057, 82, rfl, by omega, by decide, zW, zt, by decide, by decide, fun m hm hev hmz => ?_⟩
  show EvB _ _ [some (.dat (intsD R)), some (.dat (fr q)), some (.dat (fr wd)), some (.dat (.int tt)), some (.dat (.int bb)), some (.dat (.int ff)), some (.dat (.int (wd.den : Int))), some (.dat (intsD (powL bb R.length))), some (.dat (intsD m)), none, none] _ _
  walk_at "q0.v"
  obtain ⟨V, hV⟩ : ∃ V : List Int, V = List.zipWith (· * ·) m (powL ff R.length) := ⟨_, rfl⟩
  have lV : V.length = R.length := by rw [hV, List.length_zipWith, powL_len, hm, lW, Nat.min_self]
  have atV : ∀ i x, m[i]? = some x → V[i]? = some (x * ff ^ i) := fun i x hx => by
    have : i < R.length := by rw [← lW, ← hm]; exact (List.getElem?_eq_some_iff.mp hx).1
    rw [hV, List.getElem?_zipWith, hx, powL_at this]
  have zm : Lz 6369 m := lz_mono hmz (by decide)
  have zV : Lz 7026 V := fun t ht => by
    obtain ⟨i, hi, e⟩ := List.getElem_of_mem ht
    have hx : m[i]? = some (m[i]'(by omega)) := List.getElem?_eq_getElem (by omega)
    have := atV i _ hx
    rw [List.getElem?_eq_getElem hi, e] at this
    rw [Option.some.inj this]
    exact (mulm (zm.get hx) (zp ff zf _ (by omega))).mono (by omega)
  have evV : ∀ y, ev (ql V) y = (bb : Rat) ^ (R.length - 1) * ev (ql R) (q + wd * y) := fun y => by
    rw [sqz_eq pb lW atW hR hm hev (by rw [lV, hm, lW]) atV y, eq1, eq2]
  have pbq : (0 : Rat) < (bb : Rat) := by exact_mod_cast pb
  have pbn : (0 : Rat) < (bb : Rat) ^ (R.length - 1) := Rat.pow_pos pbq
  have neV : ∃ x ∈ V, x ≠ 0 := by
    obtain ⟨z, hz⟩ := ne_ev hne
    refine ev_ne (x := (z - q) / wd) ?_
    rw [evV]
    have : q + wd * ((z - q) / wd) = z := by grind
    rw [this]
    intro h
    rcases Rat.mul_eq_zero.mp h with h | h
    · rw [h] at pbn
      exact absurd pbn (by decide)
    · exact hz h
  refine ev_of_f (ef_lcZ [9, 10] S.c S.nd (own := [("factor", 9), ("power", 10)]) rfl rfl U.zip (egc_tup (n := 2) S.c (egcs_cons 9 S.nd rfl (egcs_cons 10 S.nd rfl egcs_nil))) (by change BlkOk ["row", "low", "width", "top", "bottom", "further", "under", "powers", "moved", "factor", "power"] (defScope (top 11)) _ _; exact ⟨rfl, by decide +kernel, by decide +kernel, by decide +kernel, by decide +kernel⟩) (Ξ := fun ds => ds = V.map PyData.int) ?_) ?_
  · walk_at "q0.v"
    refine ⟨ff, R.length, by rw [List.length_map], zf.mono (by decide), by omega, ?_⟩
    refine ⟨_, _, .inl ⟨rfl, rfl⟩, fun j acc => acc = (V.map PyData.int).take j, rfl, ?_, fun acc e => tkN (by rw [List.length_map, List.length_map, List.length_map, powL_len, hm, lW, lV, Nat.min_self]) e⟩
    rintro j d acc B' hB hj ⟨z, w2, hz, hw, rfl⟩ rfl
    obtain ⟨x, hx, rfl⟩ := ints_at hz
    obtain ⟨y, hy, rfl⟩ := ints_at hw
    have jl : j < R.length := by rw [← lW, ← hm]; exact (List.getElem?_eq_some_iff.mp hx).1
    have ey : y = ff ^ j := by
      rw [powL_at jl] at hy
      exact (Option.some.inj hy).symm
    have zx := zm.get hx
    have zy := zp ff zf j jl
    rw [← ey] at zy
    have ax := atV j x hx
    rw [← ey] at ax
    refine ⟨_, rfl, rfl, _, _, rfl, _, _, rfl, rfl, ?_⟩
    intro s1 H1 C cl fp
    refine eve_same S fun S1 => ?_
    walk_at "q0.v"
    all_goals first
      | ((with_reducible show CMulW _ _); exact w_mul zx zy (by omega))
      | exact tkL (by rw [List.getElem?_map, ax]; rfl) (by rw [List.length_map]; omega)
  rintro _ rfl
  walk_at "q0.v"
  have gp : (0 : Rat) < ((gcdG 0 V : Nat) : Rat) := by exact_mod_cast gcdG_pos neV
  refine ⟨V, 7026, rfl, by omega, zV, by decide, neV, hΦ (plR V) (by rw [plR_len]; exact lV) ⟨(bb : Rat) ^ (R.length - 1) / ((gcdG 0 V : Nat) : Rat), by rw [Rat.div_def]; exact Rat.mul_pos pbn (Rat.inv_pos.mpr gp), fun y => ?_⟩ (lz_mono (plR_lz zV) (by decide))⟩
  have h1 := ql_plR neV y
  rw [evV] at h1
  grind

def Rendrow (ss : List Sl) (Φ : PyData → Prop) : Prop := ∃ v : List Int, ss = [.dat (intsD v)] ∧ v.length ≤ 8 ∧ Lz 8000 v ∧ ∀ E : List Int, E.length = v.length → (∀ x, ev (ql E) x = ev (ql v.reverse) (x + 1)) → Φ (intsD E)
theorem scendrow : FnScope ["row"] ["row"] (defScope (top 12)) := ⟨rfl, rfl, rfl, by decide +kernel, rfl, by decide +kernel, by decide +kernel⟩
theorem fiendrow {P : Program} {w : World} {K : PySem.W.Frag} {mg : Str → Option Value} {base : Heap} {f : Addr} {fd : FuncData} (F : Fun K "end_row" "end_row" (top 12) f fd) (hm : mg "end_row" = some (.ref f)) (T : Txt mg) (U : TxL mg) (F1 : Fi P w K mg base 1 "row_shifted" (top 13) ["row", "by"] Rshrow) : Fi P w K mg base 2 "end_row" (top 12) ["row"] Rendrow := by
  have sc := scendrow
  refine fi_ofS F sc hm (F.binds fun _ _ _ _ _ _ us hl => match us, hl with | [_], _ => rfl) (fun ss Φ ⟨_, e, _⟩ => by rw [e]; exact ⟨rfl, rfl⟩) ?_
  rintro X B ss Φ ⟨cdv, A, out, s, H, rfl⟩ S hr ⟨v, rfl, lv, zv, hΦ⟩
  walk_at "q0.v0"
  refine ⟨_, rfl, ?_⟩
  rw [← List.map_reverse]
  walk_at "q0.v"
  refine ⟨v.reverse, 1, 8, 8000, 1, rfl, by rw [List.length_reverse]; exact lv, by decide, fun t ht => zv t (List.mem_reverse.mp ht), by unfold Lt2; decide, by decide, by decide, fun m hm hev _ => ?_⟩
  walk_at "q0.v"
  exact hΦ m (by rw [hm, List.length_reverse]) hev
/-! items -/
theorem rsgn_lt0 {p q : Rat} : rsgn (p - q) < 0 ↔ p < q := by
  have e : rsgn (p - q) = -1 ↔ (p - q).num < 0 := by unfold rsgn sgn; split <;> (try split) <;> omega
  have b : rsgn (p - q) = 0 ∨ rsgn (p - q) = 1 ∨ rsgn (p - q) = -1 := by unfold rsgn sgn; split <;> (try split) <;> simp
  have f : (p - q).num < 0 ↔ p < q := by rw [num_neg]; constructor <;> intro h <;> grind
  rw [← f, ← e]
  omega
theorem rsgn_ge {p q : Rat} : decide (0 ≤ rsgn (p - q)) = !decide (p < q) := by
  rw [← decide_not]
  refine decide_eq_decide.mpr ?_
  rw [← rsgn_lt0]
  omega
def frOf : PyData → Rat
  | .tuple [.int t, .int u] => (t : Rat) / (u : Rat)
  | _ => 0
theorem frOf_fr (q : Rat) : frOf (fr q) = q := by
  show ((q.num : Int) : Rat) / ((q.den : Int) : Rat) = q
  exact (num_div q).symm
def isItm : PyData → Bool
  | .tuple [b, e, s, r] => isFr b && (isFr e && (decide (frOf b < frOf e) && (isPol s && isPol r)))
  | _ => false
def FrK (k : Nat) (d : PyData) : Prop := ∀ t u : Int, d = .tuple [.int t, .int u] → Lt2 t k ∧ Lt2 u k
abbrev FrC (d : PyData) : Prop := FrK 26 d
def PlC (d : PyData) : Prop := ∀ ds, d = .tuple ds → ds.length ≤ 8 ∧ ∀ x ∈ ds, FrK 40 x
theorem FrK.sz {k : Nat} {q : Rat} (h : FrK k (fr q)) : Sz k q := by
  obtain ⟨h1, h2⟩ := h q.num q.den rfl
  exact ⟨h1, by unfold Lt2 at h2; simpa using h2⟩
theorem FrK.of {k : Nat} {q : Rat} (h : Sz k q) : FrK k (fr q) := fun t u e => by
  unfold fr at e
  injection e with e
  injection e with e1 e
  injection e with e2 _
  injection e1 with e1
  injection e2 with e2
  subst e1 e2
  exact ⟨h.nn, h.dd⟩
theorem PlC.ln {d : PyData} (h : PlC d) : Ln d := fun ds e => Nat.le_trans (h ds e).1 (by decide)
theorem PlC.pl {p : List Rat} (h : PlC (pol p)) : p.length ≤ 8 ∧ Pz 40 p := by
  obtain ⟨h1, h2⟩ := h _ rfl
  exact ⟨by simpa using h1, fun q hq => (h2 (fr q) (List.mem_map_of_mem hq)).sz⟩
theorem PlC.of {p : List Rat} (h1 : p.length ≤ 8) (h2 : Pz 40 p) : PlC (pol p) := fun ds e => by
  unfold pol at e
  injection e with e
  subst e
  refine ⟨by simpa using h1, fun x hx => ?_⟩
  obtain ⟨q, hq, rfl⟩ := List.mem_map.mp hx
  exact FrK.of (h2 q hq)
def ItmC (d : PyData) : Prop := ∀ b e s r, d = .tuple [b, e, s, r] → FrC b ∧ FrC e ∧ PlC s ∧ PlC r
theorem isItm_len {ds : List PyData} (h : ds.length ≠ 4) : isItm (.tuple ds) = false := by
  match ds, h with
  | [], _ => rfl
  | [_], _ => rfl
  | [_, _], _ => rfl
  | [_, _, _], _ => rfl
  | [_, _, _, _], h => exact absurd rfl h
  | _ :: _ :: _ :: _ :: _ :: _, _ => rfl
structure It where
  b : Rat
  e : Rat
  s : List Rat
  r : List Rat
def itD (x : It) : PyData := .tuple [fr x.b, fr x.e, pol x.s, pol x.r]
structure ItOk (x : It) : Prop where
  lt : x.b < x.e
  ns : Nm x.s
  nr : Nm x.r
  zb : Sz 26 x.b
  ze : Sz 26 x.e
  ls : x.s.length ≤ 8
  lr : x.r.length ≤ 8
  zs : Pz 40 x.s
  zr : Pz 40 x.r
theorem isItm_ex {d : PyData} (h : isItm d = true) (c : ItmC d) : ∃ x, d = itD x ∧ ItOk x := by
  unfold isItm at h
  split at h
  · rename_i b e s r
    obtain ⟨cb, ce, cs, cr⟩ := c b e s r rfl
    simp only [Bool.and_eq_true] at h
    obtain ⟨h1, h2, h3, h4, h5⟩ := h
    obtain ⟨qb, rfl⟩ := isFr_ex h1
    obtain ⟨qe, rfl⟩ := isFr_ex h2
    obtain ⟨ps, rfl, ns⟩ := isPol_ex h4
    obtain ⟨pr, rfl, nr⟩ := isPol_ex h5
    rw [frOf_fr, frOf_fr] at h3
    exact ⟨⟨qb, qe, ps, pr⟩, rfl, of_decide_eq_true h3, ns, nr, cb.sz, ce.sz, cs.pl.1, cr.pl.1, cs.pl.2, cr.pl.2⟩
  · cases h
theorem isItm_it {x : It} (h : ItOk x) : isItm (itD x) = true := by
  show (isFr (fr x.b) && (isFr (fr x.e) && (decide (frOf (fr x.b) < frOf (fr x.e)) && (isPol (pol x.s) && isPol (pol x.r))))) = true
  rw [isFr_fr, isFr_fr, frOf_fr, frOf_fr, decide_eq_true h.lt, isPol_pol, isPol_pol, nmB_iff.mpr h.ns, nmB_iff.mpr h.nr]
  rfl
theorem its_ex : ∀ {ds : List PyData}, ds.all isItm = true → (∀ d ∈ ds, ItmC d) → ∃ xs : List It, ds = xs.map itD ∧ ∀ x ∈ xs, ItOk x
  | [], _, _ => ⟨[], rfl, fun x h => nomatch h⟩
  | d :: ds, h, c => by
    rw [List.all_cons, Bool.and_eq_true] at h
    obtain ⟨x, rfl, hx⟩ := isItm_ex h.1 (c d (List.mem_cons_self ..))
    obtain ⟨xs, rfl, hxs⟩ := its_ex h.2 fun e he => c e (List.mem_cons_of_mem _ he)
    exact ⟨x :: xs, rfl, fun y hy => by
      rcases List.mem_cons.mp hy with rfl | hy
      · exact hx
      · exact hxs y hy⟩
def Risitm (ss : List Sl) (Φ : PyData → Prop) : Prop := ∃ d : PyData, ss = [.dat d] ∧ ItmC d ∧ Φ (.bool (isItm d))
theorem scisitm : FnScope ["value", "begin", "end", "s", "r"] ["value"] (defScope (top 21)) := ⟨rfl, rfl, rfl, by decide +kernel, rfl, by decide +kernel, by decide +kernel⟩
theorem fiisitm {P : Program} {w : World} {K : PySem.W.Frag} {mg : Str → Option Value} {base : Heap} {f : Addr} {fd : FuncData} (F : Fun K "_is_item" "_is_item" (top 21) f fd) (hm : mg "_is_item" = some (.ref f)) (T : Txt mg) (U : TxL mg) (F1 : Fi P w K mg base 2 "is_fraction" (top 2) ["value"] Risfr) (F2 : Fi P w K mg base 1 "order" (top 6) ["f", "g"] Rorder) (F3 : Fi P w K mg base 3 "is_polynomial" (top 17) ["value"] Rispol) : Fi P w K mg base 4 "_is_item" (top 21) ["value"] Risitm := by
  have sc := scisitm
  refine fi_ofS F sc hm (F.binds fun _ _ _ _ _ _ us hl => match us, hl with | [_], _ => rfl) (fun ss Φ ⟨_, e, _⟩ => by rw [e]; exact ⟨rfl, rfl⟩) ?_
  rintro X B ss Φ ⟨cdv, A, out, s, H, rfl⟩ S hr ⟨d, rfl, hc, hΦ⟩
  cases d with
  | tuple ds =>
    walk_at "q0.v0"
    refine onF' rfl ?_
    walk_at "q0.v"
    rw [eqv_int]
    by_cases h4 : ds.length = 4
    · refine onF (by simp [h4]) ?_
      match ds, h4 with
      | [b, e, s, r], _ =>
        obtain ⟨cb, ce, cs, cr⟩ := hc b e s r rfl
        have e0 : isItm (.tuple [b, e, s, r]) = (isFr b && (isFr e && (decide (frOf b < frOf e) && (isPol s && isPol r)))) := rfl
        rw [e0] at hΦ
        refine eb_nil ?_
        refine eb_cons (es_asg (eg_tup (n := 4) S.c (egs_cons (eg_nm S (i := 1) (by walk_at "q0.at") (.inl rfl)) (egs_cons (eg_nm S (i := 2) (by walk_at "q0.at") (.inl rfl)) (egs_cons (eg_nm S (i := 3) (by walk_at "q0.at") (.inl rfl)) (egs_cons (eg_nm S (i := 4) (by walk_at "q0.at") (.inl rfl)) egs_nil))))) ?_)
        walk_at "q0.v"
        refine ⟨_, _, rfl, _, _, rfl, _, _, rfl, _, _, rfl, rfl, ?_⟩
        walk_at "q0.v0"
        refine ⟨b, rfl, ?_⟩
        cases hb : isFr b with
        | false =>
          rw [hb] at hΦ
          refine ⟨false, rfl, onT' rfl (onT rfl ?_)⟩
          walk_at "q0.v"
          exact hΦ
        | true =>
          rw [hb, Bool.true_and] at hΦ
          refine ⟨true, rfl, onF' rfl ?_⟩
          walk_at "q0.v"
          refine ⟨e, rfl, ?_⟩
          cases he : isFr e with
          | false =>
            rw [he] at hΦ
            refine ⟨false, rfl, onT' rfl (onT rfl ?_)⟩
            walk_at "q0.v"
            exact hΦ
          | true =>
            rw [he, Bool.true_and] at hΦ
            refine ⟨true, rfl, onF' rfl ?_⟩
            obtain ⟨qb, rfl⟩ := isFr_ex hb
            obtain ⟨qe, rfl⟩ := isFr_ex he
            rw [frOf_fr, frOf_fr] at hΦ
            walk_at "q0.v"
            refine ⟨qb, qe, rfl, cb.sz.mono (by decide), ce.sz.mono (by decide), ?_⟩
            walk_at "q0.v"
            rw [rsgn_ge]
            by_cases hl : qb < qe
            · rw [decide_eq_true hl, Bool.true_and] at hΦ
              refine onF (by rw [decide_eq_true hl]; rfl) (eb_nil ?_)
              walk_at "q0.v0"
              refine ⟨s, rfl, cs.ln, ?_⟩
              cases hs : isPol s with
              | false =>
                rw [hs] at hΦ
                exact ⟨false, rfl, fun z => (nomatch z), fun _ => hΦ⟩
              | true =>
                rw [hs, Bool.true_and] at hΦ
                refine ⟨true, rfl, fun _ => ?_, fun z => (nomatch z)⟩
                walk_at "q0.v"
                exact ⟨r, rfl, cr.ln, hΦ⟩
            · rw [decide_eq_false hl] at hΦ
              refine onT (by rw [decide_eq_false hl]; rfl) ?_
              walk_at "q0.v"
              exact hΦ
    · refine onT (by simp; omega) ?_
      walk_at "q0.v"
      rw [isItm_len h4] at hΦ
      exact hΦ
  | _ =>
    walk_at "q0.v0"
    refine onT' rfl (onT rfl ?_)
    walk_at "q0.v"
    exact hΦ

theorem pol_inj {p q : List Rat} (h : pol p = pol q) : p = q := by
  unfold pol at h
  injection h with h
  induction p generalizing q with
  | nil =>
    cases q with
    | nil => rfl
    | cons a q => cases h
  | cons a p ih =>
    cases q with
    | nil => cases h
    | cons b q =>
      rw [List.map_cons, List.map_cons] at h
      injection h with h1 h2
      rw [fr_inj h1, ih h2]
theorem eqvI (a b : Int) : PyData.eqv (.int a) (.int b) = decide (a = b) := eqv_int
theorem eqv_fr (p q : Rat) : PyData.eqv (fr p) (fr q) = decide (p = q) := by
  have e : PyData.eqv (fr p) (fr q) = (decide (p.num = q.num) && (decide ((p.den : Int) = (q.den : Int)) && true)) := rfl
  rw [e, Bool.and_true, ← Bool.decide_and]
  refine decide_eq_decide.mpr ⟨fun ⟨h1, h2⟩ => Rat.ext h1 (by exact_mod_cast h2), fun h => by subst h; exact ⟨rfl, rfl⟩⟩
theorem eqv_frs : ∀ p q : List Rat, PyData.eqvAll (p.map fr) (q.map fr) = decide (p = q)
  | [], [] => rfl
  | [], _ :: _ => rfl
  | _ :: _, [] => rfl
  | a :: p, b :: q => by
    have e : PyData.eqvAll ((a :: p).map fr) ((b :: q).map fr) = (PyData.eqv (fr a) (fr b) && PyData.eqvAll (p.map fr) (q.map fr)) := rfl
    rw [e, eqv_fr, eqv_frs p q, ← Bool.decide_and]
    exact decide_eq_decide.mpr (by simp)
theorem eqv_pol (p q : List Rat) : PyData.eqv (pol p) (pol q) = decide (p = q) := by
  have e : PyData.eqv (pol p) (pol q) = PyData.eqvAll (p.map fr) (q.map fr) := rfl
  rw [e, eqv_frs]
def mkB (s r P : List Rat) : Bool := decide (multQ (multQ s s) r = P)
theorem mkB_nil {s r P : List Rat} (h : s = [] ∨ r = []) : mkB s r P = P.isEmpty := by
  unfold mkB
  have e : multQ (multQ s s) r = [] := by
    unfold multQ
    rcases h with h | h
    · rw [if_pos (.inl (if_pos (.inl h)))]
    · rw [if_pos (.inr h)]
  rw [e]
  cases P <;> rfl
theorem multQ_len' {s r : List Rat} (h1 : s ≠ []) (h2 : r ≠ []) : (multQ s r).length = s.length + r.length - 1 ∧ multQ s r ≠ [] := by
  have e : multQ s r = pmul s r := by unfold multQ; rw [if_neg (fun z => z.elim h1 h2)]
  have l := pmul_len h1 h2
  have a1 := List.length_pos_iff.mpr h1
  have a2 := List.length_pos_iff.mpr h2
  rw [e]
  exact ⟨l, List.length_pos_iff.mp (by omega)⟩
def Rmakes (ss : List Sl) (Φ : PyData → Prop) : Prop := ∃ s r P : List Rat, ss = [.dat (pol s), .dat (pol r), .dat (pol P)] ∧ s.length ≤ 8 ∧ r.length ≤ 8 ∧ P.length ≤ 8 ∧ Pz 40 s ∧ Pz 40 r ∧ Φ (.bool (mkB s r P))
section
local macro_rules | `(tactic| walk_at "q0.shp") => `(tactic| first | exact shapedPol _ | exact shFr _ | rfl | decide +kernel)
theorem scmakes : FnScope ["s", "r", "polynomial"] ["s", "r", "polynomial"] (defScope (top 22)) := ⟨rfl, rfl, rfl, by decide +kernel, rfl, by decide +kernel, by decide +kernel⟩
theorem fimakes {P : Program} {w : World} {K : PySem.W.Frag} {mg : Str → Option Value} {base : Heap} {f : Addr} {fd : FuncData} (F : Fun K "_makes" "_makes" (top 22) f fd) (hm : mg "_makes" = some (.ref f)) (T : Txt mg) (U : TxL mg) (F1 : Fi P w K mg base 3 "multiplied" (top 18) ["p", "q"] Rmult) : Fi P w K mg base 4 "_makes" (top 22) ["s", "r", "polynomial"] Rmakes := by
  have sc := scmakes
  refine fi_ofS F sc hm (F.binds fun _ _ _ _ _ _ us hl => match us, hl with | [_, _, _], _ => rfl) (fun ss Φ ⟨_, _, _, e, _⟩ => by rw [e]; exact ⟨rfl, rfl⟩) ?_
  rintro X B ss Φ ⟨cdv, A, out, s, H, rfl⟩ S hr ⟨s', r, P, rfl, ls, lr, lP, zs, zr, hΦ⟩
  by_cases h1 : s' = []
  · rw [mkB_nil (.inl h1)] at hΦ
    walk_at "q0.v0"
    refine onT' (by rw [h1]; rfl) (onT rfl ?_)
    walk_at "q0.v"
    rw [eqvPol0]
    exact hΦ
  walk_at "q0.v0"
  refine onF' (eqNo h1) ?_
  walk_at "q0.v"
  by_cases h2 : r = []
  · rw [mkB_nil (.inr h2)] at hΦ
    refine onT (by rw [h2]; rfl) ?_
    walk_at "q0.v"
    rw [eqvPol0]
    exact hΦ
  have p1 := List.length_pos_iff.mpr h1
  have p2 := List.length_pos_iff.mpr h2
  have len64 : Lt2 (((s'.map fr).length : Nat) : Int) 64 := lit (by rw [List.length_map]; omega) (by decide)
  have two64 : Lt2 2 64 := lit (by decide) (by decide)
  refine onF (eqNo h2) (eb_nil ?_)
  walk_at "q0.v0"
  rw [eqv_int]
  obtain ⟨l1, n1⟩ := multQ_len' h1 h1
  obtain ⟨l2, _⟩ := multQ_len' n1 h2
  by_cases h3 : 2 * s'.length + r.length = P.length + 2
  · refine onF (by rw [decide_eq_true]; · rfl
                   · simp only [List.length_map]; omega) (eb_nil ?_)
    walk_at "q0.v0"
    refine ⟨s', s', 8, 40, rfl, ls, ls, by decide, zs, zs, by decide, by decide, ?_⟩
    walk_at "q0.v"
    have zm : Pz 325 (multQ s' s') := (pz_multQ zs zs).mono (by have := Nat.mul_le_mul_right (40 + 40 + 1) (show s'.length ≤ 4 by omega); omega)
    refine ⟨multQ s' s', r, 8, 325, rfl, by omega, lr, by decide, zm, zr.mono (by decide), by decide, by decide, ?_⟩
    walk_at "q0.v"
    rw [eqv_pol]
    exact hΦ
  · refine onT (by rw [decide_eq_false]; · rfl
                   · simp only [List.length_map]; omega) ?_
    walk_at "q0.v"
    have e : mkB s' r P = false := decide_eq_false fun h => h3 (by rw [← h]; omega)
    rw [e] at hΦ
    exact hΦ
end

def plOf : PyData → List Rat
  | .tuple ds => ds.map frOf
  | _ => []
def itOf : PyData → It
  | .tuple [b, e, s, r] => ⟨frOf b, frOf e, plOf s, plOf r⟩
  | _ => ⟨0, 0, [], []⟩
theorem plOf_pol (p : List Rat) : plOf (pol p) = p := by
  show (p.map fr).map frOf = p
  rw [List.map_map]
  conv => rhs; rw [← List.map_id p]
  exact List.map_congr_left fun q _ => frOf_fr q
theorem itOf_it (x : It) : itOf (itD x) = x := by
  show (⟨frOf (fr x.b), frOf (fr x.e), plOf (pol x.s), plOf (pol x.r)⟩ : It) = x
  rw [frOf_fr, frOf_fr, plOf_pol, plOf_pol]
theorem itOf_map (xs : List It) : (xs.map itD).map itOf = xs := by
  rw [List.map_map]
  conv => rhs; rw [← List.map_id xs]
  exact List.map_congr_left fun q _ => itOf_it q
def lkB : List It → Bool
  | x :: y :: r => decide (x.e = y.b) && lkB (y :: r)
  | _ => true
def okB (P : List Rat) (x : It) : Bool := mkB x.s x.r P && gdB x.b x.e x.r
def shL (P : List Rat) (lo hi : Rat) : List It → Bool
  | [] => false
  | x :: xs => decide (x.b = lo) && (decide (((x :: xs).getLast (by simp)).e = hi) && (lkB (x :: xs) && (x :: xs).all (okB P)))
def shB (P : List Rat) (lo hi : Rat) : PyData → Bool
  | .tuple ds => ds.all isItm && shL P lo hi (ds.map itOf)
  | _ => false
theorem lkB_iff : ∀ xs : List It, lkB xs = true ↔ ∀ i x y, xs[i]? = some x → xs[i + 1]? = some y → x.e = y.b
  | [] => ⟨fun _ i x y h => by simp at h, fun _ => rfl⟩
  | [a] => ⟨fun _ i x y _ h => by simp at h, fun _ => rfl⟩
  | a :: b :: r => by
    have ih := lkB_iff (b :: r)
    show (decide (a.e = b.b) && lkB (b :: r)) = true ↔ _
    rw [Bool.and_eq_true, ih, decide_eq_true_eq]
    constructor
    · rintro ⟨h1, h2⟩ i x y hx hy
      cases i with
      | zero =>
        simp at hx hy
        subst hx hy
        exact h1
      | succ i => exact h2 i x y (by simpa using hx) (by simpa using hy)
    · intro h
      exact ⟨h 0 a b rfl rfl, fun i x y hx hy => h (i + 1) x y (by simpa using hx) (by simpa using hy)⟩
theorem rowT_ne {r : List Rat} (hn : Nm r) (h : r ≠ []) : ∃ c ∈ rowT r, c ≠ 0 := by
  have : ∃ x, ev r x ≠ 0 := Classical.byContradiction fun n => h (nm_ev hn Nm.nil fun x => Classical.byContradiction fun z => n ⟨x, z⟩)
  obtain ⟨x, hx⟩ := this
  refine ev_ne (x := x) ?_
  rw [ev_rowT]
  intro z
  rcases Rat.mul_eq_zero.mp z with z | z
  · exact rowU_ne r z
  · exact hx z
theorem min_lt {E : List Int} {r : List Rat} {b e κ : Rat} (hk : 0 < κ) (hE : ql E = (gL e b r).map (κ * ·)) {m : Int} (h1 : m ∈ E) (h2 : ∀ y ∈ E, m ≤ y) : decide (m < 0) = !gdB b e r := by
  have key : gdB b e r = true ↔ 0 ≤ m := by
    rw [gdB_rev]
    constructor
    · intro h
      have hm : ((m : Int) : Rat) ∈ ql E := List.mem_map_of_mem h1
      rw [hE] at hm
      obtain ⟨q, hq, e1⟩ := List.mem_map.mp hm
      have := Rat.mul_nonneg (Rat.le_of_lt hk) (h q hq)
      rw [e1] at this
      exact_mod_cast this
    · intro h q hq
      have hm : κ * q ∈ ql E := by rw [hE]; exact List.mem_map_of_mem hq
      obtain ⟨y, hy, e1⟩ := List.mem_map.mp hm
      have h3 := h2 y hy
      have h4 : (0 : Rat) ≤ κ * q := by
        rw [← e1]
        have : (0 : Int) ≤ y := by omega
        exact_mod_cast this
      refine Rat.not_lt.mp fun hl => ?_
      have h5 : κ * q < 0 := by
        have := Rat.mul_lt_mul_of_pos_left hl hk
        grind
      exact absurd h4 (Rat.not_le.mpr h5)
  cases hg : gdB b e r with
  | true =>
    have := key.mp hg
    rw [decide_eq_false (by omega)]
    rfl
  | false =>
    have : ¬ 0 ≤ m := fun z => by rw [key.mpr z] at hg; cases hg
    rw [decide_eq_true (by omega)]
    rfl
theorem ql_rev (v : List Int) : ql v.reverse = (ql v).reverse := by unfold ql; rw [List.map_reverse]

def ThC (d : PyData) : Prop := ∀ ds, d = .tuple ds → ds.length ≤ 100 ∧ SeqAt.shaped (.tuple ds) = true ∧ ∀ x ∈ ds, ItmC x
def Rsh (ss : List Sl) (Φ : PyData → Prop) : Prop := ∃ (P : List Rat) (lo hi : Rat) (d : PyData), ss = [.dat (pol P), .dat (fr lo), .dat (fr hi), .dat d] ∧ P.length ≤ 8 ∧ ThC d ∧ Φ (.bool (shB P lo hi d))
theorem xs_at {xs : List It} {j : Nat} {d : PyData} (h : (xs.map itD)[j]? = some d) : ∃ x, xs[j]? = some x ∧ d = itD x := by
  rw [List.getElem?_map] at h
  cases e : xs[j]? with
  | none => rw [e] at h; cases h
  | some i => rw [e] at h; exact ⟨i, rfl, (Option.some.inj h).symm⟩
theorem shapedFr (q : Rat) : SeqAt.shaped (fr q) = true := rfl
theorem last_at {xs : List It} (h : xs ≠ []) : atI (xs.map itD) (-1) = some (itD (xs.getLast h)) := by
  have l := List.length_pos_iff.mpr h
  rw [atI_last (by rw [List.length_map]; exact l), List.length_map, List.getElem?_map, List.getElem?_eq_getElem (by omega), List.getLast_eq_getElem]
  rfl
theorem canFr : ∀ p : List Rat, PyData.canLayAll0 (p.map fr) = true := shFr
theorem shaped2 (p q : List Rat) : SeqAt.shaped (.tuple [pol p, pol q]) = true := by
  have h1 := SeqAt.canLay_of_shaped (shapedPol p)
  have h2 := SeqAt.canLay_of_shaped (shapedPol q)
  have d1 := dpFr p
  have d2 := dpFr q
  unfold SeqAt.shaped
  rw [Bool.and_eq_true, decide_eq_true_eq]
  refine ⟨?_, ?_⟩
  · show (PyData.canLay0 (pol p) && (PyData.canLay0 (pol q) && true)) = true
    rw [h1, h2]
    rfl
  · unfold pol
    simp only [PyData.depth, PyData.depthAll]
    omega
theorem eqv2 (a b p q : List Rat) : PyData.eqv (.tuple [pol a, pol b]) (.tuple [pol p, pol q]) = decide (a = p ∧ b = q) := by
  have e : PyData.eqv (.tuple [pol a, pol b]) (.tuple [pol p, pol q]) = (PyData.eqv (pol a) (pol p) && (PyData.eqv (pol b) (pol q) && true)) := rfl
  rw [e, eqv_pol, eqv_pol, Bool.and_true, ← Bool.decide_and]
theorem sz_sub {a b : Nat} {p q : Rat} (h : Sz a p) (g : Sz b q) : Sz (a + b + 1) (p - q) := by
  have := Sz.add h (show Sz b (-q) from ⟨by simpa using g.1, by simpa using g.2⟩)
  rw [show p - q = p + -q by grind]
  exact this
theorem gdB_nil (b e : Rat) : gdB b e [] = true := rfl
section
local macro_rules | `(tactic| walk_at "q0.shp") => `(tactic| first | assumption | exact shapedPol _ | exact shaped2 _ _ | rfl | decide +kernel)
theorem scsh : FnScope ["polynomial", "low", "high", "value", "item", "ahead", "made_of", "begin", "end", "s", "r"] ["polynomial", "low", "high", "value"] (defScope (top 20)) := ⟨rfl, rfl, rfl, by decide +kernel, rfl, by decide +kernel, by decide +kernel⟩
theorem fish {P : Program} {w : World} {K : PySem.W.Frag} {mg : Str → Option Value} {base : Heap} {f : Addr} {fd : FuncData} (F : Fun K "sign_holds" "sign_holds" (top 20) f fd) (hm : mg "sign_holds" = some (.ref f)) (T : Txt mg) (U : TxL mg) (F1 : Fi P w K mg base 4 "_is_item" (top 21) ["value"] Risitm) (F2 : Fi P w K mg base 4 "_makes" (top 22) ["s", "r", "polynomial"] Rmakes) (F3 : Fi P w K mg base 2 "end_row" (top 12) ["row"] Rendrow) (F4 : Fi P w K mg base 2 "row_squeezed" (top 11) ["row", "low", "width"] Rsqz) (F5 : Fi P w K mg base 1 "row_of" (top 8) ["p"] Rrow) (F6 : Fi P w K mg base 2 "less" (top 5) ["f", "g"] Rless) : Fi P w K mg base 6 "sign_holds" (top 20) ["polynomial", "low", "high", "value"] Rsh := by
  have sc := scsh
  refine fi_ofS F sc hm (F.binds fun _ _ _ _ _ _ us hl => match us, hl with | [_, _, _, _], _ => rfl) (fun ss Φ ⟨_, _, _, _, e, _⟩ => by rw [e]; exact ⟨rfl, rfl⟩) ?_
  rintro X B ss Φ ⟨cdv, A, out, s0, H, rfl⟩ S hr ⟨P, lo, hi, d, rfl, lP, hc, hΦ⟩
  cases d with
  | tuple ds =>
    obtain ⟨ln, hsh, hc⟩ := hc ds rfl
    walk_at "q0.v0"
    refine onF' rfl ?_
    walk_at "q0.v"
    by_cases h0 : ds = []
    · subst h0
      refine onT' rfl (onT rfl ?_)
      walk_at "q0.v"
      exact hΦ
    refine onF' (by cases ds with
      | nil => exact absurd rfl h0
      | cons a r => rfl) ?_
    walk_at "q0.v"
    refine ev_of_f (ef_lcT [4] S.c S.nd (own := [("item", 4)]) rfl (egc_name 4 S.nd rfl) (by change BlkOk ["polynomial", "low", "high", "value", "item", "ahead", "made_of", "begin", "end", "s", "r"] (defScope (top 20)) _ _; exact ⟨rfl, by decide +kernel, by decide +kernel, by decide +kernel, by decide +kernel⟩) (Ξ := fun es => es = (ds.map isItm).map PyData.bool) ?_) ?_
    · walk_at "q0.v"
      refine ⟨_, rfl, fun k acc => acc = ((ds.map isItm).map PyData.bool).take k, rfl, ?_, fun acc e => tkN (by simp) e⟩
      rintro k d acc B' hB hk2 hd2 rfl
      intro s1 H1 C cl fp
      refine eve_same S fun S1 => ?_
      walk_at "q0.v"
      refine ⟨d, rfl, hc d (List.mem_of_getElem? hd2), ?_⟩
      exact tkL (by simp [hd2]) (by simp; omega)
    rintro _ rfl
    refine ⟨_, rfl, ?_⟩
    cases hb : ds.all isItm with
    | false =>
      refine ⟨false, by rw [← hb]; simp [List.all_map], ?_⟩
      refine onT rfl ?_
      walk_at "q0.v"
      have e : shB P lo hi (.tuple ds) = false := by
        show (ds.all isItm && _) = false
        rw [hb]; rfl
      rw [e] at hΦ
      exact hΦ
    | true =>
      obtain ⟨xs, rfl, hxs⟩ := its_ex hb hc
      refine ⟨true, by rw [← hb]; simp [List.all_map], ?_⟩
      refine onF rfl (eb_nil ?_)
      have e0 : shB P lo hi (.tuple (xs.map itD)) = shL P lo hi xs := by
        show ((xs.map itD).all isItm && shL P lo hi ((xs.map itD).map itOf)) = _
        rw [hb, itOf_map, Bool.true_and]
      rw [e0] at hΦ
      clear e0 hb hc
      rw [List.length_map] at ln
      show EvB _ _ [some (.dat (pol P)), some (.dat (fr lo)), some (.dat (fr hi)), some (.dat (.tuple (xs.map itD))), none, none, none, none, none, none, none] _ _
      have hne : xs ≠ [] := fun z => h0 (by rw [z]; rfl)
      obtain ⟨x0, r0, hx0⟩ : ∃ x0 r0, xs = x0 :: r0 := by
        cases xs with
        | nil => exact absurd rfl hne
        | cons a r => exact ⟨a, r, rfl⟩
      have eL : shL P lo hi xs = (decide (x0.b = lo) && (decide ((xs.getLast hne).e = hi) && (lkB xs && xs.all (okB P)))) := by subst hx0; rfl
      rw [eL] at hΦ
      clear eL h0
      have at0 : atI (xs.map itD) 0 = some (itD x0) := by
        subst hx0
        have := atI_nat (xs := (x0 :: r0).map itD) (n := 0) (by simp)
        simpa using this
      have dr : (xs.map itD).drop 1 = r0.map itD := by subst hx0; rfl
      refine eb_cons (es_mono (N1 := fun ρ => x0.b = lo ∧ (xs.getLast hne).e = hi ∧ ρ = [some (.dat (pol P)), some (.dat (fr lo)), some (.dat (fr hi)), some (.dat (.tuple (xs.map itD))), none, none, none, none, none, none, none]) (es_if ?_) ?_)
      · walk_at "q0.v"
        refine ix_tup (d := itD x0) at0 ?_
        walk_at "q0.v"
        refine ix_tup (d := fr x0.b) rfl ?_
        walk_at "q0.v"
        rw [eqv_fr]
        by_cases h1 : x0.b = lo
        · rw [decide_eq_true h1, Bool.true_and] at hΦ
          refine onF' (by rw [decide_eq_true h1]; rfl) ?_
          walk_at "q0.v"
          refine ix_tup (d := itD (xs.getLast hne)) (last_at hne) ?_
          walk_at "q0.v"
          refine ix_tup (d := fr (xs.getLast hne).e) rfl ?_
          walk_at "q0.v"
          rw [eqv_fr]
          by_cases h2 : (xs.getLast hne).e = hi
          · refine onF (by rw [decide_eq_true h2]; rfl) ?_
            walk_at "q0.v"
            exact ⟨h1, h2, rfl⟩
          · rw [decide_eq_false h2] at hΦ
            refine onT (by rw [decide_eq_false h2]; rfl) ?_
            walk_at "q0.v"
            exact hΦ
        · rw [decide_eq_false h1] at hΦ
          refine onT' (by rw [decide_eq_false h1]; rfl) (onT rfl ?_)
          walk_at "q0.v"
          exact hΦ
      rintro ρ ⟨h1, h2, rfl⟩
      rw [decide_eq_true h1, decide_eq_true h2, Bool.true_and, Bool.true_and] at hΦ
      refine eb_cons (es_mono (N1 := fun ρ => lkB xs = true ∧ ∃ t4 t5 : Option Sl, ρ = [some (.dat (pol P)), some (.dat (fr lo)), some (.dat (fr hi)), some (.dat (.tuple (xs.map itD))), t4, t5, none, none, none, none, none]) (es_zipT S.po S.c rfl U.zip (eg_tup (n := 2) S.c (egs_cons (eg_nm S (i := 5) (by walk_at "q0.at") (by first | exact .inl rfl | exact .inr rfl)) (egs_cons (eg_nm S (i := 4) (by walk_at "q0.at") (by first | exact .inl rfl | exact .inr rfl)) egs_nil))) ?_) ?_)
      · walk_at "q0.v"
        refine ev_cutT ?_
        walk_at "q0.v"
        refine ⟨_, rfl, ?_⟩
        rw [show (1 : Int) = ((1 : Nat) : Int) from rfl, cut_from _ _ (by rw [hx0]; simp), dr]
        refine ⟨_, _, rfl, rfl, fun j ρ => (∀ i x y, i < j → xs[i]? = some x → xs[i + 1]? = some y → x.e = y.b) ∧ ∃ t4 t5 : Option Sl, ρ = [some (.dat (pol P)), some (.dat (fr lo)), some (.dat (fr hi)), some (.dat (.tuple (xs.map itD))), t4, t5, none, none, none, none, none], ⟨fun i x y h => absurd h (Nat.not_lt_zero _), none, none, rfl⟩, ?_, ?_⟩
        · rintro j y ρ hj ⟨z, w2, hz, hw2, rfl⟩ ⟨lk, t4, t5, rfl⟩
          obtain ⟨x, hx, rfl⟩ := xs_at hz
          obtain ⟨y, hy, rfl⟩ := xs_at hw2
          have hy2 : xs[j + 1]? = some y := by rw [hx0]; simpa using hy
          refine ⟨_, rfl, rfl, _, _, rfl, _, _, rfl, rfl, ?_⟩
          walk_at "q0.v0"
          refine ix_tup (d := fr x.e) rfl ?_
          walk_at "q0.v"
          refine ix_tup (d := fr y.b) rfl ?_
          walk_at "q0.v"
          rw [eqv_fr]
          by_cases h3 : x.e = y.b
          · refine onF (by rw [decide_eq_true h3]; rfl) ?_
            walk_at "q0.v"
            refine ⟨fun i x' y' hi hx' hy' => ?_, some (.dat (itD y)), some (.dat (itD x)), rfl⟩
            rcases Nat.lt_succ_iff_lt_or_eq.mp hi with h | h
            · exact lk i x' y' h hx' hy'
            · subst h
              rw [hx] at hx'
              rw [hy2] at hy'
              cases hx'
              cases hy'
              exact h3
          · refine onT (by rw [decide_eq_false h3]; rfl) ?_
            walk_at "q0.v"
            have e : lkB xs = false := by
              cases h : lkB xs with
              | false => rfl
              | true => exact absurd ((lkB_iff xs).mp h j x y hx hy2) h3
            rw [e] at hΦ
            exact hΦ
        · rintro ρ ⟨lk, t4, t5, rfl⟩
          refine ⟨(lkB_iff xs).mpr fun i x y hx hy => lk i x y ?_ hx hy, t4, t5, rfl⟩
          have := (List.getElem?_eq_some_iff.mp hy).1
          rw [List.length_map, List.length_map]
          rw [hx0] at this ⊢
          simp at this ⊢
          omega
      rintro ρ ⟨lk, t4, t5, rfl⟩
      rw [lk, Bool.true_and] at hΦ
      refine eb_cons (es_mono (N1 := fun ρ => ρ = [some (.dat (pol P)), some (.dat (fr lo)), some (.dat (fr hi)), some (.dat (.tuple (xs.map itD))), t4, t5, some (.dat .none), none, none, none, none]) (es_st S (i := 6) (by walk_at "q0.at") (.inl rfl) ?_) ?_)
      · walk_at "q0.v"
        rfl
      rintro ρ rfl
      refine eb_cons (es_forT S.po S.c (eg_tup (n := 4) S.c (egs_cons (eg_nm S (i := 7) (by walk_at "q0.at") (.inl rfl)) (egs_cons (eg_nm S (i := 8) (by walk_at "q0.at") (.inl rfl)) (egs_cons (eg_nm S (i := 9) (by walk_at "q0.at") (.inl rfl)) (egs_cons (eg_nm S (i := 10) (by walk_at "q0.at") (.inl rfl)) egs_nil))))) ?_)
      walk_at "q0.v"
      refine ⟨_, rfl, fun j ρ => (∀ x ∈ xs.take j, okB P x = true) ∧ ∃ (mo : PyData) (t7 t8 t9 t10 : Option Sl), (mo = .none ∨ ∃ a b : List Rat, mo = .tuple [pol a, pol b] ∧ mkB a b P = true) ∧ ρ = [some (.dat (pol P)), some (.dat (fr lo)), some (.dat (fr hi)), some (.dat (.tuple (xs.map itD))), t4, t5, some (.dat mo), t7, t8, t9, t10], ⟨fun x h => (by simp at h), .none, none, none, none, none, .inl rfl, rfl⟩, ?_, ?_⟩
      · rintro j y ρ hj hy ⟨ok, mo, t7, t8, t9, t10, hmo, rfl⟩
        obtain ⟨x, hx, rfl⟩ := xs_at hy
        have xm := List.mem_of_getElem? hx
        obtain ⟨xlt, xns, xnr, xzb, xze, xls, xlr, xzs, xzr⟩ := hxs x xm
        have bad : okB P x = false → Φ (.bool false) := fun h => by
          have : xs.all (okB P) = false := List.all_eq_false.mpr ⟨x, xm, by rw [h]; decide⟩
          rw [this] at hΦ
          exact hΦ
        refine ⟨_, rfl, rfl, _, _, rfl, _, _, rfl, _, _, rfl, _, _, rfl, rfl, ?_⟩
        refine eb_cons (es_mono (N1 := fun ρ => mkB x.s x.r P = true ∧ ρ = [some (.dat (pol P)), some (.dat (fr lo)), some (.dat (fr hi)), some (.dat (.tuple (xs.map itD))), t4, t5, some (.dat mo), some (.dat (fr x.b)), some (.dat (fr x.e)), some (.dat (pol x.s)), some (.dat (pol x.r))]) (es_if ?_) ?_)
        · have tail : ∀ {Z : Prop}, (mkB x.s x.r P = true → Z) → Z ∨ mkB x.s x.r P = false := fun {Z} h => by
            cases hm : mkB x.s x.r P with
            | true => exact .inl (h hm)
            | false => exact .inr rfl
          rcases hmo with rfl | ⟨a, b, rfl, hab⟩
          · walk_at "q0.v"
            refine onT rfl ?_
            walk_at "q0.v"
            refine ⟨x.s, x.r, P, rfl, xls, xlr, lP, xzs, xzr, ?_⟩
            cases hm : mkB x.s x.r P with
            | true =>
              refine ⟨true, rfl, onF rfl ?_⟩
              walk_at "q0.v"
              exact ⟨rfl, rfl⟩
            | false =>
              refine ⟨false, rfl, onT rfl ?_⟩
              walk_at "q0.v"
              exact bad (by unfold okB; rw [hm]; rfl)
          · walk_at "q0.v"
            rw [eqv2]
            by_cases hs : a = x.s ∧ b = x.r
            · refine onF (by rw [decide_eq_true hs]; rfl) (onF rfl ?_)
              walk_at "q0.v"
              exact ⟨by rw [← hs.1, ← hs.2]; exact hab, rfl⟩
            · refine onT (by rw [decide_eq_false hs]; rfl) ?_
              walk_at "q0.v"
              refine ⟨x.s, x.r, P, rfl, xls, xlr, lP, xzs, xzr, ?_⟩
              cases hm : mkB x.s x.r P with
              | true =>
                refine ⟨true, rfl, onF rfl ?_⟩
                walk_at "q0.v"
                exact ⟨rfl, rfl⟩
              | false =>
                refine ⟨false, rfl, onT rfl ?_⟩
                walk_at "q0.v"
                exact bad (by unfold okB; rw [hm]; rfl)
        rintro ρ ⟨mk, rfl⟩
        refine eb_cons (es_mono (N1 := fun ρ => ρ = [some (.dat (pol P)), some (.dat (fr lo)), some (.dat (fr hi)), some (.dat (.tuple (xs.map itD))), t4, t5, some (.dat (.tuple [pol x.s, pol x.r])), some (.dat (fr x.b)), some (.dat (fr x.e)), some (.dat (pol x.s)), some (.dat (pol x.r))]) (es_st S (i := 6) (by walk_at "q0.at") (.inl rfl) ?_) ?_)
        · walk_at "q0.v"
          rfl
        rintro ρ rfl
        have good : gdB x.b x.e x.r = true → ∀ y ∈ xs.take (j + 1), okB P y = true := fun hg y hy => by
          rw [take_succ hx] at hy
          rcases List.mem_append.mp hy with h | h
          · exact ok y h
          · rw [List.mem_singleton.mp h]
            unfold okB
            rw [mk, hg]
            rfl
        walk_at "q0.v0"
        rw [eqvPol0]
        by_cases hr0 : x.r = []
        · refine onF (by rw [hr0]; rfl) (onF rfl ?_)
          walk_at "q0.v"
          exact ⟨good (by rw [hr0]; rfl), _, _, _, _, _, .inr ⟨_, _, rfl, mk⟩, rfl⟩
        have hri : x.r.isEmpty = false := by
          cases h : x.r with
          | nil => exact absurd h hr0
          | cons a r => rfl
        refine onT (by rw [hri]; rfl) ?_
        walk_at "q0.v"
        refine ev_minL S U.min rfl ?_
        walk_at "q0.v"
        refine ⟨x.r, 8, 40, rfl, xlr, xzr, by decide, by decide, ?_⟩
        walk_at "q0.v"
        refine ⟨x.e, x.b, rfl, xze.mono (by decide), xzb.mono (by decide), ?_⟩
        walk_at "q0.v"
        have wne : x.e - x.b ≠ 0 := fun z => by grind
        refine ⟨rowT x.r, x.b, x.e - x.b, 8, 361, 26, 53, rfl, fun z => hr0 (List.length_eq_zero_iff.mp (by rw [← rowT_len, z]; rfl)), by rw [rowT_len]; exact xlr, by decide, lz_mono (rowT_lz xlr xzr) (by decide), xzb, sz_sub xze xzb, by decide, by decide, wne, rowT_ne xnr hr0, ?_⟩
        rintro v lv ⟨κ, hκ, hev⟩ zv
        walk_at "q0.v"
        rw [rowT_len] at lv
        refine ⟨v, rfl, by omega, zv, fun E lE hE => ?_⟩
        have up : (0 : Rat) < (rowU x.r : Rat) := by exact_mod_cast rowU_pos x.r
        have key : ql E = (gL x.e x.b x.r).map ((κ * (rowU x.r : Rat)) * ·) := end_eq (v := ql v) (by rw [ql_len]; exact lv) (fun y => by rw [hev, ev_rowT]; grind) (by rw [ql_len, lE, lv]) (fun y => by rw [hE, ql_rev])
        refine ⟨E, rfl, by rw [lE, lv]; exact List.length_pos_iff.mpr hr0, fun m hm1 hm2 => ?_⟩
        walk_at "q0.v"
        rw [min_lt (Rat.mul_pos hκ up) key hm1 hm2]
        cases hg : gdB x.b x.e x.r with
        | true =>
          refine onF rfl ?_
          walk_at "q0.v"
          exact ⟨good hg, _, _, _, _, _, .inr ⟨_, _, rfl, mk⟩, rfl⟩
        | false =>
          refine onT rfl ?_
          walk_at "q0.v"
          exact bad (by unfold okB; rw [mk, hg]; rfl)
      rintro ρ ⟨ok, mo, t7, t8, t9, t10, hmo, rfl⟩
      rw [List.length_map, List.take_length] at ok
      walk_at "q0.v0"
      rw [List.all_eq_true.mpr ok] at hΦ
      exact hΦ
  | _ =>
    walk_at "q0.v0"
    refine onT' rfl (onT rfl ?_)
    walk_at "q0.v"
    exact hΦ
end

def Rcut (ss : List Sl) (Φ : PyData → Prop) : Prop := ∃ u d : Int, ss = [.dat (.int u), .dat (.int d)] ∧ 0 < d ∧ Lt2 d 8000 ∧ Φ (fr ((u : Rat) / (d : Rat)))
theorem sccut : FnScope ["_law_top", "_law_bottom", "_law_a", "_law_b"] ["_law_top", "_law_bottom"] (defScope (top 27)) := ⟨rfl, rfl, rfl, by decide +kernel, rfl, by decide +kernel, by decide +kernel⟩
theorem ficut {P : Program} {w : World} {K : PySem.W.Frag} {mg : Str → Option Value} {base : Heap} {f : Addr} {fd : FuncData} (F : Fun K "_law_cut" "_law_cut" (top 27) f fd) (hm : mg "_law_cut" = some (.ref f)) (T : Txt mg) (U : TxL mg) : Fi P w K mg base 1 "_law_cut" (top 27) ["_law_top", "_law_bottom"] Rcut := by
  have sc := sccut
  refine fi_ofS F sc hm (F.binds fun _ _ _ _ _ _ us hl => match us, hl with | [_, _], _ => rfl) (fun ss Φ ⟨_, _, e, _⟩ => by rw [e]; exact ⟨rfl, rfl⟩) ?_
  rintro X B ss Φ ⟨cdv, A, out, s, H, rfl⟩ S hr ⟨u, d, rfl, hd, hdz, hΦ⟩
  walk_at "q0.v0"
  refine es_while S.po (fun m ρ => ∃ a' b' : Int, ρ = [some (.dat (.int u)), some (.dat (.int d)), some (.dat (.int a')), some (.dat (.int b'))] ∧ 0 ≤ a' ∧ 0 ≤ b' ∧ b' = m ∧ Nat.gcd a'.natAbs b'.natAbs = Nat.gcd u.natAbs d.natAbs) ⟨d.natAbs, if u < 0 then -u else u, d, rfl, by split <;> omega, by omega, by omega, ?_⟩ ?_
  · congr 1
    split <;> omega
  rintro m _ ⟨a', b', rfl, h1, h2, h3, h4⟩
  walk_at "q0.v"
  rw [eqv_int]
  refine ⟨fun hz => ?_, fun hz => ?_⟩
  · have hp : 0 < b' := by simp at hz; omega
    walk_at "q0.v"
    have l1 := Int.emod_nonneg a' (show b' ≠ 0 by omega)
    have l2 := Int.emod_lt_of_pos a' hp
    refine ⟨(a' % b').toNat, by omega, b', a' % b', rfl, h2, l1, by omega, ?_⟩
    rw [← h4]
    have e : (a' % b').natAbs = a'.natAbs % b'.natAbs := Int.natAbs_emod_of_nonneg h1 b'
    rw [e, Nat.gcd_comm b'.natAbs, ← Nat.gcd_rec, Nat.gcd_comm]
  · have hp : b' = 0 := by simpa using hz
    subst hp
    have hg : a' = (Nat.gcd u.natAbs d.natAbs : Nat) := by rw [← h4]; simp; omega
    have hgp : 0 < a' := by
      have := Nat.gcd_pos_of_pos_right u.natAbs (show 0 < d.natAbs by omega)
      omega
    have hgz : Lt2 a' 8000 := by
      have := Nat.gcd_le_right u.natAbs (n := d.natAbs) (by omega)
      unfold Lt2 at hdz ⊢
      omega
    walk_at "q0.v"
    unfold fr at hΦ
    rw [low_num hd, low_den hd, ← hg] at hΦ
    exact hΦ
theorem sgn_two (X : Int) : ((if decide (0 < X) = true then (1 : Int) else 0) - if decide (X < 0) = true then 1 else 0) = sgn X := by
  unfold sgn
  simp only [decide_eq_true_eq]
  repeat' split
  all_goals omega
def Rcmp (ss : List Sl) (Φ : PyData → Prop) : Prop := ∃ p q : Rat, ss = [.dat (fr p), .dat (fr q)] ∧ Sz 4000 p ∧ Sz 4000 q ∧ Φ (.int (rsgn (p - q)))
theorem sccmp : FnScope ["_law_left", "_law_right", "_law_by_here"] ["_law_left", "_law_right"] (defScope (top 28)) := ⟨rfl, rfl, rfl, by decide +kernel, rfl, by decide +kernel, by decide +kernel⟩
theorem ficmp {P : Program} {w : World} {K : PySem.W.Frag} {mg : Str → Option Value} {base : Heap} {f : Addr} {fd : FuncData} (F : Fun K "_law_cmp" "_law_cmp" (top 28) f fd) (hm : mg "_law_cmp" = some (.ref f)) (T : Txt mg) (U : TxL mg) : Fi P w K mg base 1 "_law_cmp" (top 28) ["_law_left", "_law_right"] Rcmp := by
  have sc := sccmp
  refine fi_ofS F sc hm (F.binds fun _ _ _ _ _ _ us hl => match us, hl with | [_, _], _ => rfl) (fun ss Φ ⟨_, _, e, _⟩ => by rw [e]; exact ⟨rfl, rfl⟩) ?_
  rintro X B ss Φ ⟨cdv, A, out, s, H, rfl⟩ S hr ⟨p, q, rfl, hp, hq, hΦ⟩
  rw [← order_rsgn] at hΦ
  walk_at "q0.v0"
  show Φ _
  rw [sgn_two]
  exact hΦ
def Rlplus (ss : List Sl) (Φ : PyData → Prop) : Prop := ∃ p q : Rat, ss = [.dat (fr p), .dat (fr q)] ∧ Sz 3000 p ∧ Sz 3000 q ∧ Φ (fr (p + q))
theorem sclplus : FnScope ["_law_left", "_law_right"] ["_law_left", "_law_right"] (defScope (top 29)) := ⟨rfl, rfl, rfl, by decide +kernel, rfl, by decide +kernel, by decide +kernel⟩
theorem filplus {P : Program} {w : World} {K : PySem.W.Frag} {mg : Str → Option Value} {base : Heap} {f : Addr} {fd : FuncData} (F : Fun K "_law_plus" "_law_plus" (top 29) f fd) (hm : mg "_law_plus" = some (.ref f)) (T : Txt mg) (U : TxL mg) (F1 : Fi P w K mg base 1 "_law_cut" (top 27) ["_law_top", "_law_bottom"] Rcut) : Fi P w K mg base 2 "_law_plus" (top 29) ["_law_left", "_law_right"] Rlplus := by
  have sc := sclplus
  refine fi_ofS F sc hm (F.binds fun _ _ _ _ _ _ us hl => match us, hl with | [_, _], _ => rfl) (fun ss Φ ⟨_, _, e, _⟩ => by rw [e]; exact ⟨rfl, rfl⟩) ?_
  rintro X B ss Φ ⟨cdv, A, out, s, H, rfl⟩ S hr ⟨p, q, rfl, hp, hq, hΦ⟩
  rw [add_eq] at hΦ
  have dp := den_pos p
  have dq := den_pos q
  walk_at "q0.v0"
  exact ⟨_, _, rfl, Int.mul_pos dp dq, (mulm hp.dd hq.dd).mono (by decide), hΦ⟩
/-! rows -/
def Rlprod (ss : List Sl) (Φ : PyData → Prop) : Prop := ∃ (r1 r2 : List Int) (n a c : Nat), ss = [.dat (intsD r1), .dat (intsD r2)] ∧ r1.length ≤ n ∧ r2.length ≤ n ∧ n ≤ 20 ∧ Lz a r1 ∧ Lz c r2 ∧ a ≤ 20000 ∧ c ≤ 20000 ∧
  ∀ m : List Int, (r1 = [] ∨ r2 = [] → m = []) → (r1 ≠ [] → r2 ≠ [] → m.length = r1.length + r2.length - 1) → (∀ x : Rat, ev (ql m) x = ev (ql r1) x * ev (ql r2) x) → Lz (a + c + 1 + n * n) m → Φ (intsD m)
theorem isE' {r : List Int} : PyData.eqv (intsD r) (.list []) = r.isEmpty := by
  show PyData.eqv (.list (r.map PyData.int)) (.list []) = _
  rw [eqvInts0]
section
local macro_rules | `(tactic| walk_at "q0.shp") => `(tactic| first | exact shapedInts _ | rfl | decide +kernel)
theorem sclprod : FnScope ["_law_left", "_law_right", "_law_found", "_law_i", "_law_item", "_law_k", "_law_more"] ["_law_left", "_law_right"] (defScope (top 30)) := ⟨rfl, rfl, rfl, by decide +kernel, rfl, by decide +kernel, by decide +kernel⟩
theorem filprod {P : Program} {w : World} {K : PySem.W.Frag} {mg : Str → Option Value} {base : Heap} {f : Addr} {fd : FuncData} (F : Fun K "_law_product" "_law_product" (top 30) f fd) (hm : mg "_law_product" = some (.ref f)) (T : Txt mg) (U : TxL mg) : Fi P w K mg base 1 "_law_product" (top 30) ["_law_left", "_law_right"] Rlprod := by
  have sc := sclprod
  refine fi_ofS F sc hm (F.binds fun _ _ _ _ _ _ us hl => match us, hl with | [_, _], _ => rfl) (fun ss Φ ⟨_, _, _, _, _, e, _⟩ => by rw [e]; exact ⟨rfl, rfl⟩) ?_
  rintro X B ss Φ ⟨cdv, A, out, s, H, rfl⟩ S hr ⟨r1, r2, n, a, c', rfl, l1, l2, hn, z1, z2, ha, hc', hΦ⟩
  by_cases h1 : r1 = []
  · walk_at "q0.v0"
    refine onT' (by rw [h1]; rfl) (onT rfl ?_)
    walk_at "q0.v"
    exact hΦ [] (fun _ => rfl) (fun h => absurd h1 h) (fun x => by rw [h1]; show (0 : Rat) = 0 * _; grind) (fun t h => nomatch h)
  walk_at "q0.v0"
  refine onF' (isE h1) ?_
  walk_at "q0.v"
  by_cases h2 : r2 = []
  · refine onT (by rw [h2]; rfl) ?_
    walk_at "q0.v"
    exact hΦ [] (fun _ => rfl) (fun _ h => absurd h2 h) (fun x => by rw [h2]; show (0 : Rat) = _ * 0; grind) (fun t h => nomatch h)
  have p1 : 0 < r1.length := List.length_pos_iff.mpr h1
  have p2 : 0 < r2.length := List.length_pos_iff.mpr h2
  refine onF (isE h2) (eb_nil (eb_cons ?_))
  refine es_stF S (i := 2) (by walk_at "q0.at") (.inl rfl) (ef_rep ?_)
  walk_at "q0.v"
  refine ⟨_, _, rfl, rfl, ?_, ?_, ?_, ?_⟩
  · simp; omega
  · simp; omega
  · exact Nat.le_of_lt (szl (m := 1000) (by simp; omega) rfl)
  rw [show ((((List.map PyData.int r1).length : Nat) : Int) + (List.map PyData.int r2).length - 1).toNat = r1.length + r2.length - 1 by simp; omega, rep_one]
  refine eb_cons (es_enum S.po S.c rfl U.enumerate (eg_tup (n := 2) S.c (egs_cons (eg_nm S (i := 3) (by walk_at "q0.at") (.inl rfl)) (egs_cons (eg_nm S (i := 4) (by walk_at "q0.at") (.inl rfl)) egs_nil))) ?_)
  walk_at "q0.v"
  refine ⟨_, rfl, fun k ρ => ∃ (g : List Int) (t u v w : Option Sl), ρ = [some (.dat (intsD r1)), some (.dat (intsD r2)), some (.own (g.map PyData.int)), t, u, v, w] ∧ g.length = r1.length + r2.length - 1 ∧ Lz (a + c' + 1 + k * n) g ∧
    ∀ x : Rat, ev (ql g) x = ev (ql (r1.take k)) x * ev (ql r2) x, ⟨_, none, none, none, none, rfl, by simp, fun t ht => ?_, fun x => ?_⟩, ?_, ?_⟩
  · rw [List.eq_of_mem_replicate ht]
    exact lit (by decide) (by omega) |> fun (h : Lt2 0 64) => by unfold Lt2; rw [Int.natAbs_zero]; exact Nat.pow_pos (by decide)
  · rw [ev_zeros]; simp [ql, ev]
  · rintro k y ρ hk ⟨z, hz, rfl⟩ ⟨g, t, u, v, w, rfl, hg, hgz, hev⟩
    obtain ⟨c, hc, rfl⟩ := ints_at hz
    refine ⟨_, rfl, rfl, _, _, rfl, _, _, rfl, rfl, ?_⟩
    refine eb_one (es_enum S.po S.c rfl U.enumerate (eg_tup (n := 2) S.c (egs_cons (eg_nm S (i := 5) (by walk_at "q0.at") (.inl rfl)) (egs_cons (eg_nm S (i := 6) (by walk_at "q0.at") (.inl rfl)) egs_nil))) ?_)
    walk_at "q0.v"
    have kl : k < r1.length := (List.getElem?_eq_some_iff.mp hc).1
    refine ⟨_, rfl, fun j ρ => ∃ (g' : List Int) (v w : Option Sl), ρ = [some (.dat (intsD r1)), some (.dat (intsD r2)), some (.own (g'.map PyData.int)), some (.dat (.int (k : Nat))), some (.dat (.int c)), v, w] ∧ g'.length = r1.length + r2.length - 1 ∧
      Lz (a + c' + 1 + k * n + j) g' ∧ ∀ x : Rat, ev (ql g') x = ev (ql (r1.take k)) x * ev (ql r2) x + c * x ^ k * ev (ql (r2.take j)) x, ⟨g, v, w, rfl, hg, by simpa using hgz, fun x => by rw [hev]; simp [ql, ev]; grind⟩, ?_, ?_⟩
    · rintro j y ρ hj ⟨z, hz, rfl⟩ ⟨g', v, w, rfl, hg', hgz', hev'⟩
      obtain ⟨d, hd, rfl⟩ := ints_at hz
      have jl : j < r2.length := (List.getElem?_eq_some_iff.mp hd).1
      obtain ⟨e0, he⟩ : ∃ e0, g'[k + j]? = some e0 := frac_at (by omega)
      have zc := z1.get hc
      have zd := z2.get hd
      have ze := hgz'.get he
      refine ⟨_, rfl, rfl, _, _, rfl, _, _, rfl, rfl, ?_⟩
      have ekj : ((k : Nat) : Int) + (j : Nat) = ((k + j : Nat) : Int) := by omega
      have at1 : atI (g'.map PyData.int) ((k + j : Nat) : Int) = some (.int e0) := by
        rw [atI_nat (by rw [List.length_map]; omega), List.getElem?_map, he]
        rfl
      refine eb_one (es_setitem 2 rfl rfl (.inl rfl) (ev_frz (i := 2) (ds := g'.map PyData.int) rfl ?_))
      walk_at "q0.v"
      rw [ekj]
      refine ix_lst (d := .int e0) at1 ?_
      walk_at "q0.v"
      any_goals ((with_reducible show CMulW _ _); exact w_mul zc zd (by omega))
      refine ⟨rfl, ?_⟩
      walk_at "q0.v"
      rw [ekj]
      refine ⟨_, k + j, rfl, by unfold ixN; rw [List.length_map, if_pos (by omega), if_pos (by omega)]; simp; omega, g'.set (k + j) (e0 + c * d), some (.dat (.int (j : Nat))), some (.dat (.int d)), ?_, by simpa using hg', ?_, mul_step hc hd he hev'⟩
      · rw [List.map_set]
        rfl
      · exact (lz_mono hgz' (by omega)).set (Lt2.mono (addx ze (mulm zc zd)) (by omega))
    · rintro ρ ⟨g', v, w, rfl, hg', hgz', hev'⟩
      refine ⟨g', some (.dat (.int (k : Nat))), some (.dat (.int c)), v, w, rfl, hg', lz_mono hgz' ?_, fun x => ?_⟩
      · rw [List.length_map, Nat.add_mul]
        omega
      · rw [hev', List.length_map]
        exact mul_next hc x
  · rintro ρ ⟨g, t, u, v, w, rfl, hg, hgz, hev⟩
    refine eb_freeze (i := 2) rfl ?_
    walk_at "q0.v"
    refine hΦ g (fun h => (h.elim h1 h2).elim) (fun _ _ => hg) (fun x => ?_) (lz_mono hgz ?_)
    · rw [hev, List.length_map, List.take_length]
    · rw [List.length_map]
      have := Nat.mul_le_mul_right n l1
      omega
end

theorem trim_snoc0 (l : List Rat) : trim (l ++ [0]) = trim l := by
  refine nm_ev (trim_nm _) (trim_nm _) fun x => ?_
  rw [ev_trim, ev_trim, ev_append]
  simp only [ev]
  grind
theorem trim_snoc {l : List Rat} {c : Rat} (h : c ≠ 0) : trim (l ++ [c]) = l ++ [c] := by
  show Nm (l ++ [c])
  rw [nm_last]
  refine .inr ?_
  rw [List.length_append]
  show (l ++ [c]).getD (l.length + 1 - 1) 0 ≠ 0
  rw [List.getD_eq_getElem?_getD, Nat.add_sub_cancel, List.getElem?_append_right (Nat.le_refl _)]
  simpa using h
def Rbare (ss : List Sl) (Φ : PyData → Prop) : Prop := ∃ r : List Int, ss = [.dat (intsD r)] ∧ r.length ≤ 100 ∧ ∀ m : List Int, (∃ n, m = r.take n) → ql m = trim (ql r) → Φ (intsD m)
section
local macro_rules | `(tactic| walk_at "q0.shp") => `(tactic| first | exact shapedInts _ | rfl | decide +kernel)
theorem scbare : FnScope ["_law_row", "_law_found"] ["_law_row"] (defScope (top 31)) := ⟨rfl, rfl, rfl, by decide +kernel, rfl, by decide +kernel, by decide +kernel⟩
theorem fibare {P : Program} {w : World} {K : PySem.W.Frag} {mg : Str → Option Value} {base : Heap} {f : Addr} {fd : FuncData} (F : Fun K "_law_bare" "_law_bare" (top 31) f fd) (hm : mg "_law_bare" = some (.ref f)) (T : Txt mg) (U : TxL mg) : Fi P w K mg base 1 "_law_bare" (top 31) ["_law_row"] Rbare := by
  have sc := scbare
  refine fi_ofS F sc hm (F.binds fun _ _ _ _ _ _ us hl => match us, hl with | [_], _ => rfl) (fun ss Φ ⟨_, e, _⟩ => by rw [e]; exact ⟨rfl, rfl⟩) ?_
  rintro X B ss Φ ⟨cdv, A, out, s, H, rfl⟩ S hr ⟨r, rfl, lr, hΦ⟩
  refine eb_cons (es_stF S (i := 1) (by walk_at "q0.at") (.inl rfl) (ef_list rfl (by rw [S.m]; exact T.list) ?_))
  walk_at "q0.v"
  refine es_while S.po (fun m ρ => ∃ g : List Int, ρ = [some (.dat (intsD r)), some (.own (g.map PyData.int))] ∧ g.length = m ∧ (∃ n, g = r.take n) ∧ trim (ql g) = trim (ql r)) ⟨r.length, r, rfl, rfl, ⟨r.length, by rw [List.take_length]⟩, rfl⟩ ?_
  rintro m _ ⟨g, rfl, rfl, ⟨n, hg⟩, ht⟩
  refine et_frz (i := 1) rfl ?_
  walk_at "q0.v"
  rw [eqvInts0]
  by_cases h0 : g = []
  · refine onF (by rw [h0]; rfl) (onF rfl ?_)
    refine eb_freeze (i := 1) rfl ?_
    walk_at "q0.v0"
    refine hΦ g ⟨n, hg⟩ ?_
    rw [← ht, h0]
    rfl
  have hn0 : 0 < g.length := List.length_pos_iff.mpr h0
  obtain ⟨g', c, hgl⟩ : ∃ (g' : List Int) (c : Int), g = g' ++ [c] := ⟨g.dropLast, g.getLast h0, (List.dropLast_concat_getLast h0).symm⟩
  have hdl : (g.map PyData.int).dropLast = g'.map PyData.int := by rw [hgl]; simp
  have eq1 : ql g = ql g' ++ [(c : Rat)] := by rw [hgl, ql_app]; rfl
  have gt : ∃ n, g' = r.take n := ⟨min g'.length n, by
    have : g' = g.take g'.length := by rw [hgl]; simp
    conv => lhs; rw [this, hg, List.take_take]⟩
  have ne1 : g.isEmpty = false := by rw [hgl]; simp
  refine onT (by rw [ne1]; rfl) ?_
  walk_at "q0.v"
  refine ix_lst (d := .int c) (by rw [atI_last (by rw [List.length_map]; exact hn0), hgl]; simp) ?_
  walk_at "q0.v"
  rw [eqv_int]
  by_cases hc : c = 0
  · refine onT (decide_eq_true hc) ?_
    refine eb_one (es_pop 1 rfl rfl (.inl rfl) (by rw [List.length_map]; exact hn0) ?_)
    rw [hdl]
    refine ⟨g'.length, by rw [hgl]; simp, g', rfl, rfl, gt, ?_⟩
    rw [← ht, eq1, hc]
    exact (trim_snoc0 _).symm
  · refine onF (decide_eq_false hc) ?_
    refine eb_freeze (i := 1) rfl ?_
    walk_at "q0.v0"
    refine hΦ g ⟨n, hg⟩ ?_
    rw [← ht, eq1]
    exact (trim_snoc (by exact_mod_cast hc)).symm
end
def lzT {a : Nat} {r m : List Int} (h : Lz a r) (hm : ∃ n, m = r.take n) : Lz a m := fun t ht => by
  obtain ⟨n, rfl⟩ := hm
  exact h t (List.mem_of_mem_take ht)
def Rlby (ss : List Sl) (Φ : PyData → Prop) : Prop := ∃ (r : List Int) (k : Int) (a b : Nat), ss = [.dat (intsD r), .dat (.int k)] ∧ r.length ≤ 100 ∧ Lz a r ∧ Lt2 k b ∧ a + b ≤ 900000 ∧ Φ (intsD (r.map (k * ·)))
theorem sclby : FnScope ["_law_row", "_law_much", "_law_item"] ["_law_row", "_law_much"] (defScope (top 33)) := ⟨rfl, rfl, rfl, by decide +kernel, rfl, by decide +kernel, by decide +kernel⟩
theorem filby {P : Program} {w : World} {K : PySem.W.Frag} {mg : Str → Option Value} {base : Heap} {f : Addr} {fd : FuncData} (F : Fun K "_law_by" "_law_by" (top 33) f fd) (hm : mg "_law_by" = some (.ref f)) (T : Txt mg) (U : TxL mg) : Fi P w K mg base 1 "_law_by" (top 33) ["_law_row", "_law_much"] Rlby := by
  have sc := sclby
  refine fi_ofS F sc hm (F.binds fun _ _ _ _ _ _ us hl => match us, hl with | [_, _], _ => rfl) (fun ss Φ ⟨_, _, _, _, e, _⟩ => by rw [e]; exact ⟨rfl, rfl⟩) ?_
  rintro X B ss Φ ⟨cdv, A, out, s, H, rfl⟩ S hr ⟨r, k, a, b, rfl, lr, zr, zk, hab, hΦ⟩
  refine eb_one (es_ret ?_)
  refine ev_of_f (ef_lc [2] S.c S.nd (own := [("_law_item", 2)]) rfl (egc_name 2 S.nd rfl) (by change BlkOk ["_law_row", "_law_much", "_law_item"] (defScope (top 33)) _ _; exact ⟨rfl, by decide +kernel, by decide +kernel, by decide +kernel, by decide +kernel⟩) (Ξ := fun ds => ds = (r.map (k * ·)).map PyData.int) ?_) ?_
  · walk_at "q0.v"
    refine ⟨_, rfl, fun j acc => acc = ((r.map (k * ·)).map PyData.int).take j, rfl, ?_, fun acc e => tkN (by simp) e⟩
    rintro j d acc B' hB hj hd rfl
    obtain ⟨c, hc, rfl⟩ := ints_at hd
    intro s1 H1 C cl fp
    refine eve_same S fun S1 => ?_
    walk_at "q0.v"
    all_goals first
      | ((with_reducible show CMulW _ _); exact w_mul zk (zr.get hc) (by omega))
      | exact tkL (by simp [hc]) (by simp; omega)
  rintro _ rfl
  exact hΦ
def Rtold (ss : List Sl) (Φ : PyData → Prop) : Prop := ∃ (r : List Int) (d : Int), ss = [.dat (intsD r), .dat (.int d)] ∧ r.length ≤ 100 ∧ 0 < d ∧ Lt2 d 8000 ∧ Φ (pol (trim (polQ r d)))
theorem polQ_eq (r : List Int) (d : Int) : polQ r d = psc (1 / (d : Rat)) (ql r) := by
  unfold polQ psc ql
  rw [List.map_map]
  refine List.map_congr_left fun t _ => ?_
  show (t : Rat) / d = (t : Rat) * (1 / d)
  grind
theorem trim_psc {f : Rat} (hf : f ≠ 0) {p : List Rat} : trim (psc f p) = psc f (trim p) := by
  refine nm_ev (trim_nm _) ?_ fun x => by rw [ev_trim, ev_psc, ev_psc, ev_trim]
  rw [nm_last]
  have h := nm_last.mp (trim_nm p)
  rcases h with h | h
  · left
    rw [h]
    rfl
  · right
    rw [psc_len, coef_sc]
    intro z
    rcases Rat.mul_eq_zero.mp z with z | z
    · exact h z
    · exact hf z
theorem sctold : FnScope ["_law_row", "_law_down", "_law_item"] ["_law_row", "_law_down"] (defScope (top 34)) := ⟨rfl, rfl, rfl, by decide +kernel, rfl, by decide +kernel, by decide +kernel⟩
theorem fitold {P : Program} {w : World} {K : PySem.W.Frag} {mg : Str → Option Value} {base : Heap} {f : Addr} {fd : FuncData} (F : Fun K "_law_told" "_law_told" (top 34) f fd) (hm : mg "_law_told" = some (.ref f)) (T : Txt mg) (U : TxL mg) (F1 : Fi P w K mg base 1 "_law_bare" (top 31) ["_law_row"] Rbare) (F2 : Fi P w K mg base 1 "_law_cut" (top 27) ["_law_top", "_law_bottom"] Rcut) : Fi P w K mg base 2 "_law_told" (top 34) ["_law_row", "_law_down"] Rtold := by
  have sc := sctold
  refine fi_ofS F sc hm (F.binds fun _ _ _ _ _ _ us hl => match us, hl with | [_, _], _ => rfl) (fun ss Φ ⟨_, _, e, _⟩ => by rw [e]; exact ⟨rfl, rfl⟩) ?_
  rintro X B ss Φ ⟨cdv, A, out, s, H, rfl⟩ S hr ⟨r, d, rfl, lr, hd, hz, hΦ⟩
  refine eb_one (es_ret (ev_tupleS S T rfl ?_))
  refine ev_of_f (ef_lc [2] S.c S.nd (own := [("_law_item", 2)]) rfl (egc_name 2 S.nd rfl) (by change BlkOk ["_law_row", "_law_down", "_law_item"] (defScope (top 34)) _ _; exact ⟨rfl, by decide +kernel, by decide +kernel, by decide +kernel, by decide +kernel⟩) (Ξ := fun ds => ds = (trim (polQ r d)).map fr) ?_) ?_
  · walk_at "q0.v"
    refine ⟨r, rfl, lr, fun m ⟨n, hm⟩ hq => ?_⟩
    have dq : (1 / (d : Rat)) ≠ 0 := by
      have : (d : Rat) ≠ 0 := by
        intro z
        have : d = 0 := by exact_mod_cast z
        omega
      grind
    have e : trim (polQ r d) = polQ m d := by rw [polQ_eq, polQ_eq, trim_psc dq, ← hq]
    have lm : m.length ≤ 100 := by rw [hm, List.length_take]; omega
    rw [e]
    refine ⟨_, rfl, fun j acc => acc = ((polQ m d).map fr).take j, rfl, ?_, fun acc e => tkN (by simp [polQ]) e⟩
    rintro j y acc B' hB hj hy rfl
    obtain ⟨c, hc, rfl⟩ := ints_at hy
    intro s1 H1 C cl fp
    refine eve_same S fun S1 => ?_
    walk_at "q0.v"
    exact ⟨c, d, rfl, hd, hz, tkL (by simp [polQ, hc]) (by simp [polQ]; omega)⟩
  rintro _ rfl
  walk_at "q0.v"
  exact hΦ

def Rltot (ss : List Sl) (Φ : PyData → Prop) : Prop := ∃ (r1 r2 : List Int) (a : Nat), ss = [.dat (intsD r1), .dat (intsD r2)] ∧ r1.length ≤ 40 ∧ r2.length ≤ 40 ∧ Lz a r1 ∧ Lz a r2 ∧
  ∀ m : List Int, ql m = trim (padd (ql r1) (ql r2)) → m.length ≤ max r1.length r2.length → Lz (a + 1) m → Φ (intsD m)
theorem ev_pad (r : List Int) (n : Nat) (x : Rat) : ev (ql (r ++ List.replicate n 0)) x = ev (ql r) x := by
  rw [ql_app, ev_append, ev_zeros]
  grind
theorem ql_zip : ∀ a b : List Int, ql (List.zipWith (· + ·) a b) = zad (ql a) (ql b)
  | [], _ => rfl
  | _ :: _, [] => rfl
  | x :: a, y :: b => by
    have ih := ql_zip a b
    show ((x + y : Int) : Rat) :: ql (List.zipWith (· + ·) a b) = ((x : Rat) + y) :: zad (ql a) (ql b)
    rw [ih, Rat.intCast_add]
theorem scltot : FnScope ["_law_left", "_law_right", "_law_long", "_law_begin", "_law_end", "_law_a", "_law_b"] ["_law_left", "_law_right"] (defScope (top 32)) := ⟨rfl, rfl, rfl, by decide +kernel, rfl, by decide +kernel, by decide +kernel⟩
theorem filtot {P : Program} {w : World} {K : PySem.W.Frag} {mg : Str → Option Value} {base : Heap} {f : Addr} {fd : FuncData} (F : Fun K "_law_total" "_law_total" (top 32) f fd) (hm : mg "_law_total" = some (.ref f)) (T : Txt mg) (U : TxL mg) (F1 : Fi P w K mg base 1 "_law_bare" (top 31) ["_law_row"] Rbare) : Fi P w K mg base 2 "_law_total" (top 32) ["_law_left", "_law_right"] Rltot := by
  have sc := scltot
  refine fi_ofS F sc hm (F.binds fun _ _ _ _ _ _ us hl => match us, hl with | [_, _], _ => rfl) (fun ss Φ ⟨_, _, _, e, _⟩ => by rw [e]; exact ⟨rfl, rfl⟩) ?_
  rintro X B ss Φ ⟨cdv, A, out, s, H, rfl⟩ S hr ⟨r1, r2, a, rfl, l1, l2, z1, z2, hΦ⟩
  obtain ⟨L, hL⟩ : ∃ L : Nat, L = max r1.length r2.length := ⟨_, rfl⟩
  refine eb_cons (es_mono (N1 := fun ρ => ρ = [some (.dat (intsD r1)), some (.dat (intsD r2)), some (.dat (.int (L : Nat))), none, none, none, none]) (es_st S (i := 2) (by walk_at "q0.at") (.inl rfl) (ev_max2 S U.max rfl ?_)) ?_)
  · walk_at "q0.v"
    have e : (if (((r2.map PyData.int).length : Nat) : Int) > ((r1.map PyData.int).length : Nat) then (((r2.map PyData.int).length : Nat) : Int) else ((r1.map PyData.int).length : Nat)) = (L : Nat) := by
      rw [List.length_map, List.length_map, hL]
      split <;> omega
    rw [e]
    rfl
  rintro ρ rfl
  obtain ⟨g1, hg1⟩ : ∃ g : List Int, g = r1 ++ List.replicate (L - r1.length) 0 := ⟨_, rfl⟩
  obtain ⟨g2, hg2⟩ : ∃ g : List Int, g = r2 ++ List.replicate (L - r2.length) 0 := ⟨_, rfl⟩
  have lg1 : g1.length = L := by rw [hg1, List.length_append, List.length_replicate]; omega
  have lg2 : g2.length = L := by rw [hg2, List.length_append, List.length_replicate]; omega
  refine eb_cons (es_mono (N1 := fun ρ => ρ = [some (.dat (intsD r1)), some (.dat (intsD r2)), some (.dat (.int (L : Nat))), some (.dat (intsD g1)), some (.dat (intsD g2)), none, none]) (es_p2 S (i := 3) (j := 4) (by walk_at "q0.at") (by walk_at "q0.at") rfl rfl ?_) ?_)
  · have t1 : ((L : Nat) : Int) - (((r1.map PyData.int).length : Nat) : Int) = ((L - r1.length : Nat) : Int) := by rw [List.length_map]; omega
    have t2 : ((L : Nat) : Int) - (((r2.map PyData.int).length : Nat) : Int) = ((L - r2.length : Nat) : Int) := by rw [List.length_map]; omega
    have e1 : (r1.map PyData.int) ++ (List.replicate (((L - r1.length : Nat) : Int)).toNat [PyData.int 0]).flatten = g1.map PyData.int := by rw [rep_one, hg1, List.map_append, Int.toNat_natCast]
    have e2 : (r2.map PyData.int) ++ (List.replicate (((L - r2.length : Nat) : Int)).toNat [PyData.int 0]).flatten = g2.map PyData.int := by rw [rep_one, hg2, List.map_append, Int.toNat_natCast]
    have n1 : L - r1.length ≤ 40 := by omega
    have n2 : L - r2.length ≤ 40 := by omega
    walk_at "q0.v"
    rw [t1]
    refine ⟨_, _, rfl, rfl, by omega, by omega, Nat.le_of_lt (szl (m := 1000) (by simp; omega) rfl), _, _, rfl, rfl, Nat.le_of_lt (szl (m := 1000) (by simp; omega) rfl), ?_⟩
    walk_at "q0.v"
    rw [t2]
    refine ⟨_, _, rfl, rfl, by omega, by omega, Nat.le_of_lt (szl (m := 1000) (by simp; omega) rfl), _, _, rfl, rfl, Nat.le_of_lt (szl (m := 1000) (by simp; omega) rfl), ?_⟩
    show _ = _
    rw [e1, e2]
    rfl
  rintro ρ rfl
  obtain ⟨Z, hZ⟩ : ∃ Z : List Int, Z = List.zipWith (· + ·) g1 g2 := ⟨_, rfl⟩
  have lZ : Z.length = L := by rw [hZ, List.length_zipWith, lg1, lg2, Nat.min_self]
  have zp : ∀ {r : List Int} {n : Nat}, Lz a r → Lz a (r ++ List.replicate n 0) := fun {r n} h t ht => by
    rcases List.mem_append.mp ht with h2 | h2
    · exact h t h2
    · rw [List.eq_of_mem_replicate h2]
      unfold Lt2
      rw [Int.natAbs_zero]
      exact Nat.pow_pos (by decide)
  have zg1 : Lz a g1 := by rw [hg1]; exact zp z1
  have zg2 : Lz a g2 := by rw [hg2]; exact zp z2
  have zZ : Lz (a + 1) Z := fun t ht => by
    rw [hZ] at ht
    obtain ⟨i, hi, e⟩ := List.getElem_of_mem ht
    rw [List.getElem_zipWith] at e
    rw [← e]
    have h1 := zg1 _ (List.getElem_mem (l := g1) (n := i) (by simp at hi; omega))
    have h2 := zg2 _ (List.getElem_mem (l := g2) (n := i) (by simp at hi; omega))
    unfold Lt2 at *
    rw [Nat.pow_succ]
    omega
  have eZ : trim (ql Z) = trim (padd (ql r1) (ql r2)) := by
    refine nm_ev (trim_nm _) (trim_nm _) fun x => ?_
    rw [ev_trim, ev_trim, ev_padd, hZ, ql_zip, ev_zad _ _ _ (by rw [ql_len, ql_len, lg1, lg2]), hg1, hg2, ev_pad, ev_pad]
  refine eb_one (es_ret ?_)
  walk_at "q0.v"
  refine ev_of_f (ef_lcZ [5, 6] S.c S.nd (own := [("_law_a", 5), ("_law_b", 6)]) rfl rfl U.zip (egc_tup (n := 2) S.c (egcs_cons 5 S.nd rfl (egcs_cons 6 S.nd rfl egcs_nil))) (by change BlkOk ["_law_left", "_law_right", "_law_long", "_law_begin", "_law_end", "_law_a", "_law_b"] (defScope (top 32)) _ _; exact ⟨rfl, by decide +kernel, by decide +kernel, by decide +kernel, by decide +kernel⟩) (Ξ := fun ds => ds = Z.map PyData.int) ?_) ?_
  · walk_at "q0.v"
    refine ⟨_, _, .inl ⟨rfl, rfl⟩, fun j acc => acc = (Z.map PyData.int).take j, rfl, ?_, fun acc e => tkN (by rw [List.length_map, List.length_map, List.length_map, lg1, lg2, lZ, Nat.min_self]) e⟩
    rintro j d acc B' hB hj ⟨z, w2, hz, hw, rfl⟩ rfl
    obtain ⟨x, hx, rfl⟩ := ints_at hz
    obtain ⟨y, hy, rfl⟩ := ints_at hw
    have ax : Z[j]? = some (x + y) := by rw [hZ, List.getElem?_zipWith, hx, hy]
    refine ⟨_, rfl, rfl, _, _, rfl, _, _, rfl, rfl, ?_⟩
    intro s1 H1 C cl fp
    refine eve_same S fun S1 => ?_
    walk_at "q0.v"
    exact tkL (by rw [List.getElem?_map, ax]; rfl) (by rw [List.length_map]; omega)
  rintro _ rfl
  walk_at "q0.v"
  refine ⟨Z, rfl, by omega, fun m hm hq => ?_⟩
  refine hΦ m (by rw [hq, eZ]) ?_ (lzT zZ hm)
  obtain ⟨n, rfl⟩ := hm
  rw [List.length_take]
  omega

def onesF (p : PyData → Bool) (ds : List PyData) : List PyData := (ds.filter p).map fun _ => PyData.int 1
theorem onesF_len (p : PyData → Bool) (ds : List PyData) : (onesF p ds).length ≤ ds.length := by
  unfold onesF
  rw [List.length_map]
  exact List.length_filter_le ..
theorem onesF_step {p : PyData → Bool} {ds : List PyData} {k : Nat} {d : PyData} (h : ds[k]? = some d) : onesF p (ds.take (k + 1)) = onesF p (ds.take k) ++ (if p d then [PyData.int 1] else []) := by
  have e : ds.take (k + 1) = ds.take k ++ [d] := by rw [List.take_add_one, h]; rfl
  unfold onesF
  rw [e, List.filter_append, List.map_append]
  congr 1
  cases hp : p d <;> simp [hp]
theorem onesF_none {p : PyData → Bool} {ds : List PyData} : PyData.eqv (.list (onesF p ds)) (.list []) = ds.all (fun d => !p d) := by
  unfold onesF
  induction ds with
  | nil => rfl
  | cons d r ih =>
    cases hp : p d with
    | true =>
      rw [List.filter_cons_of_pos hp, List.all_cons, hp]
      rfl
    | false =>
      rw [List.filter_cons_of_neg (by rw [hp]; decide), List.all_cons, hp]
      exact ih
theorem shaped_ones (p : PyData → Bool) (ds : List PyData) : SeqAt.shaped (.list (onesF p ds)) = true := by
  have e : onesF p ds = (((ds.filter p).map fun _ => (1 : Int)).map PyData.int) := by
    unfold onesF; rw [List.map_map]; rfl
  rw [e]
  exact shapedInts _
theorem eqv_low {t u : Int} (hu : 0 < u) : PyData.eqv (fr ((t : Rat) / (u : Rat))) (.tuple [.int t, .int u]) = decide (Nat.gcd t.natAbs u.natAbs = 1) := by
  have e : ∀ q : Rat, PyData.eqv (fr q) (.tuple [.int t, .int u]) = (decide (q.num = t) && (decide ((q.den : Int) = u) && true)) := fun q => rfl
  rw [e, Bool.and_true, ← Bool.decide_and]
  have key : ∀ q : Rat, q.num = t → (q.den : Int) = u → Nat.gcd t.natAbs u.natAbs = 1 := fun q h1 h2 => by
    subst h1
    rw [← h2, Int.natAbs_natCast]
    exact q.reduced
  refine decide_eq_decide.mpr ⟨fun ⟨h1, h2⟩ => key _ h1 h2, fun h => ?_⟩
  rw [low_num hu, low_den hu, h]
  simp
def Rlisfr (ss : List Sl) (Φ : PyData → Prop) : Prop := ∃ d : PyData, ss = [.dat d] ∧ FrK 7000 d ∧ Φ (.bool (isFr d))
section
local macro_rules | `(tactic| walk_at "q0.shp") => `(tactic| first | exact shaped_ones _ _ | rfl | exact shapedFr _)
theorem sclisfr : FnScope ["_law_thing", "_law_item"] ["_law_thing"] (defScope (top 35)) := ⟨rfl, rfl, rfl, by decide +kernel, rfl, by decide +kernel, by decide +kernel⟩
theorem filisfr {P : Program} {w : World} {K : PySem.W.Frag} {mg : Str → Option Value} {base : Heap} {f : Addr} {fd : FuncData} (F : Fun K "_law_is_fraction" "_law_is_fraction" (top 35) f fd) (hm : mg "_law_is_fraction" = some (.ref f)) (T : Txt mg) (U : TxL mg) (F1 : Fi P w K mg base 1 "_law_cut" (top 27) ["_law_top", "_law_bottom"] Rcut) : Fi P w K mg base 2 "_law_is_fraction" (top 35) ["_law_thing"] Rlisfr := by
  have sc := sclisfr
  refine fi_ofS F sc hm (F.binds fun _ _ _ _ _ _ us hl => match us, hl with | [_], _ => rfl) (fun ss Φ ⟨_, e, _⟩ => by rw [e]; exact ⟨rfl, rfl⟩) ?_
  rintro X B ss Φ ⟨cdv, A, out, s, H, rfl⟩ S hr ⟨d, rfl, hc, hΦ⟩
  cases d with
  | tuple ds =>
    walk_at "q0.v0"
    refine onF' rfl ?_
    walk_at "q0.v"
    rw [eqv_int]
    by_cases h2 : ds.length = 2
    · refine onF (by simp [h2]) ?_
      match ds, h2 with
      | [a, b], _ =>
        walk_at "q0.v"
        refine ev_of_f (ef_lcTI [1] S.c S.nd (own := [("_law_item", 1)]) rfl (egc_name 1 S.nd rfl) (by change BlkOk ["_law_thing", "_law_item"] (defScope (top 35)) _ _; exact ⟨rfl, by decide +kernel, by decide +kernel, by decide +kernel, by decide +kernel⟩) (Ξ := fun es => es = onesF (fun d => !isIntD d) [a, b]) ?_) ?_
        · walk_at "q0.v"
          refine ⟨_, rfl, fun k acc => acc = onesF (fun d => !isIntD d) ([a, b].take k), rfl, ?_, fun acc e => e⟩
          rintro k d acc B' hB hk hd rfl
          have st := onesF_step (p := fun d => !isIntD d) hd
          intro s1 H1 C cl fp
          refine evt_same S fun S1 => ?_
          have hl : (onesF (fun d => !isIntD d) ([a, b].take k)).length < sizeLine := by
            have := onesF_len (fun d => !isIntD d) ([a, b].take k)
            refine szl (m := 1000) (Nat.le_trans this ?_) rfl
            rw [List.length_take]; simp; omega
          cases d with
          | int i =>
            walk_at "q0.v"
            refine onF' rfl ?_
            walk_at "q0.v"
            exact ⟨fun z => (nomatch z), fun _ => by show onesF _ _ = onesF _ _; rw [st]; simp [isIntD]⟩
          | bool c =>
            walk_at "q0.v"
            refine onF' rfl ?_
            walk_at "q0.v"
            refine ⟨fun _ => ?_, fun z => (nomatch z)⟩
            intro s2 H2 C2 cl2 fp2
            refine eve_same S fun S2 => ?_
            walk_at "q0.v"
            exact ⟨hl, by show onesF _ _ ++ _ = onesF _ _; rw [st]; simp [isIntD]⟩
          | _ =>
            walk_at "q0.v"
            refine onT' rfl ⟨fun _ => ?_, fun z => (nomatch z)⟩
            intro s2 H2 C2 cl2 fp2
            refine eve_same S fun S2 => ?_
            walk_at "q0.v"
            exact ⟨hl, by show onesF _ _ ++ _ = onesF _ _; rw [st]; simp [isIntD]⟩
        rintro _ rfl
        walk_at "q0.v"
        rw [onesF_none]
        have e0 : ([a, b].all fun d => !!isIntD d) = (isIntD a && isIntD b) := by simp
        rw [e0]
        cases ha : isIntD a with
        | false =>
          refine onT rfl ?_
          walk_at "q0.v"
          have e : isFr (.tuple [a, b]) = false := by show (isIntD a && _) = false; rw [ha]; rfl
          rw [e] at hΦ
          exact hΦ
        | true =>
          cases hb : isIntD b with
          | false =>
            refine onT rfl ?_
            walk_at "q0.v"
            have e : isFr (.tuple [a, b]) = false := by show (isIntD a && (isIntD b && _)) = false; rw [ha, hb]; rfl
            rw [e] at hΦ
            exact hΦ
          | true =>
            obtain ⟨t, rfl⟩ := isIntD_ex ha
            obtain ⟨u, rfl⟩ := isIntD_ex hb
            have e1 : isFr (.tuple [.int t, .int u]) = (decide (0 < u) && decide (Nat.gcd t.natAbs u.natAbs = 1)) := rfl
            rw [e1] at hΦ
            refine onF rfl ?_
            walk_at "q0.v"
            by_cases hu : 0 < u
            · rw [decide_eq_true hu, Bool.true_and] at hΦ
              refine onT (decide_eq_true hu) ?_
              walk_at "q0.v"
              refine ⟨_, _, rfl, hu, (hc t u rfl).2.mono (by decide), ?_⟩
              walk_at "q0.v"
              rw [eqv_low hu]
              exact hΦ
            · rw [decide_eq_false hu] at hΦ
              exact onF (decide_eq_false hu) hΦ
    · refine onT (by simp; omega) ?_
      walk_at "q0.v"
      rw [isFr_len h2] at hΦ
      exact hΦ
  | _ =>
    walk_at "q0.v0"
    refine onT' rfl (onT rfl ?_)
    walk_at "q0.v"
    exact hΦ
end

def Rlispol (ss : List Sl) (Φ : PyData → Prop) : Prop := ∃ d : PyData, ss = [.dat d] ∧ PlC d ∧ Φ (.bool (isPol d))
section
local macro_rules | `(tactic| walk_at "q0.shp") => `(tactic| exact shaped_ones _ _)
theorem sclispol : FnScope ["_law_thing", "_law_item"] ["_law_thing"] (defScope (top 36)) := ⟨rfl, rfl, rfl, by decide +kernel, rfl, by decide +kernel, by decide +kernel⟩
theorem filispol {P : Program} {w : World} {K : PySem.W.Frag} {mg : Str → Option Value} {base : Heap} {f : Addr} {fd : FuncData} (F : Fun K "_law_is_polynomial" "_law_is_polynomial" (top 36) f fd) (hm : mg "_law_is_polynomial" = some (.ref f)) (T : Txt mg) (U : TxL mg) (F1 : Fi P w K mg base 2 "_law_is_fraction" (top 35) ["_law_thing"] Rlisfr) : Fi P w K mg base 3 "_law_is_polynomial" (top 36) ["_law_thing"] Rlispol := by
  have sc := sclispol
  refine fi_ofS F sc hm (F.binds fun _ _ _ _ _ _ us hl => match us, hl with | [_], _ => rfl) (fun ss Φ ⟨_, e, _⟩ => by rw [e]; exact ⟨rfl, rfl⟩) ?_
  rintro X B ss Φ ⟨cdv, A, out, s, H, rfl⟩ S hr ⟨d, rfl, hpl, hΦ⟩
  cases d with
  | tuple ds =>
    obtain ⟨hn8, hfr⟩ := hpl ds rfl
    have hn : ds.length ≤ 1000 := Nat.le_trans hn8 (by decide)
    walk_at "q0.v0"
    refine onF' rfl ?_
    walk_at "q0.v"
    refine ev_of_f (ef_lcTI [1] S.c S.nd (own := [("_law_item", 1)]) rfl (egc_name 1 S.nd rfl) (by change BlkOk ["_law_thing", "_law_item"] (defScope (top 36)) _ _; exact ⟨rfl, by decide +kernel, by decide +kernel, by decide +kernel, by decide +kernel⟩) (Ξ := fun es => es = onesF (fun d => !isFr d) ds) ?_) ?_
    · walk_at "q0.v"
      refine ⟨_, rfl, fun k acc => acc = onesF (fun d => !isFr d) (ds.take k), rfl, ?_, fun acc e => by rw [e, List.take_length]⟩
      rintro k d acc B' hB hk hd rfl
      have st := onesF_step (p := fun d => !isFr d) hd
      have hl : (onesF (fun d => !isFr d) (ds.take k)).length < sizeLine := by
        have := onesF_len (fun d => !isFr d) (ds.take k)
        refine szl (m := 1000) (Nat.le_trans this ?_) rfl
        rw [List.length_take]; omega
      intro s1 H1 C cl fp
      refine evt_same S fun S1 => ?_
      walk_at "q0.v"
      refine ⟨d, rfl, fun t u e => ((hfr d (List.mem_of_getElem? hd)) t u e).imp (fun h => h.mono (by decide)) (fun h => h.mono (by decide)), ?_⟩
      cases hb : isFr d with
      | true => exact ⟨true, rfl, fun z => (nomatch z), fun _ => by show onesF _ _ = onesF _ _; rw [st]; simp [hb]⟩
      | false =>
        refine ⟨false, rfl, fun _ => ?_, fun z => (nomatch z)⟩
        intro s2 H2 C2 cl2 fp2
        refine eve_same S fun S2 => ?_
        walk_at "q0.v"
        exact ⟨hl, by show onesF _ _ ++ _ = onesF _ _; rw [st]; simp [hb]⟩
    rintro _ rfl
    walk_at "q0.v"
    rw [onesF_none]
    have e0 : (ds.all fun d => !!isFr d) = ds.all isFr := by simp
    rw [e0]
    cases hb : ds.all isFr with
    | false =>
      refine onT rfl ?_
      walk_at "q0.v"
      have e : isPol (.tuple ds) = false := by
        show (ds.all isFr && _) = false
        rw [hb]; rfl
      rw [e] at hΦ
      exact hΦ
    | true =>
      obtain ⟨p, rfl⟩ := allFr_ex hb
      refine onF rfl (eb_nil ?_)
      have hΦ : Φ (.bool (isPol (pol p))) := hΦ
      rw [isPol_pol] at hΦ
      show EvB _ _ [some (.dat (pol p)), none] _ _
      walk_at "q0.v0"
      by_cases h0 : p = []
      · subst h0
        refine onT' rfl ?_
        exact hΦ
      refine onF' (eqNo h0) ?_
      have hn0 : 0 < p.length := List.length_pos_iff.mpr h0
      obtain ⟨c, hc⟩ : ∃ c, p[p.length - 1]? = some c := ⟨_, List.getElem?_eq_getElem (by omega)⟩
      have cD : p.getD (p.length - 1) 0 = c := by rw [List.getD_eq_getElem?_getD, hc]; rfl
      walk_at "q0.v"
      refine ix_tup (d := fr c) (by rw [atI_last (by rw [List.length_map]; exact hn0), List.length_map, List.getElem?_map, hc]; rfl) ?_
      walk_at "q0.v"
      rw [eqv_int]
      have e : (!decide (c.num = 0)) = nmB p := by
        unfold nmB
        rw [cD]
        have e2 : p.isEmpty = false := by cases p with
          | nil => exact absurd rfl h0
          | cons c r => rfl
        rw [e2, Bool.false_or]
      rw [← e] at hΦ
      exact hΦ
  | _ =>
    walk_at "q0.v0"
    refine onT' rfl (onT rfl ?_)
    walk_at "q0.v"
    exact hΦ
end

theorem itm_sz {b e s r : PyData} (c : ItmC (.tuple [b, e, s, r])) : FrK 7000 b ∧ FrK 7000 e ∧ PlC s ∧ PlC r := by
  obtain ⟨c1, c2, c3, c4⟩ := c b e s r rfl
  exact ⟨fun t u h => (c1 t u h).imp (fun h => h.mono (by decide)) (fun h => h.mono (by decide)), fun t u h => (c2 t u h).imp (fun h => h.mono (by decide)) (fun h => h.mono (by decide)), c3, c4⟩
def Rlisitm (ss : List Sl) (Φ : PyData → Prop) : Prop := ∃ d : PyData, ss = [.dat d] ∧ ItmC d ∧ Φ (.bool (isItm d))
theorem sclisitm : FnScope ["_law_thing"] ["_law_thing"] (defScope (top 38)) := ⟨rfl, rfl, rfl, by decide +kernel, rfl, by decide +kernel, by decide +kernel⟩
theorem filisitm {P : Program} {w : World} {K : PySem.W.Frag} {mg : Str → Option Value} {base : Heap} {f : Addr} {fd : FuncData} (F : Fun K "_law_is_item" "_law_is_item" (top 38) f fd) (hm : mg "_law_is_item" = some (.ref f)) (T : Txt mg) (U : TxL mg) (F1 : Fi P w K mg base 2 "_law_is_fraction" (top 35) ["_law_thing"] Rlisfr) (F2 : Fi P w K mg base 1 "_law_cmp" (top 28) ["_law_left", "_law_right"] Rcmp) (F3 : Fi P w K mg base 3 "_law_is_polynomial" (top 36) ["_law_thing"] Rlispol) : Fi P w K mg base 4 "_law_is_item" (top 38) ["_law_thing"] Rlisitm := by
  have sc := sclisitm
  refine fi_ofS F sc hm (F.binds fun _ _ _ _ _ _ us hl => match us, hl with | [_], _ => rfl) (fun ss Φ ⟨_, e, _⟩ => by rw [e]; exact ⟨rfl, rfl⟩) ?_
  rintro X B ss Φ ⟨cdv, A, out, s, H, rfl⟩ S hr ⟨d, rfl, hc, hΦ⟩
  cases d with
  | tuple ds =>
    walk_at "q0.v0"
    refine onF' rfl ?_
    walk_at "q0.v"
    rw [eqv_int]
    by_cases h4 : ds.length = 4
    · refine onF (by simp [h4]) ?_
      match ds, h4 with
      | [b, e, s, r], _ =>
        obtain ⟨sb, se, cs, cr⟩ := itm_sz hc
        obtain ⟨cb, ce, _, _⟩ := hc b e s r rfl
        have e0 : isItm (.tuple [b, e, s, r]) = (isFr b && (isFr e && (decide (frOf b < frOf e) && (isPol s && isPol r)))) := rfl
        rw [e0] at hΦ
        refine eb_nil ?_
        walk_at "q0.v0"
        refine ⟨b, rfl, sb, ?_⟩
        cases hb : isFr b with
        | false =>
          rw [hb] at hΦ
          refine ⟨false, rfl, onT' rfl (onT rfl ?_)⟩
          walk_at "q0.v"
          exact hΦ
        | true =>
          rw [hb, Bool.true_and] at hΦ
          refine ⟨true, rfl, onF' rfl ?_⟩
          walk_at "q0.v"
          refine ⟨e, rfl, se, ?_⟩
          cases he : isFr e with
          | false =>
            rw [he] at hΦ
            refine ⟨false, rfl, onT rfl ?_⟩
            walk_at "q0.v"
            exact hΦ
          | true =>
            rw [he, Bool.true_and] at hΦ
            refine ⟨true, rfl, onF rfl (eb_nil ?_)⟩
            obtain ⟨qb, rfl⟩ := isFr_ex hb
            obtain ⟨qe, rfl⟩ := isFr_ex he
            rw [frOf_fr, frOf_fr] at hΦ
            walk_at "q0.v0"
            refine ⟨qb, qe, rfl, cb.sz.mono (by decide), ce.sz.mono (by decide), ?_⟩
            walk_at "q0.v"
            rw [show decide (rsgn (qb - qe) < 0) = decide (qb < qe) from decide_eq_decide.mpr rsgn_lt0]
            by_cases hl : qb < qe
            · rw [decide_eq_true hl, Bool.true_and] at hΦ
              refine onT (decide_eq_true hl) ?_
              walk_at "q0.v"
              refine ⟨s, rfl, cs, ?_⟩
              cases hs : isPol s with
              | false =>
                rw [hs] at hΦ
                exact ⟨false, rfl, fun z => (nomatch z), fun _ => hΦ⟩
              | true =>
                rw [hs, Bool.true_and] at hΦ
                refine ⟨true, rfl, fun _ => ?_, fun z => (nomatch z)⟩
                walk_at "q0.v"
                exact ⟨r, rfl, cr, hΦ⟩
            · rw [decide_eq_false hl] at hΦ
              exact onF (decide_eq_false hl) hΦ
    · refine onT (by simp; omega) ?_
      walk_at "q0.v"
      rw [isItm_len h4] at hΦ
      exact hΦ
  | _ =>
    walk_at "q0.v0"
    refine onT' rfl (onT rfl ?_)
    walk_at "q0.v"
    exact hΦ

theorem ev_psc' (f : Rat) (p : List Rat) (x : Rat) : ev (psc f p) x = f * ev p x := ev_psc f p x
def Rlints (ss : List Sl) (Φ : PyData → Prop) : Prop := ∃ p : List Rat, ss = [.dat (pol p)] ∧ p.length ≤ 8 ∧ Pz 40 p ∧ ∀ (r : List Int) (D : Nat), 0 < D → Lt2 (D : Int) 321 → r.length = p.length → ql r = psc (D : Rat) p → Lz 400 r → Φ (.tuple [intsD r, .int (D : Nat)])
theorem sclints : FnScope ["_law_poly", "_law_down", "_law_item"] ["_law_poly"] (defScope (top 37)) := ⟨rfl, rfl, rfl, by decide +kernel, rfl, by decide +kernel, by decide +kernel⟩
theorem filints {P : Program} {w : World} {K : PySem.W.Frag} {mg : Str → Option Value} {base : Heap} {f : Addr} {fd : FuncData} (F : Fun K "_law_ints" "_law_ints" (top 37) f fd) (hm : mg "_law_ints" = some (.ref f)) (T : Txt mg) (U : TxL mg) : Fi P w K mg base 1 "_law_ints" (top 37) ["_law_poly"] Rlints := by
  have sc := sclints
  refine fi_ofS F sc hm (F.binds fun _ _ _ _ _ _ us hl => match us, hl with | [_], _ => rfl) (fun ss Φ ⟨_, e, _⟩ => by rw [e]; exact ⟨rfl, rfl⟩) ?_
  rintro X B ss Φ ⟨cdv, A, out, s, H, rfl⟩ S hr ⟨p, rfl, lp, zp, hΦ⟩
  refine eb_cons (es_st S (i := 1) (by walk_at "q0.at") (by first | exact .inl rfl | exact .inr rfl) (ev_int ?_))
  refine eb_cons (es_forT S.po S.c (eg_nm S (i := 2) (by walk_at "q0.at") (by first | exact .inl rfl | exact .inr rfl)) ?_)
  walk_at "q0.v"
  refine ⟨_, rfl, fun j ρ => ∃ (D : Nat) (t : Option Sl), 0 < D ∧ D ≤ 2 ^ (40 * j) ∧ (∀ c ∈ p.take j, c.den ∣ D) ∧ ρ = [some (.dat (pol p)), some (.dat (.int (D : Nat))), t], ⟨1, none, by decide, by simp, fun c h => (by simp at h), rfl⟩, ?_, ?_⟩
  · rintro j y ρ hj hy ⟨D, t, D0, D1, hd, rfl⟩
    obtain ⟨c, hc, rfl⟩ := frs_at hy
    have zc := zp c (List.mem_of_getElem? hc)
    have dc := den_pos c
    rw [List.length_map] at hj
    have zD : Lt2 (D : Int) 321 := by
      unfold Lt2
      rw [Int.natAbs_natCast]
      exact Nat.lt_of_le_of_lt (Nat.le_trans D1 (Nat.pow_le_pow_right (by decide) (show 40 * j ≤ 320 by omega))) (by decide)
    have up : D ≤ 2 ^ (40 * (j + 1)) := Nat.le_trans D1 (Nat.pow_le_pow_right (by decide) (by omega))
    walk_at "q0.v0"
    rw [eqv_int]
    by_cases h : (D : Int) % (c.den : Int) = 0
    · refine onF (by rw [decide_eq_true h]; rfl) ?_
      walk_at "q0.v"
      refine ⟨D, _, D0, up, fun x hx => ?_, rfl⟩
      rw [take_succ hc] at hx
      rcases List.mem_append.mp hx with h2 | h2
      · exact hd x h2
      · rw [List.mem_singleton.mp h2]
        exact Int.natCast_dvd_natCast.mp (Int.dvd_of_emod_eq_zero h)
    · refine onT (by rw [decide_eq_false h]; rfl) ?_
      refine eb_one (es_st S (i := 1) (by walk_at "q0.at") (by first | exact .inl rfl | exact .inr rfl) ?_)
      walk_at "q0.v"
      refine ⟨D * c.den, _, Nat.mul_pos D0 c.den_pos, ?_, fun x hx => ?_, by rw [Int.natCast_mul]; rfl⟩
      · rw [show 40 * (j + 1) = 40 * j + 40 by omega, Nat.pow_add]
        exact Nat.mul_le_mul D1 (Nat.le_of_lt zc.2)
      · rw [take_succ hc] at hx
        rcases List.mem_append.mp hx with h2 | h2
        · exact Nat.dvd_trans (hd x h2) (Nat.dvd_mul_right _ _)
        · rw [List.mem_singleton.mp h2]
          exact Nat.dvd_mul_left _ _
  rintro ρ ⟨D, t, D0, D1, hd, rfl⟩
  rw [List.length_map] at D1 hd
  rw [List.take_length] at hd
  have zD : Lt2 (D : Int) 321 := by
    unfold Lt2
    rw [Int.natAbs_natCast]
    exact Nat.lt_of_le_of_lt (Nat.le_trans D1 (Nat.pow_le_pow_right (by decide) (show 40 * p.length ≤ 320 by omega))) (by decide)
  obtain ⟨r, hr2⟩ : ∃ r : List Int, r = p.map fun c => c.num * ((D : Int) / (c.den : Int)) := ⟨_, rfl⟩
  have zq : ∀ c : Rat, Lt2 ((D : Int) / (c.den : Int)) 321 := fun c => by
    have := Int.natAbs_ediv_le_natAbs (D : Int) (c.den : Int)
    unfold Lt2 at zD ⊢
    omega
  have zr : Lz 400 r := fun t ht => by
    rw [hr2] at ht
    obtain ⟨c, hc, rfl⟩ := List.mem_map.mp ht
    exact (mulm (zp c hc).nn (zq c)).mono (by decide)
  have er : ql r = psc (D : Rat) p := by
    rw [hr2]
    unfold ql psc
    rw [List.map_map]
    exact List.map_congr_left fun c hc => row_one c D (hd c hc)
  refine eb_one (es_ret ?_)
  walk_at "q0.v"
  refine ev_of_f (ef_lcT [2] S.c S.nd (own := [("_law_item", 2)]) rfl (egc_name 2 S.nd rfl) (by change BlkOk ["_law_poly", "_law_down", "_law_item"] (defScope (top 37)) _ _; exact ⟨rfl, by decide +kernel, by decide +kernel, by decide +kernel, by decide +kernel⟩) (Ξ := fun ds => ds = r.map PyData.int) ?_) ?_
  · walk_at "q0.v"
    refine ⟨_, rfl, fun j acc => acc = (r.map PyData.int).take j, rfl, ?_, fun acc e => tkN (by rw [hr2]; simp) e⟩
    rintro j y acc B' hB hj hy rfl
    obtain ⟨c, hc, rfl⟩ := frs_at hy
    have zc := zp c (List.mem_of_getElem? hc)
    have dc := den_pos c
    intro s1 H1 C cl fp
    refine eve_same S fun S1 => ?_
    walk_at "q0.v"
    all_goals first
      | ((with_reducible show CMulW _ _); exact w_mul zc.nn (zq c) (by decide))
      | exact w_div dc (zc.dd.mono (by decide)) (by decide)
      | exact tkL (by rw [hr2]; simp [hc]) (by rw [hr2]; simp; omega)
  rintro _ rfl
  walk_at "q0.v"
  exact hΦ r D D0 zD (by rw [hr2, List.length_map]) er zr

theorem gL_sc (b e f : Rat) : ∀ r : List Rat, gL b e (psc f r) = (gL b e r).map (f * ·) := fun r => by
  refine len_nat (by rw [List.length_map, gL_len, gL_len, psc_len]) fun k => ?_
  rw [ev_smap]
  have : ∀ r : List Rat, ∀ x, ev (gL b e (psc f r)) x = f * ev (gL b e r) x := by
    intro r x
    induction r with
    | nil => show (0 : Rat) = f * 0; grind
    | cons c r ih =>
      show ev (gL b e ((c * f) :: psc f r)) x = _
      rw [ev_gL, ev_gL, ih, psc_len]
      grind
  exact this r k
theorem gdB_sc {b e f : Rat} (hf : 0 < f) (r : List Rat) : gdB b e (psc f r) = gdB b e r := by
  have : gdB b e (psc f r) = true ↔ gdB b e r = true := by
    rw [gdB_iff, gdB_iff, gL_sc]
    constructor
    · intro h q hq
      have h2 := h (f * q) (List.mem_map_of_mem hq)
      refine Rat.not_lt.mp fun hl => ?_
      have h5 := Rat.mul_lt_mul_of_pos_left hl hf
      exact absurd h2 (Rat.not_le.mpr (by grind))
    · intro h q hq
      obtain ⟨t, ht, rfl⟩ := List.mem_map.mp hq
      exact Rat.mul_nonneg (Rat.le_of_lt hf) (h t ht)
  exact Bool.eq_iff_iff.mpr this
theorem trim_or : ∀ (p : List Rat) (c : Rat), c ∈ p → c ∈ trim p ∨ c = 0
  | [], c, h => nomatch h
  | a :: p, c, h => by
    rcases List.mem_cons.mp h with h1 | h1
    · subst h1
      by_cases h0 : c = 0
      · exact .inr h0
      · left
        unfold trim
        split
        · split
          · exact absurd ‹_› h0
          · exact List.mem_cons_self ..
        · exact List.mem_cons_self ..
    · rcases trim_or p c h1 with h2 | h2
      · left
        unfold trim
        split
        · rename_i e
          rw [e] at h2
          cases h2
        · rename_i d r e
          rw [e] at h2
          exact List.mem_cons_of_mem _ h2
      · exact .inr h2
theorem fin_all {F : List Int} {G : List Rat} {κ : Rat} (hk : 0 < κ) (hF : ql F = trim (psc κ G)) : F.all (fun c => !decide (c < 0)) = G.all fun q => decide (0 ≤ q) := by
  have : F.all (fun c => !decide (c < 0)) = true ↔ (G.all fun q => decide (0 ≤ q)) = true := by
    rw [List.all_eq_true, List.all_eq_true]
    constructor
    · intro h q hq
      refine decide_eq_true ?_
      rcases trim_or (psc κ G) (q * κ) (List.mem_map_of_mem hq) with h2 | h2
      · rw [← hF] at h2
        obtain ⟨c, hc, e1⟩ := List.mem_map.mp h2
        have h3 := h c hc
        have h4 : (0 : Int) ≤ c := by simpa using h3
        have h5 : (0 : Rat) ≤ q * κ := by rw [← e1]; exact_mod_cast h4
        refine Rat.not_lt.mp fun hl => ?_
        have h6 := Rat.mul_lt_mul_of_pos_left hl hk
        exact absurd h5 (Rat.not_le.mpr (by grind))
      · rcases Rat.mul_eq_zero.mp h2 with h3 | h3
        · rw [h3]; exact Rat.le_refl
        · rw [h3] at hk; exact absurd hk (by decide)
    · intro h c hc
      have hm : ((c : Int) : Rat) ∈ ql F := List.mem_map_of_mem hc
      rw [hF] at hm
      obtain ⟨q, hq, e1⟩ := List.mem_map.mp (trim_sub _ _ hm)
      have h3 : (0 : Rat) ≤ q := of_decide_eq_true (h q hq)
      have h4 : (0 : Rat) ≤ (c : Rat) := by rw [← e1]; exact Rat.mul_nonneg h3 (Rat.le_of_lt hk)
      have h5 : (0 : Int) ≤ c := by exact_mod_cast h4
      simpa using h5
  exact Bool.eq_iff_iff.mpr this
def ltB (d : PyData) : Bool := decide (intOf d < 0)
/-! what the law reckons a row to be from one place to another -/
def Rgood (ss : List Sl) (Φ : PyData → Prop) : Prop := ∃ (R : List Int) (b e : Rat), ss = [.dat (intsD R), .dat (fr b), .dat (fr e)] ∧ R.length ≤ 8 ∧ Lz 400 R ∧ Sz 26 b ∧ Sz 26 e ∧ Φ (.bool (gdB b e (ql R)))
section
local macro_rules | `(tactic| walk_at "q0.shp") => `(tactic| first | exact shaped_ones _ _ | rfl | decide +kernel)
theorem scgood : FnScope ["_law_row", "_law_begin", "_law_end", "_law_side", "_law_down", "_law_found", "_law_power", "_law_item", "_law_own"] ["_law_row", "_law_begin", "_law_end"] (defScope (top 39)) := ⟨rfl, rfl, rfl, by decide +kernel, rfl, by decide +kernel, by decide +kernel⟩
theorem figood {P : Program} {w : World} {K : PySem.W.Frag} {mg : Str → Option Value} {base : Heap} {f : Addr} {fd : FuncData} (F : Fun K "_law_is_good" "_law_is_good" (top 39) f fd) (hm : mg "_law_is_good" = some (.ref f)) (T : Txt mg) (U : TxL mg) (F1 : Fi P w K mg base 2 "_law_total" (top 32) ["_law_left", "_law_right"] Rltot) (F2 : Fi P w K mg base 1 "_law_product" (top 30) ["_law_left", "_law_right"] Rlprod) (F3 : Fi P w K mg base 1 "_law_by" (top 33) ["_law_row", "_law_much"] Rlby) : Fi P w K mg base 3 "_law_is_good" (top 39) ["_law_row", "_law_begin", "_law_end"] Rgood := by
  have sc := scgood
  refine fi_ofS F sc hm (F.binds fun _ _ _ _ _ _ us hl => match us, hl with | [_, _, _], _ => rfl) (fun ss Φ ⟨_, _, _, e, _⟩ => by rw [e]; exact ⟨rfl, rfl⟩) ?_
  rintro X B ss Φ ⟨cdv, A, out, s, H, rfl⟩ S hr ⟨R, b, e, rfl, lR, zR, zb, ze, hΦ⟩
  have db := den_pos b
  have de := den_pos e
  obtain ⟨s0, hs0⟩ : ∃ s0 : Int, s0 = b.num * (e.den : Int) := ⟨_, rfl⟩
  obtain ⟨s1, hs1⟩ : ∃ s1 : Int, s1 = e.num * (b.den : Int) := ⟨_, rfl⟩
  obtain ⟨dn, hdn⟩ : ∃ dn : Int, dn = (b.den : Int) * (e.den : Int) := ⟨_, rfl⟩
  have zs0 : Lt2 s0 53 := by rw [hs0]; exact (mulm zb.nn ze.dd).mono (by decide)
  have zs1 : Lt2 s1 53 := by rw [hs1]; exact (mulm ze.nn zb.dd).mono (by decide)
  have zdn : Lt2 dn 53 := by rw [hdn]; exact (mulm zb.dd ze.dd).mono (by decide)
  have pdn : 0 < dn := by rw [hdn]; exact Int.mul_pos db de
  have pdq : (0 : Rat) < (dn : Rat) := by exact_mod_cast pdn
  have e0 : (s0 : Rat) = dn * b := by
    rw [hs0, hdn]
    push_cast
    rw [num_den b]
    grind
  have e1 : (s1 : Rat) = dn * e := by
    rw [hs1, hdn]
    push_cast
    rw [num_den e]
    grind
  refine eb_cons (es_mono (N1 := fun ρ => ρ = [some (.dat (intsD R)), some (.dat (fr b)), some (.dat (fr e)), some (.dat (intsD [s0, s1])), none, none, none, none, none]) (es_st S (i := 3) (by walk_at "q0.at") (by first | exact .inl rfl | exact .inr rfl) ?_) ?_)
  · walk_at "q0.v"
    all_goals first
      | ((with_reducible show CMulW _ _); first | exact w_mul zb.nn ze.dd (by decide) | exact w_mul ze.nn zb.dd (by decide))
      | (rw [hs0, hs1]; rfl)
  rintro ρ rfl
  refine eb_cons (es_mono (N1 := fun ρ => ρ = [some (.dat (intsD R)), some (.dat (fr b)), some (.dat (fr e)), some (.dat (intsD [s0, s1])), some (.dat (.int dn)), some (.dat (intsD [])), some (.dat (intsD [1])), none, none]) (es_p3 S (i := 4) (j := 5) (l := 6) (by walk_at "q0.at") (by walk_at "q0.at") (by walk_at "q0.at") rfl rfl rfl ?_) ?_)
  · walk_at "q0.v"
    all_goals first
      | ((with_reducible show CMulW _ _); exact w_mul zb.dd ze.dd (by decide))
      | (rw [hdn]; rfl)
  rintro ρ rfl
  have lt1 : Lt2 1 1 := by unfold Lt2; decide
  refine eb_cons (es_mono (N1 := fun ρ => ∃ (F : List Int) (t6 t7 : Option Sl), F.length ≤ 8 ∧ (∀ x : Rat, ev (ql F) x * dn = (dn : Rat) ^ R.length * ev (gL b e (ql R)) x) ∧ trim (ql F) = ql F ∧ ρ = [some (.dat (intsD R)), some (.dat (fr b)), some (.dat (fr e)), some (.dat (intsD [s0, s1])), some (.dat (.int dn)), some (.dat (intsD F)), t6, t7, none]) (es_rev S.po S.c rfl T.reversed (eg_nm S (i := 7) (by walk_at "q0.at") (by first | exact .inl rfl | exact .inr rfl)) ?_) ?_)
  · walk_at "q0.v"
    refine ⟨_, rfl, fun j ρ => ∃ (F Pw : List Int) (t7 : Option Sl), F.length ≤ j ∧ Lz (155 * j + 402) F ∧ trim (ql F) = ql F ∧ (∀ x : Rat, ev (ql F) x * dn = (dn : Rat) ^ j * ev (gL b e (ql (R.drop (R.length - j)))) x) ∧ Pw.length = j + 1 ∧ Lz (154 * j + 1) Pw ∧ (∀ x : Rat, ev (ql Pw) x = (dn : Rat) ^ j * (1 + x) ^ j) ∧
      ρ = [some (.dat (intsD R)), some (.dat (fr b)), some (.dat (fr e)), some (.dat (intsD [s0, s1])), some (.dat (.int dn)), some (.dat (intsD F)), some (.dat (intsD Pw)), t7, none], ⟨[], [1], none, Nat.le_refl _, (fun t h => (nomatch h)), rfl, fun x => ?_, rfl, fun t ht => ?_, fun x => ?_, rfl⟩, ?_, ?_⟩
    · rw [Nat.sub_zero, List.drop_length]
      show (0 : Rat) * dn = _ * 0
      grind
    · rw [List.mem_singleton.mp ht]
      exact lt1
    · show ((1 : Int) : Rat) + x * 0 = _
      rw [show ((1 : Int) : Rat) = 1 from rfl]
      grind
    · rintro j y ρ hj hy ⟨F, Pw, t7, lF, zF, nF, evF, lP, zP, evP, rfl⟩
      rw [List.length_map] at hj hy
      obtain ⟨c, hc, rfl⟩ := ints_at hy
      have zc : Lt2 c 400 := zR.get hc
      have hdr : R.drop (R.length - (j + 1)) = c :: R.drop (R.length - j) := by
        rw [show R.length - (j + 1) = R.length - 1 - j by omega, drop_cons hc, show R.length - 1 - j + 1 = R.length - j by omega]
      have ld : (ql (R.drop (R.length - j))).length = j := by rw [ql_len, List.length_drop]; omega
      have zs : Lz 53 [s0, s1] := fun t ht => by
        rcases List.mem_cons.mp ht with h | h
        · rw [h]; exact zs0
        · rw [List.mem_singleton.mp h]; exact zs1
      have zd2 : Lz 53 [dn, dn] := fun t ht => by
        rcases List.mem_cons.mp ht with h | h
        · rw [h]; exact zdn
        · rw [List.mem_singleton.mp h]; exact zdn
      refine eb_cons (es_mono (N1 := fun ρ => ∃ F' : List Int, F'.length ≤ j + 1 ∧ Lz (155 * (j + 1) + 402) F' ∧ trim (ql F') = ql F' ∧ (∀ x : Rat, ev (ql F') x = ev (ql F) x * (dn * (b + e * x)) + c * ((dn : Rat) ^ j * (1 + x) ^ j)) ∧ ρ = [some (.dat (intsD R)), some (.dat (fr b)), some (.dat (fr e)), some (.dat (intsD [s0, s1])), some (.dat (.int dn)), some (.dat (intsD F')), some (.dat (intsD Pw)), some (.dat (.int c)), none]) (es_st S (i := 5) (by walk_at "q0.at") (by first | exact .inl rfl | exact .inr rfl) ?_) ?_)
      · walk_at "q0.v"
        refine ⟨F, [s0, s1], 10, 155 * j + 402, 53, rfl, by omega, Nat.le_of_ble_eq_true rfl, by decide, zF, zs, by omega, by decide, fun m hm0 hm1 hmev zm => ?_⟩
        walk_at "q0.v"
        refine ⟨Pw, c, 154 * j + 1, 400, rfl, by omega, zP, zc, by omega, ?_⟩
        have zby : Lz (155 * j + 556) (Pw.map (c * ·)) := fun t ht => by
          obtain ⟨u, hu, rfl⟩ := List.mem_map.mp ht
          exact (mulm zc (zP u hu)).mono (by omega)
        have lm : m.length ≤ j + 1 := by
          by_cases h : F = []
          · rw [hm0 (.inl h)]; simp
          · rw [hm1 h (by simp)]
            simp
            omega
        walk_at "q0.v"
        refine ⟨m, Pw.map (c * ·), 155 * j + 556, rfl, by omega, by rw [List.length_map]; omega, lz_mono zm (by omega), zby, fun F' hF' lF' zF' => ?_⟩
        refine ⟨F', by rw [List.length_map] at lF'; omega, lz_mono zF' (by omega), by rw [hF']; exact trim_nm _, fun x => ?_, rfl⟩
        rw [hF', ev_trim, ev_padd, hmev]
        have h1 : ev (ql [s0, s1]) x = dn * (b + e * x) := by
          show (s0 : Rat) + x * ((s1 : Rat) + x * 0) = _
          rw [e0, e1]
          grind
        have h2 : ev (ql (Pw.map (c * ·))) x = c * ev (ql Pw) x := by
          have : ql (Pw.map (c * ·)) = (ql Pw).map ((c : Rat) * ·) := by
            unfold ql
            rw [List.map_map, List.map_map]
            refine List.map_congr_left fun u _ => ?_
            show ((c * u : Int) : Rat) = (c : Rat) * u
            rw [Rat.intCast_mul]
          rw [this, ev_smap]
        rw [h1, h2, evP]
      rintro ρ ⟨F', lF', zF', nF', evF', rfl⟩
      refine eb_one (es_st S (i := 6) (by walk_at "q0.at") (by first | exact .inl rfl | exact .inr rfl) ?_)
      walk_at "q0.v"
      refine ⟨Pw, [dn, dn], 10, 154 * j + 1, 53, rfl, by omega, Nat.le_of_ble_eq_true rfl, by decide, zP, zd2, by omega, by decide, fun m hm0 hm1 hmev zm => ?_⟩
      have pne : Pw ≠ [] := fun z => by rw [z] at lP; simp at lP
      refine ⟨F', m, some (.dat (.int c)), lF', zF', nF', fun x => ?_, ?_, lz_mono zm (by omega), fun x => ?_, rfl⟩
      · rw [evF', hdr]
        show _ = (dn : Rat) ^ (j + 1) * ev (gL b e ((c : Rat) :: ql (R.drop (R.length - j)))) x
        rw [ev_gL, ld, Rat.pow_succ]
        have h3 : (ev (ql F) x * ((dn : Rat) * (b + e * x)) + c * ((dn : Rat) ^ j * (1 + x) ^ j)) * dn = (ev (ql F) x * dn) * (dn * (b + e * x)) + c * ((dn : Rat) ^ j * (1 + x) ^ j) * dn := by grind
        rw [h3, evF]
        grind
      · rw [hm1 pne (by simp), lP]
        simp
      · rw [hmev, evP, Rat.pow_succ, Rat.pow_succ]
        show _ * ((dn : Rat) + x * ((dn : Rat) + x * 0)) = _
        grind
    · rintro ρ ⟨F, Pw, t7, lF, zF, nF, evF, lP, zP, evP, rfl⟩
      rw [List.length_map] at lF evF
      exact ⟨F, _, _, by omega, fun x => by have := evF x; rw [Nat.sub_self, List.drop_zero] at this; exact this, nF, rfl⟩
  rintro ρ ⟨F, t6, t7, lF, evF, nF, rfl⟩
  have pn : (0 : Rat) < (dn : Rat) ^ R.length / dn := by
    rw [Rat.div_def]
    exact Rat.mul_pos (Rat.pow_pos pdq) (Rat.inv_pos.mpr pdq)
  have key : ql F = trim (psc ((dn : Rat) ^ R.length / dn) (gL b e (ql R))) := by
    rw [← nF]
    refine nm_ev (trim_nm _) (trim_nm _) fun x => ?_
    rw [ev_trim, ev_trim, ev_psc]
    have := evF x
    grind
  have fa := fin_all pn key
  refine eb_one (es_ret ?_)
  walk_at "q0.v"
  refine ev_of_f (ef_lcI [8] S.c S.nd (own := [("_law_own", 8)]) rfl (egc_name 8 S.nd rfl) (by change BlkOk ["_law_row", "_law_begin", "_law_end", "_law_side", "_law_down", "_law_found", "_law_power", "_law_item", "_law_own"] (defScope (top 39)) _ _; exact ⟨rfl, by decide +kernel, by decide +kernel, by decide +kernel, by decide +kernel⟩) (Ξ := fun es => es = onesF ltB (F.map PyData.int)) ?_) ?_
  · walk_at "q0.v"
    refine ⟨_, rfl, fun k acc => acc = onesF ltB ((F.map PyData.int).take k), rfl, ?_, fun acc e => by rw [e, List.take_length]⟩
    rintro k d acc B' hB hk hd rfl
    have st := onesF_step (p := ltB) hd
    have hl : (onesF ltB ((F.map PyData.int).take k)).length < sizeLine := by
      have := onesF_len ltB ((F.map PyData.int).take k)
      refine szl (m := 1000) (Nat.le_trans this ?_) rfl
      rw [List.length_take, List.length_map]; omega
    obtain ⟨c, hc, rfl⟩ := ints_at hd
    intro s1' H1 C cl fp
    refine evt_same S fun S1 => ?_
    walk_at "q0.v"
    refine ⟨fun h => ?_, fun h => ?_⟩
    · intro s2 H2 C2 cl2 fp2
      refine eve_same S fun S2 => ?_
      walk_at "q0.v"
      refine ⟨hl, ?_⟩
      show onesF _ _ ++ _ = onesF _ _
      rw [st, if_pos (show ltB (.int c) = true from h)]
    · show onesF _ _ = onesF _ _
      rw [st, if_neg (by rw [show ltB (.int c) = false from h]; decide), List.append_nil]
  rintro _ rfl
  walk_at "q0.v"
  rw [onesF_none]
  have e2 : ((F.map PyData.int).all fun d => !ltB d) = F.all (fun c => !decide (c < 0)) := by rw [List.all_map]; rfl
  rw [e2, fa]
  exact hΦ
end

theorem ql_inj : ∀ {a b : List Int}, ql a = ql b → a = b
  | [], [], _ => rfl
  | [], _ :: _, h => by cases h
  | _ :: _, [], h => by cases h
  | x :: a, y :: b, h => by
    unfold ql at h
    rw [List.map_cons, List.map_cons] at h
    injection h with h1 h2
    rw [show x = y by exact_mod_cast h1, ql_inj h2]
theorem eqvIs : ∀ a b : List Int, PyData.eqvAll (a.map PyData.int) (b.map PyData.int) = decide (a = b)
  | [], [] => rfl
  | [], _ :: _ => rfl
  | _ :: _, [] => rfl
  | x :: a, y :: b => by
    have e : PyData.eqvAll ((x :: a).map PyData.int) ((y :: b).map PyData.int) = (PyData.eqv (.int x) (.int y) && PyData.eqvAll (a.map PyData.int) (b.map PyData.int)) := rfl
    rw [e, eqv_int, eqvIs a b, ← Bool.decide_and]
    exact decide_eq_decide.mpr (by simp)
theorem eqv_ints (a b : List Int) : PyData.eqv (intsD a) (intsD b) = decide (a = b) := by
  have e : PyData.eqv (intsD a) (intsD b) = PyData.eqvAll (a.map PyData.int) (b.map PyData.int) := rfl
  rw [e, eqvIs]
theorem eqv_lfr (p q : List Rat) : PyData.eqv (.list (p.map fr)) (.list (q.map fr)) = decide (p = q) := by
  have e : PyData.eqv (.list (p.map fr)) (.list (q.map fr)) = PyData.eqvAll (p.map fr) (q.map fr) := rfl
  rw [e, eqv_frs]
theorem shapedL (p : List Rat) : SeqAt.shaped (.list (p.map fr)) = true := by
  have d1 := dpFr p
  unfold SeqAt.shaped
  rw [Bool.and_eq_true, decide_eq_true_eq]
  refine ⟨?_, ?_⟩
  · show PyData.canLayAll0 (p.map fr) = true
    exact shFr p
  · simp only [PyData.depth]
    omega
theorem prod_q {m r1 r2 : List Int} (h0 : r1 = [] ∨ r2 = [] → m = []) (h1 : r1 ≠ [] → r2 ≠ [] → m.length = r1.length + r2.length - 1) (h2 : ∀ x : Rat, ev (ql m) x = ev (ql r1) x * ev (ql r2) x) : ql m = multQ (ql r1) (ql r2) := by
  have qe : ∀ {r : List Int}, ql r = [] ↔ r = [] := fun {r} => by unfold ql; exact List.map_eq_nil_iff
  by_cases e1 : r1 = []
  · rw [h0 (.inl e1), e1]
    rfl
  by_cases e2 : r2 = []
  · rw [h0 (.inr e2)]
    unfold multQ
    rw [if_pos (.inr (qe.mpr e2))]
    rfl
  have n1 : ql r1 ≠ [] := fun z => e1 (qe.mp z)
  have n2 : ql r2 ≠ [] := fun z => e2 (qe.mp z)
  have e : multQ (ql r1) (ql r2) = pmul (ql r1) (ql r2) := by unfold multQ; rw [if_neg (fun z => z.elim n1 n2)]
  rw [e]
  refine len_ext (by rw [ql_len, pmul_len n1 n2, ql_len, ql_len, h1 e1 e2]) fun x => ?_
  rw [h2, ev_pmul]
theorem nm_psc {f : Rat} (hf : f ≠ 0) {p : List Rat} (h : Nm p) : Nm (psc f p) := by
  show trim (psc f p) = psc f p
  rw [trim_psc hf]
  congr 1
theorem ql_by (k : Int) (r : List Int) : ql (r.map (k * ·)) = psc (k : Rat) (ql r) := by
  unfold ql psc
  rw [List.map_map, List.map_map]
  refine List.map_congr_left fun u _ => ?_
  show ((k * u : Int) : Rat) = (u : Rat) * k
  rw [Rat.intCast_mul]
  grind
/-- the law's test of what a root and a rest make is the program's -/
theorem made_eq {M L R Rw : List Int} {s r : List Rat} {D1 D2 : Nat} {dn : Int} (p1 : 0 < D1) (p2 : 0 < D2) (pd : 0 < dn) (ns : Nm s) (nr : Nm r) (nw : Nm (ql Rw)) (hL : ql L = psc (D1 : Rat) s) (hR : ql R = psc (D2 : Rat) r)
    (hM : ql M = multQ (multQ (ql L) (ql L)) (ql R)) : decide (M.map (dn * ·) = Rw.map (((D1 : Int) * D1 * D2) * ·)) = mkB s r (polQ Rw dn) := by
  have q1 : (D1 : Rat) ≠ 0 := by exact_mod_cast (show D1 ≠ 0 by omega)
  have q2 : (D2 : Rat) ≠ 0 := by exact_mod_cast (show D2 ≠ 0 by omega)
  have qd : (dn : Rat) ≠ 0 := fun z => by
    have : dn = 0 := by exact_mod_cast z
    omega
  have ek : (((D1 : Int) * D1 * D2 : Int) : Rat) = (D1 : Rat) * D1 * D2 := by push_cast; rfl
  have qk : (((D1 : Int) * D1 * D2 : Int) : Rat) ≠ 0 := by
    rw [ek]
    exact fun z => by
      rcases Rat.mul_eq_zero.mp z with z | z
      · rcases Rat.mul_eq_zero.mp z with z | z <;> exact q1 z
      · exact q2 z
  have nL : Nm (ql L) := by rw [hL]; exact nm_psc q1 ns
  have nR : Nm (ql R) := by rw [hR]; exact nm_psc q2 nr
  have nM : Nm (ql M) := by rw [hM]; exact nm_multQ (nm_multQ nL nL) nR
  have nP : Nm (polQ Rw dn) := by rw [polQ_eq]; exact nm_psc (by grind) nw
  have n2 : Nm (multQ (multQ s s) r) := nm_multQ (nm_multQ ns ns) nr
  unfold mkB
  refine decide_eq_decide.mpr ⟨fun h => ?_, fun h => ?_⟩
  · refine nm_ev n2 nP fun x => ?_
    have h1 : ev (ql (M.map (dn * ·))) x = ev (ql (Rw.map (((D1 : Int) * D1 * D2) * ·))) x := by rw [h]
    rw [ql_by, ql_by, ev_psc, ev_psc, hM, ev_multQ, ev_multQ, hL, hR, ev_psc, ev_psc, ek] at h1
    rw [ev_multQ, ev_multQ, polQ_eq, ev_psc]
    grind
  · refine ql_inj ?_
    rw [ql_by, ql_by]
    refine nm_ev (nm_psc qd nM) (nm_psc qk nw) fun x => ?_
    have h1 : ev (multQ (multQ s s) r) x = ev (polQ Rw dn) x := by rw [h]
    rw [ev_multQ, ev_multQ, polQ_eq, ev_psc] at h1
    rw [ev_psc, ev_psc, hM, ev_multQ, ev_multQ, hL, hR, ev_psc, ev_psc, ek]
    grind
theorem marks_eq : ∀ (xs : List It) (x0 : It) (lo : Rat), (x0 :: xs).map It.b = (lo :: (x0 :: xs).map It.e).dropLast ↔ x0.b = lo ∧ lkB (x0 :: xs) = true
  | [], x0, lo => by
    show [x0.b] = [lo] ↔ _
    simp [lkB]
  | y :: r, x0, lo => by
    have ih := marks_eq r y x0.e
    have e : (lo :: (x0 :: y :: r).map It.e).dropLast = lo :: (x0.e :: (y :: r).map It.e).dropLast := rfl
    rw [e]
    show x0.b :: (y :: r).map It.b = _ ↔ _
    rw [List.cons.injEq, ih]
    show _ ↔ x0.b = lo ∧ (decide (x0.e = y.b) && lkB (y :: r)) = true
    rw [Bool.and_eq_true, decide_eq_true_eq]
    exact ⟨fun ⟨h1, h2, h3⟩ => ⟨h1, h2.symm, h3⟩, fun ⟨h1, h2, h3⟩ => ⟨h1, h2.symm, h3⟩⟩

theorem cut_drop (ds : List PyData) (h : 0 < ds.length) : cutD ds none (some (-1)) = ds.dropLast := by
  unfold cutD
  rw [HT.sIx_none]
  have : HT.sIx ds.length ds.length (some (-1)) = ds.length - 1 := by
    show (if (-1 : Int) < 0 then ((-1 : Int) + (ds.length : Int)).toNat else min (-1 : Int).toNat ds.length) = _
    rw [if_pos (by decide)]
    omega
  rw [this, Nat.sub_zero, List.drop_zero, List.dropLast_eq_take]
theorem last_mk (x0 : It) (r0 : List It) (lo : Rat) : atI ((lo :: (x0 :: r0).map It.e).map fr) (-1) = some (fr ((x0 :: r0).getLast (by simp)).e) := by
  rw [atI_last (by simp)]
  have hl : ((lo :: (x0 :: r0).map It.e).map fr).length - 1 = r0.length + 1 := by simp
  rw [hl, List.getElem?_map, List.getElem?_cons_succ, List.getElem?_map, List.getElem?_eq_getElem (by simp : r0.length < (x0 :: r0).length), List.getLast_eq_getElem]
  rfl
def Rlpaper (ss : List Sl) (Φ : PyData → Prop) : Prop := ∃ (Rw : List Int) (dn : Int) (lo hi : Rat) (d : PyData), ss = [.dat (.tuple [intsD Rw, .int dn]), .dat (fr lo), .dat (fr hi), .dat d] ∧ 0 < dn ∧ Lt2 dn 100 ∧ Rw.length ≤ 8 ∧ Lz 100 Rw ∧ trim (ql Rw) = ql Rw ∧ ThC d ∧ Φ (.bool (shB (polQ Rw dn) lo hi d))
section
local macro_rules | `(tactic| walk_at "q0.shp") => `(tactic| first | exact shaped_ones _ _ | exact shapedL _ | exact shapedInts _ | exact shapedFr _ | rfl | decide +kernel)
theorem sclpaper : FnScope ["_law_goal", "_law_begin", "_law_end", "_law_thing", "_law_row", "_law_down", "_law_item", "_law_marks", "_law_first", "_law_last", "_law_root", "_law_rest", "_law_left", "_law_deep", "_law_right", "_law_under", "_law_made"] ["_law_goal", "_law_begin", "_law_end", "_law_thing"] (defScope (top 40)) := ⟨rfl, rfl, rfl, by decide +kernel, rfl, by decide +kernel, by decide +kernel⟩
theorem filpaper {P : Program} {w : World} {K : PySem.W.Frag} {mg : Str → Option Value} {base : Heap} {f : Addr} {fd : FuncData} (F : Fun K "_law_is_paper" "_law_is_paper" (top 40) f fd) (hm : mg "_law_is_paper" = some (.ref f)) (T : Txt mg) (U : TxL mg) (F1 : Fi P w K mg base 4 "_law_is_item" (top 38) ["_law_thing"] Rlisitm) (F2 : Fi P w K mg base 1 "_law_ints" (top 37) ["_law_poly"] Rlints) (F3 : Fi P w K mg base 1 "_law_product" (top 30) ["_law_left", "_law_right"] Rlprod) (F4 : Fi P w K mg base 1 "_law_by" (top 33) ["_law_row", "_law_much"] Rlby) (F5 : Fi P w K mg base 3 "_law_is_good" (top 39) ["_law_row", "_law_begin", "_law_end"] Rgood) : Fi P w K mg base 5 "_law_is_paper" (top 40) ["_law_goal", "_law_begin", "_law_end", "_law_thing"] Rlpaper := by
  have sc := sclpaper
  refine fi_ofS F sc hm (F.binds fun _ _ _ _ _ _ us hl => match us, hl with | [_, _, _, _], _ => rfl) (fun ss Φ ⟨_, _, _, _, _, e, _⟩ => by rw [e]; exact ⟨rfl, rfl⟩) ?_
  rintro X B ss Φ ⟨cdv, A, out, s0, H, rfl⟩ S hr ⟨Rw, dn, lo, hi, d, rfl, pd, zdn, lw, zw, nw, hc, hΦ⟩
  obtain ⟨P, hP⟩ : ∃ P, P = polQ Rw dn := ⟨_, rfl⟩
  rw [← hP] at hΦ
  refine eb_cons (es_mono (N1 := fun ρ => ρ = [some (.dat (.tuple [intsD Rw, .int dn])), some (.dat (fr lo)), some (.dat (fr hi)), some (.dat d), some (.dat (intsD Rw)), some (.dat (.int dn)), none, none, none, none, none, none, none, none, none, none, none]) (es_asg (eg_tup (n := 2) S.c (egs_cons (eg_nm S (i := 4) (by walk_at "q0.at") (.inl rfl)) (egs_cons (eg_nm S (i := 5) (by walk_at "q0.at") (.inl rfl)) egs_nil))) ?_) ?_)
  · walk_at "q0.v"
    exact ⟨_, _, rfl, _, _, rfl, rfl, rfl⟩
  rintro ρ rfl
  cases d with
  | tuple ds =>
    obtain ⟨ln, hsh, hc⟩ := hc ds rfl
    walk_at "q0.v0"
    refine onF' rfl ?_
    walk_at "q0.v"
    refine ev_of_f (ef_lcTI [6] S.c S.nd (own := [("_law_item", 6)]) rfl (egc_name 6 S.nd rfl) (by change BlkOk ["_law_goal", "_law_begin", "_law_end", "_law_thing", "_law_row", "_law_down", "_law_item", "_law_marks", "_law_first", "_law_last", "_law_root", "_law_rest", "_law_left", "_law_deep", "_law_right", "_law_under", "_law_made"] (defScope (top 40)) _ _; exact ⟨rfl, by decide +kernel, by decide +kernel, by decide +kernel, by decide +kernel⟩) (Ξ := fun es => es = onesF (fun d => !isItm d) ds) ?_) ?_
    · walk_at "q0.v"
      refine ⟨_, rfl, fun k acc => acc = onesF (fun d => !isItm d) (ds.take k), rfl, ?_, fun acc e => by rw [e, List.take_length]⟩
      rintro k d acc B' hB hk hd rfl
      have st := onesF_step (p := fun d => !isItm d) hd
      have hl : (onesF (fun d => !isItm d) (ds.take k)).length < sizeLine := by
        have := onesF_len (fun d => !isItm d) (ds.take k)
        refine szl (m := 1000) (Nat.le_trans this ?_) rfl
        rw [List.length_take]; omega
      intro s1 H1 C cl fp
      refine evt_same S fun S1 => ?_
      walk_at "q0.v"
      refine ⟨d, rfl, hc d (List.mem_of_getElem? hd), ?_⟩
      cases hb : isItm d with
      | true => exact ⟨true, rfl, fun z => (nomatch z), fun _ => by show onesF _ _ = onesF _ _; rw [st]; simp [hb]⟩
      | false =>
        refine ⟨false, rfl, fun _ => ?_, fun z => (nomatch z)⟩
        intro s2 H2 C2 cl2 fp2
        refine eve_same S fun S2 => ?_
        walk_at "q0.v"
        exact ⟨hl, by show onesF _ _ ++ _ = onesF _ _; rw [st]; simp [hb]⟩
    rintro _ rfl
    walk_at "q0.v"
    rw [onesF_none]
    have e0 : (ds.all fun d => !!isItm d) = ds.all isItm := by simp
    rw [e0]
    cases hb : ds.all isItm with
    | false =>
      refine onT rfl ?_
      walk_at "q0.v"
      have e : shB P lo hi (.tuple ds) = false := by
        show (ds.all isItm && _) = false
        rw [hb]; rfl
      rw [e] at hΦ
      exact hΦ
    | true =>
      obtain ⟨xs, rfl, hxs⟩ := its_ex hb hc
      refine onF rfl (eb_nil ?_)
      have e0 : shB P lo hi (.tuple (xs.map itD)) = shL P lo hi xs := by
        show ((xs.map itD).all isItm && shL P lo hi ((xs.map itD).map itOf)) = _
        rw [hb, itOf_map, Bool.true_and]
      rw [e0] at hΦ
      clear e0 hb hc
      rw [List.length_map] at ln
      show EvB _ _ [some (.dat (.tuple [intsD Rw, .int dn])), some (.dat (fr lo)), some (.dat (fr hi)), some (.dat (.tuple (xs.map itD))), some (.dat (intsD Rw)), some (.dat (.int dn)), none, none, none, none, none, none, none, none, none, none, none] _ _
      refine eb_cons (es_mono (N1 := fun ρ => ρ = [some (.dat (.tuple [intsD Rw, .int dn])), some (.dat (fr lo)), some (.dat (fr hi)), some (.dat (.tuple (xs.map itD))), some (.dat (intsD Rw)), some (.dat (.int dn)), none, some (.dat (.list ((lo :: xs.map It.e).map fr))), none, none, none, none, none, none, none, none, none]) (es_st S (i := 7) (by walk_at "q0.at") (by first | exact .inl rfl | exact .inr rfl) ?_) ?_)
      · walk_at "q0.v"
        refine ev_of_f (ef_lcT [6] S.c S.nd (own := [("_law_item", 6)]) rfl (egc_name 6 S.nd rfl) (by change BlkOk ["_law_goal", "_law_begin", "_law_end", "_law_thing", "_law_row", "_law_down", "_law_item", "_law_marks", "_law_first", "_law_last", "_law_root", "_law_rest", "_law_left", "_law_deep", "_law_right", "_law_under", "_law_made"] (defScope (top 40)) _ _; exact ⟨rfl, by decide +kernel, by decide +kernel, by decide +kernel, by decide +kernel⟩) (Ξ := fun ds => ds = (xs.map It.e).map fr) ?_) ?_
        · walk_at "q0.v"
          refine ⟨_, rfl, fun k acc => acc = ((xs.map It.e).map fr).take k, rfl, ?_, fun acc e => tkN (by simp) e⟩
          rintro k d acc B' hB hk hd rfl
          obtain ⟨x, hx, rfl⟩ := xs_at hd
          intro s1 H1 C cl fp
          refine eve_same S fun S1 => ?_
          walk_at "q0.v"
          refine ix_tup (d := fr x.e) rfl ?_
          exact tkL (by simp [hx]) (by simp; omega)
        rintro _ rfl
        walk_at "q0.v"
        refine ⟨_, _, rfl, rfl, Nat.le_of_lt (szl (m := 1000) (by simp; omega) rfl), ?_⟩
        rfl
      rintro ρ rfl
      refine eb_cons (es_mono (N1 := fun ρ => shL P lo hi xs = xs.all (okB P) ∧ ρ = [some (.dat (.tuple [intsD Rw, .int dn])), some (.dat (fr lo)), some (.dat (fr hi)), some (.dat (.tuple (xs.map itD))), some (.dat (intsD Rw)), some (.dat (.int dn)), none, some (.dat (.list ((lo :: xs.map It.e).map fr))), none, none, none, none, none, none, none, none, none]) (es_if ?_) ?_)
      · walk_at "q0.v"
        by_cases hx0 : xs = []
        · subst hx0
          refine onT' rfl (onT rfl ?_)
          walk_at "q0.v"
          exact hΦ
        obtain ⟨x0, r0, rfl⟩ : ∃ x0 r0, xs = x0 :: r0 := by
          cases xs with
          | nil => exact absurd rfl hx0
          | cons a r => exact ⟨a, r, rfl⟩
        refine onF' (by rw [decide_eq_false]; simp; omega) ?_
        walk_at "q0.v"
        refine ev_of_f (ef_lcT [6] S.c S.nd (own := [("_law_item", 6)]) rfl (egc_name 6 S.nd rfl) (by change BlkOk ["_law_goal", "_law_begin", "_law_end", "_law_thing", "_law_row", "_law_down", "_law_item", "_law_marks", "_law_first", "_law_last", "_law_root", "_law_rest", "_law_left", "_law_deep", "_law_right", "_law_under", "_law_made"] (defScope (top 40)) _ _; exact ⟨rfl, by decide +kernel, by decide +kernel, by decide +kernel, by decide +kernel⟩) (Ξ := fun ds => ds = ((x0 :: r0).map It.b).map fr) ?_) ?_
        · walk_at "q0.v"
          refine ⟨_, rfl, fun k acc => acc = (((x0 :: r0).map It.b).map fr).take k, rfl, ?_, fun acc e => tkN (by simp) e⟩
          rintro k d acc B' hB hk hd rfl
          obtain ⟨x, hx, rfl⟩ := xs_at hd
          intro s1 H1 C cl fp
          refine eve_same S fun S1 => ?_
          walk_at "q0.v"
          refine ix_tup (d := fr x.b) rfl ?_
          exact tkL (by rw [List.getElem?_map, List.getElem?_map, hx]; rfl) (by simp at ln ⊢; omega)
        rintro _ rfl
        walk_at "q0.v"
        refine ev_slice ?_
        walk_at "q0.v"
        refine ⟨_, rfl, ?_⟩
        rw [cut_drop _ (by simp), ← List.map_dropLast]
        walk_at "q0.v"
        rw [eqv_lfr]
        have mq := marks_eq r0 x0 lo
        have eS : shL P lo hi (x0 :: r0) = (decide (x0.b = lo) && (decide (((x0 :: r0).getLast (by simp)).e = hi) && (lkB (x0 :: r0) && (x0 :: r0).all (okB P)))) := rfl
        by_cases h1 : (x0 :: r0).map It.b = (lo :: (x0 :: r0).map It.e).dropLast
        · obtain ⟨m1, m2⟩ := mq.mp h1
          refine onF' (by rw [decide_eq_true h1]; rfl) ?_
          walk_at "q0.v"
          refine ix_lst (d := fr ((x0 :: r0).getLast (by simp)).e) (last_mk x0 r0 lo) ?_
          walk_at "q0.v"
          rw [eqv_fr]
          by_cases h2 : ((x0 :: r0).getLast (by simp)).e = hi
          · refine onF (by rw [decide_eq_true h2]; rfl) ?_
            walk_at "q0.v"
            exact ⟨by rw [eS, decide_eq_true m1, decide_eq_true h2, m2]; rfl, rfl⟩
          · rw [eS, decide_eq_false h2, Bool.false_and, Bool.and_false] at hΦ
            refine onT (by rw [decide_eq_false h2]; rfl) ?_
            walk_at "q0.v"
            exact hΦ
        · refine onT' (by rw [decide_eq_false h1]; rfl) (onT rfl ?_)
          walk_at "q0.v"
          have e : shL P lo hi (x0 :: r0) = false := by
            rw [eS]
            by_cases m1 : x0.b = lo
            · have m2 : lkB (x0 :: r0) = false := by
                cases h : lkB (x0 :: r0) with
                | false => rfl
                | true => exact absurd (mq.mpr ⟨m1, h⟩) h1
              rw [m2, Bool.false_and, Bool.and_false, Bool.and_false]
            · rw [decide_eq_false m1]
              rfl
          rw [e] at hΦ
          exact hΦ
      rintro ρ ⟨eL, rfl⟩
      rw [eL] at hΦ
      refine eb_cons (es_forT S.po S.c (eg_tup (n := 4) S.c (egs_cons (eg_nm S (i := 8) (by walk_at "q0.at") (.inl rfl)) (egs_cons (eg_nm S (i := 9) (by walk_at "q0.at") (.inl rfl)) (egs_cons (eg_nm S (i := 10) (by walk_at "q0.at") (.inl rfl)) (egs_cons (eg_nm S (i := 11) (by walk_at "q0.at") (.inl rfl)) egs_nil))))) ?_)
      walk_at "q0.v"
      refine ⟨_, rfl, fun j ρ => (∀ x ∈ xs.take j, okB P x = true) ∧ ∃ t8 t9 t10 t11 t12 t13 t14 t15 t16 : Option Sl, ρ = [some (.dat (.tuple [intsD Rw, .int dn])), some (.dat (fr lo)), some (.dat (fr hi)), some (.dat (.tuple (xs.map itD))), some (.dat (intsD Rw)), some (.dat (.int dn)), none, some (.dat (.list ((lo :: xs.map It.e).map fr))), t8, t9, t10, t11, t12, t13, t14, t15, t16], ⟨fun x h => (by simp at h), none, none, none, none, none, none, none, none, none, rfl⟩, ?_, ?_⟩
      · rintro j y ρ hj hy ⟨ok, t8, t9, t10, t11, t12, t13, t14, t15, t16, rfl⟩
        obtain ⟨x, hx, rfl⟩ := xs_at hy
        have xm := List.mem_of_getElem? hx
        obtain ⟨xlt, xns, xnr, xzb, xze, xls, xlr, xzs, xzr⟩ := hxs x xm
        have bad : okB P x = false → Φ (.bool false) := fun h => by
          have : xs.all (okB P) = false := List.all_eq_false.mpr ⟨x, xm, by rw [h]; decide⟩
          rw [this] at hΦ
          exact hΦ
        refine ⟨_, rfl, rfl, _, _, rfl, _, _, rfl, _, _, rfl, _, _, rfl, rfl, ?_⟩
        show EvB _ _ [some (.dat (.tuple [intsD Rw, .int dn])), some (.dat (fr lo)), some (.dat (fr hi)), some (.dat (.tuple (xs.map itD))), some (.dat (intsD Rw)), some (.dat (.int dn)), none, some (.dat (.list ((lo :: xs.map It.e).map fr))), some (.dat (fr x.b)), some (.dat (fr x.e)), some (.dat (pol x.s)), some (.dat (pol x.r)), t12, t13, t14, t15, t16] _ _
        walk_at "q0.v0"
        refine ⟨x.s, rfl, xls, xzs, fun L D1 p1 z1 l1 e1 zL => ?_⟩
        walk_at "q0.v"
        refine ⟨x.r, rfl, xlr, xzr, fun R D2 p2 z2 l2 e2 zR => ?_⟩
        refine ⟨_, _, rfl, ?_⟩
        show EvB _ _ [some (.dat (.tuple [intsD Rw, .int dn])), some (.dat (fr lo)), some (.dat (fr hi)), some (.dat (.tuple (xs.map itD))), some (.dat (intsD Rw)), some (.dat (.int dn)), none, some (.dat (.list ((lo :: xs.map It.e).map fr))), some (.dat (fr x.b)), some (.dat (fr x.e)), some (.dat (pol x.s)), some (.dat (pol x.r)), some (.dat (intsD L)), some (.dat (.int (D1 : Nat))), some (.dat (intsD R)), some (.dat (.int (D2 : Nat))), t16] _ _
        have zk1 : Lt2 ((D1 : Int) * D1) 642 := mulm z1 z1
        have zk2 : Lt2 ((D1 : Int) * D1 * D2) 963 := mulm zk1 z2
        refine eb_cons (es_mono (N1 := fun ρ => ∃ M : List Int, M.length ≤ 40 ∧ Lz 1522 M ∧ ql M = multQ (multQ (ql L) (ql L)) (ql R) ∧ ρ = [some (.dat (.tuple [intsD Rw, .int dn])), some (.dat (fr lo)), some (.dat (fr hi)), some (.dat (.tuple (xs.map itD))), some (.dat (intsD Rw)), some (.dat (.int dn)), none, some (.dat (.list ((lo :: xs.map It.e).map fr))), some (.dat (fr x.b)), some (.dat (fr x.e)), some (.dat (pol x.s)), some (.dat (pol x.r)), some (.dat (intsD L)), some (.dat (.int (D1 : Nat))), some (.dat (intsD R)), some (.dat (.int (D2 : Nat))), some (.dat (intsD M))]) (es_st S (i := 16) (by walk_at "q0.at") (.inl rfl) ?_) ?_)
        · walk_at "q0.v"
          refine ⟨L, L, 8, 400, 400, rfl, by omega, by omega, by decide, zL, zL, by decide, by decide, fun m1 a0 a1 a2 zm1 => ?_⟩
          walk_at "q0.v"
          have lm1 : m1.length ≤ 15 := by
            by_cases h : L = []
            · rw [a0 (.inl h)]; simp
            · rw [a1 h h]; omega
          refine ⟨m1, R, 16, 865, 400, rfl, by omega, by omega, by decide, lz_mono zm1 (by decide), zR, by decide, by decide, fun M b0 b1 b2 zM => ?_⟩
          have lM : M.length ≤ 40 := by
            by_cases h : m1 = []
            · rw [b0 (.inl h)]; simp
            · by_cases h2 : R = []
              · rw [b0 (.inr h2)]; simp
              · rw [b1 h h2]; omega
          exact ⟨M, lM, lz_mono zM (by decide), by rw [prod_q b0 b1 b2, prod_q a0 a1 a2], rfl⟩
        rintro ρ ⟨M, lM, zM, eM, rfl⟩
        have mk := made_eq (Rw := Rw) p1 p2 pd xns xnr nw e1 e2 eM
        rw [← hP] at mk
        have qd2 : (0 : Rat) < (D2 : Rat) := by exact_mod_cast p2
        have good : okB P x = true → ∀ y ∈ xs.take (j + 1), okB P y = true := fun hg y hy => by
          rw [take_succ hx] at hy
          rcases List.mem_append.mp hy with h | h
          · exact ok y h
          · rw [List.mem_singleton.mp h]; exact hg
        walk_at "q0.v0"
        all_goals first
          | ((with_reducible show CMulW _ _); first | exact w_mul z1 z1 (by decide) | exact w_mul zk1 z2 (by decide))
          | skip
        refine ⟨M, dn, 1522, 100, rfl, by omega, zM, zdn, by decide, ?_⟩
        walk_at "q0.v"
        all_goals first
          | ((with_reducible show CMulW _ _); first | exact w_mul z1 z1 (by decide) | exact w_mul zk1 z2 (by decide))
          | skip
        refine ⟨Rw, (D1 : Int) * D1 * D2, 100, 963, rfl, by omega, zw, zk2, by decide, ?_⟩
        walk_at "q0.v"
        rw [eqv_ints, mk]
        cases hm : mkB x.s x.r P with
        | false =>
          refine onT' rfl (onT rfl ?_)
          walk_at "q0.v"
          exact bad (by unfold okB; rw [hm]; rfl)
        | true =>
          refine onF' rfl ?_
          walk_at "q0.v"
          refine ⟨R, x.b, x.e, rfl, by omega, zR, xzb, xze, ?_⟩
          rw [e2, gdB_sc qd2]
          cases hg : gdB x.b x.e x.r with
          | false =>
            refine ⟨false, rfl, onT rfl ?_⟩
            walk_at "q0.v"
            exact bad (by unfold okB; rw [hm, hg]; rfl)
          | true =>
            refine ⟨true, rfl, onF rfl ?_⟩
            walk_at "q0.v"
            exact ⟨good (by unfold okB; rw [hm, hg]; rfl), _, _, _, _, _, _, _, _, _, rfl⟩
      rintro ρ ⟨ok, t8, t9, t10, t11, t12, t13, t14, t15, t16, rfl⟩
      rw [List.length_map, List.take_length] at ok
      walk_at "q0.v0"
      rw [List.all_eq_true.mpr ok] at hΦ
      exact hΦ
  | _ =>
    walk_at "q0.v0"
    refine onT' rfl (onT rfl ?_)
    walk_at "q0.v"
    exact hΦ
end

def Rdraw (ss : List Sl) (Φ : PyData → Prop) : Prop := ∃ many : Int, ss = [.src, .dat (.int many)] ∧ 0 < many ∧ Lt2 many 200 ∧ ∀ d : Int, 0 ≤ d → d < many → Φ (.int d)
theorem bits64 {m : Int} (h0 : 0 ≤ m) (h1 : m < 18446744073709551616) : Builtin.Int.intBits m ≤ 64 := by
  unfold Builtin.Int.intBits
  split
  · omega
  · have : m.natAbs < 2 ^ 64 := by omega
    have := PySem.Flt.log2_lt_of (show 0 < 64 by decide) this
    omega
theorem modK {x y M : Int} (h0 : 0 < M) (h1 : M ≤ 18446744073709551616) : IntMulOk (x % M) y :=
  mulK_l (bits64 (Int.emod_nonneg _ (by omega)) (by have := Int.emod_lt_of_pos x h0; omega))
section
local macro_rules | `(tactic| walk_at "q0.exo") => `(tactic| ((with_reducible show EvE _ _ _ (.BinOp _ .Mult _ _) _); refine ev_op op_mulK ?_))
local macro_rules | `(tactic| walk_at "q0.sd") => `(tactic| first | exact mulK_r (by decide) | exact mulK_r (by assumption) | ((with_reducible show (0 : Int) < _); first | assumption | decide))
theorem scdraw : FnScope ["_law_store_here", "_law_many", "_law_cell", "_law_turn", "_law_blend"] ["_law_store_here", "_law_many"] (defScope (top 25)) := ⟨rfl, rfl, rfl, by decide +kernel, rfl, by decide +kernel, by decide +kernel⟩
theorem fidraw {P : Program} {w : World} {K : PySem.W.Frag} {mg : Str → Option Value} {base : Heap} {f : Addr} {fd : FuncData} (F : Fun K "_law_draw" "_law_draw" (top 25) f fd) (hm : mg "_law_draw" = some (.ref f)) (T : Txt mg) (U : TxL mg) : Fi P w K mg base 1 "_law_draw" (top 25) ["_law_store_here", "_law_many"] Rdraw := by
  have sc := scdraw
  refine fi_ofS F sc hm (F.binds fun _ _ _ _ _ _ us hl => match us, hl with | [_, _], _ => rfl) (fun ss Φ ⟨_, e, _⟩ => by rw [e]; exact ⟨rfl, rfl⟩) ?_
  rintro X B ss Φ ⟨cdv, A, out, s, H, rfl⟩ S hr ⟨many, rfl, h0, hz, hΦ⟩
  refine eb_cons (es_deepE S hr (i := 0) (many := many) (by walk_at "q0.at") rfl (.inl rfl)
    (pss_cons (ps_set (i := 2) S.nd rfl (.inl rfl) (pe_bm PySem.F.plainAttrs_list PySem.F.slot_list_pop PySem.F.type_list_pop mt_popAt (pe_far S hr (i := 0) (by walk_at "q0.at") (.inl rfl)) (pa_cons pe_int pa_nil)))
    (pss_cons (ps_if (pt_cmpR op_ge (pe_var (i := 2) rfl (.inl rfl)) (pe_var (i := 1) rfl (.inl rfl)) (nomark _)) (pss_one (ps_expr (pe_bm PySem.F.plainAttrs_list PySem.F.slot_list_insert PySem.F.type_list_insert mt_insert (pe_far S hr (i := 0) (by walk_at "q0.at") (.inl rfl)) (pa_cons pe_int (pa_cons (pe_op op_fdivW (pe_var (i := 2) rfl (.inl rfl)) (pe_var (i := 1) rfl (.inl rfl))) pa_nil))))) pss_nil)
    (pss_one (ps_ret (pe_op op_mod (pe_callTy call_int1 rfl T.int (by decide +kernel) (pa_cons (pe_var (i := 2) rfl (.inl rfl)) pa_nil)) (pe_var (i := 1) rfl (.inl rfl))))))) ?_ ?_ hΦ)
  · intro D σ H1 a b c n r small fold turn E e2 s1 k
    obtain ⟨v1, e1, h1⟩ := E.sl 1 _ rfl
    have h1' : v1 = .int many := sdi h1
    subst h1'
    have len : σ.length = 5 := by rw [← E.len]; rfl
    have nba : b ≠ a := fun z => by have := s1.db; rw [z, s1.da] at this; cases this
    have nca : c ≠ a := fun z => by have := s1.dc; rw [z, s1.da] at this; cases this
    have l0 := Int.emod_nonneg n (show many ≠ 0 by omega)
    have l1 := Int.emod_lt_of_pos n h0
    have g2 : (σ.set 2 (some (.int n)))[2]? = some (some (V.int n)) := by simp [len]
    have g1 : (σ.set 2 (some (.int n)))[1]? = some (some (V.int many)) := by simpa [len] using e1
    have g0 : (σ.set 2 (some (.int n)))[0]? = some (some (V.ref a)) := by simpa [len] using e2
    refine ⟨.ref a, e2, a, .ref b, rfl, far_at s1, .inl ⟨rfl, _, SqL.of s1.db⟩, b, _, 0, 0, .int n, rfl, rfl, s1.db, by decide, by decide, by simp [seqIndex?], by simp, ?_⟩
    have s2 : SrcS (upd H1 b (.lst (((n :: r).map V.int).eraseIdx 0))) a b c r small fold turn :=
      ⟨by rw [upd_ne nba.symm]; exact s1.da, by rw [upd_same]; rfl, by rw [upd_ne s1.bc.symm]; exact s1.dc, s1.ne, s1.le, by have := s1.ld; simp at this; omega, s1.bc⟩
    refine ⟨.int n, g2, .int many, g1, n, many, rfl, rfl, ⟨_, rfl, ?_⟩⟩
    cases hb : decide (many ≤ n) with
    | true =>
      refine ⟨.ref a, g0, a, .ref b, rfl, far_at s2, .inl ⟨rfl, _, SqL.of s2.db⟩, .int n, g2, .int many, g1, n, many, rfl, rfl, ⟨h0, ?_⟩, b, _, 0, .int (n / many), rfl, rfl, s2.db, ?_, by decide, by decide, ?_⟩
      · exact Nat.lt_trans (PySem.Flt.log2_lt_of (show 0 < 200 by decide) hz) (by decide)
      · rw [List.length_map]
        have := s2.ld
        exact szl (m := 1000) (by omega) rfl
      refine ⟨.int n, g2, .inl ⟨n, rfl, .int many, g1, n, many, rfl, rfl, h0, k _ _ l0 l1 (fun y o e na nb => ?_) ?_⟩⟩
      · rw [upd_ne nb, upd_ne nb]; exact e
      · exact ⟨n / many :: r, small, fold, turn, by rw [upd_ne nba.symm]; exact s2.da, by rw [upd_same]; simp, by rw [upd_ne s1.bc.symm]; exact s2.dc, s1.ne, s1.le, by have := s1.ld; simpa using this, s1.bc⟩
    | false =>
      refine ⟨.int n, g2, .inl ⟨n, rfl, .int many, g1, n, many, rfl, rfl, h0, k _ _ l0 l1 (fun y o e na nb => ?_) ⟨r, small, fold, turn, s2⟩⟩⟩
      rw [upd_ne nb]; exact e
  · refine eb_cons (es_putTurn S hr (i := 0) (by walk_at "q0.at") rfl (.inl rfl) (ev_op op_add (ev_srcI S (.inl rfl) hr (i := 0) (by walk_at "q0.at") rfl (.inl rfl) fun turn => ?_)))
    walk_at "q0.v"
    refine ev_srcI S (.inl rfl) hr (i := 0) (by walk_at "q0.at") rfl (.inl rfl) fun turn2 => ?_
    refine ⟨_, rfl, ?_⟩
    refine eb_cons (es_st S (i := 2) (by walk_at "q0.at") (.inl rfl) (ev_toint S T rfl (ev_srcCell S T hr (i := 0) (by walk_at "q0.at") rfl (.inl rfl) rfl ?_ fun cell => ⟨_, rfl, ?_⟩)))
    · walk_at "q0.v"
      exact ⟨_, rfl⟩
    walk_at "q0.v"
    refine ev_srcI S (.inr rfl) hr (i := 0) (by walk_at "q0.at") rfl (.inl rfl) fun fold => ?_
    refine ⟨_, rfl, ?_⟩
    walk_at "q0.v"
    all_goals first
      | exact modK (by decide) (by decide)
      | exact mulK_l (by decide)
      | exact hΦ _ (Int.emod_nonneg _ (by omega)) (Int.emod_lt_of_pos _ h0)
      | exact ⟨by decide, by decide⟩
end
def Rpick (ss : List Sl) (Φ : PyData → Prop) : Prop := ∃ ds : List PyData, ss = [.src, .dat (.list ds)] ∧ 0 < ds.length ∧ ds.length ≤ 1000 ∧ ∀ d ∈ ds, Φ d
theorem scpick : FnScope ["_law_store_here", "_law_items"] ["_law_store_here", "_law_items"] (defScope (top 26)) := ⟨rfl, rfl, rfl, by decide +kernel, rfl, by decide +kernel, by decide +kernel⟩
theorem fipick {P : Program} {w : World} {K : PySem.W.Frag} {mg : Str → Option Value} {base : Heap} {f : Addr} {fd : FuncData} (F : Fun K "_law_pick" "_law_pick" (top 26) f fd) (hm : mg "_law_pick" = some (.ref f)) (T : Txt mg) (U : TxL mg) (F1 : Fi P w K mg base 1 "_law_draw" (top 25) ["_law_store_here", "_law_many"] Rdraw) : Fi P w K mg base 2 "_law_pick" (top 26) ["_law_store_here", "_law_items"] Rpick := by
  have sc := scpick
  refine fi_ofS F sc hm (F.binds fun _ _ _ _ _ _ us hl => match us, hl with | [_, _], _ => rfl) (fun ss Φ ⟨_, e, _⟩ => by rw [e]; exact ⟨rfl, rfl⟩) ?_
  rintro X B ss Φ ⟨cdv, A, out, s, H, rfl⟩ S hr ⟨ds, rfl, h0, h1, hΦ⟩
  walk_at "q0.v0"
  refine ⟨_, rfl, by omega, Nat.lt_of_le_of_lt (show ((ds.length : Nat) : Int).natAbs ≤ 1000 by omega) (by decide), fun d l0 l1 => ?_⟩
  have hd : d = ((d.toNat : Nat) : Int) := by omega
  have hlt : d.toNat < ds.length := by omega
  rw [hd]
  refine ix_lst (d := ds[d.toNat]'hlt) (by rw [atI_nat hlt]; simp [hlt]) ?_
  exact hΦ _ (List.getElem_mem hlt)

theorem key_str {key : Key} {x : Str} (h : kD key = .str x) : key = .inr x := by
  cases key with
  | inl i => cases h
  | inr y => injection h with h; rw [h]
theorem mrg (u1 u2 u3 u4 : V) : mergeK [] [((.inr (Str.ofString "far") : Key), u1), (.inr (Str.ofString "cells"), u2), (.inr (Str.ofString "sum"), u3), (.inr (Str.ofString "count"), u4)] = [(.inr (Str.ofString "far"), u1), (.inr (Str.ofString "cells"), u2), (.inr (Str.ofString "sum"), u3), (.inr (Str.ofString "count"), u4)] := put4
theorem scSource : FnScope ["_law_script", "_law_flat", "_law_cell", "_law_far"] ["_law_script"] (defScope (top 24)) := ⟨rfl, rfl, rfl, by decide +kernel, rfl, by decide +kernel, by decide +kernel⟩
section
variable {P : Program} {w : World} {K : PySem.W.Frag} {mg : Str → Option Value} {base : Heap}
local macro_rules | `(tactic| walk_at "q0.exo") => `(tactic| ((with_reducible show EvE _ _ _ (.BinOp _ .Mult _ _) _); refine ev_op op_mulK ?_))
local macro_rules | `(tactic| walk_at "q0.sd") => `(tactic| first | exact mulK_r (by decide) | exact mulK_l (by decide) | ((with_reducible show (0 : Int) < _); first | assumption | decide) | ((with_reducible show CPow _ _); exact ⟨by decide, by decide, by decide⟩))
theorem fgSource {f : Addr} {fd : FuncData} (F : Fun K "_law_store" "_law_store" (top 24) f fd) (T : Txt mg) (U : TxL mg) : Fg P w K mg base CX0 1 f fd ["_law_script"] (spSrc K) := by
  have sc := scSource
  refine fg_of F sc (fun vs H Q E ⟨a, ns, e, _⟩ => by rw [e]; rfl) ?_
  rintro cdv A out s H vs Q E hr ⟨a, ns, rfl, hl, hS, k⟩
  have S : Same (cxOf CX0 P w K mg base ["_law_script", "_law_flat", "_law_cell", "_law_far"] "_law_store" (defScope (top 24)) f cdv A out s H E).nox P w K mg base ["_law_script", "_law_flat", "_law_cell", "_law_far"] := ⟨rfl, rfl, rfl, rfl, rfl, rfl, sc.nd, rfl, PassesOwn.never⟩
  let B : Bs := ⟨none, fun x => H x ≠ none⟩
  let ds : List PyData := cutD (ns.map PyData.int) none (some 63)
  have hds : ∀ {k : Nat} {y : PyData}, ds[k]? = some y → ∃ i : Int, y = .int i := fun {k y} e => by
    have hm : y ∈ ds := List.mem_of_getElem? e
    have hm2 : y ∈ ns.map PyData.int := List.mem_of_mem_drop (List.mem_of_mem_take hm)
    obtain ⟨i, _, rfl⟩ := List.mem_map.mp hm2
    exact ⟨i, rfl⟩
  have hdl : ds.length ≤ 63 := by
    have : ds.length ≤ (ns.map PyData.int).length := by
      show (((ns.map PyData.int).drop _).take _).length ≤ _
      rw [List.length_take, List.length_drop]
      omega
    rw [List.length_map] at this
    omega
  let ρ1 : Rho := rho0 ["_law_script", "_law_flat", "_law_cell", "_law_far"] [.raw (.ref a)]
  refine ⟨_, PSs.nox (eb_consG (B := B) (ρ := ρ1) (G := fun σ H' => SqL K H' a (ns.map V.int)) (P := { nx := fun _ => False, rt := fun d => ∃ (deep small : List Int) (fold : Int), d = .dict [(.str (Str.ofString "far"), .list (deep.map PyData.int)), (.str (Str.ofString "cells"), .list (small.map PyData.int)), (.str (Str.ofString "sum"), .int fold), (.str (Str.ofString "count"), .int 0)] ∧ deep.length ≤ 63 ∧ deep.length < small.length ∧ small.length ≤ 64 }) (es_lcG (ds := ds) 1 [2] S.c S.nd rfl rfl (own := [("_law_cell", 2)]) rfl (egc_name 2 S.nd rfl) (by change BlkOk ["_law_script", "_law_flat", "_law_cell", "_law_far"] (defScope (top 24)) _ _; exact ⟨rfl, by decide +kernel, by decide +kernel, by decide +kernel, by decide +kernel⟩) (pe_slice sl_list (pe_var (i := 0) rfl (.inl rfl)) po_none (po_some pe_int)) ?_ ?_)), ?_⟩
  · intro σ H Q E hS k
    obtain ⟨v, e0, hv⟩ := E.sl 0 _ rfl
    have hv' : v = .ref a := hv
    subst hv'
    refine ⟨.ref a, e0, 63, rfl, a, _, rfl, hS, fun q hq => ?_⟩
    refine k (.ref q) _ (Ext.new hq) (E.new hq) (Dn.list.mpr ⟨q, _, rfl, upd_same, E.nx hq, ?_⟩)
    have r : DnAll (exO B ρ1 σ) (upd H q (.lst (cutV (ns.map V.int) none (some 63)))) (ns.map PyData.int) (ns.map V.int) := DnAll.ints ns
    show DnAll _ _ (cutD (ns.map PyData.int) none (some 63)) _
    unfold cutD cutV
    rw [r.length]
    exact (r.drop _).take _
  · refine ⟨fun j acc => ∃ L : List Int, acc = L.map PyData.int ∧ L.length = j, ⟨[], rfl, rfl⟩, ?_, ?_⟩
    · rintro j d acc B' hB hj hd ⟨L, rfl, hL⟩
      obtain ⟨i, rfl⟩ := hds hd
      intro s1 H1 C cl fp
      refine eve_same S fun S1 => ?_
      walk_at "q0.v"
      refine ⟨fun _ => ?_, fun _ => ?_⟩ <;> walk_at "q0.v" <;> exact ⟨by rw [List.length_map]; exact szl (m := 1000) (by omega) rfl, L ++ [_], by rw [List.map_append]; rfl, by simp [hL]⟩
    rintro acc ⟨L, rfl, hL⟩
    refine eb_freeze (i := 1) rfl ?_
    refine eb_cons (es_lcI 3 [2] S.c S.nd rfl rfl (own := [("_law_cell", 2)]) rfl (egc_name 2 S.nd rfl) (by change BlkOk ["_law_script", "_law_flat", "_law_cell", "_law_far"] (defScope (top 24)) _ _; exact ⟨rfl, by decide +kernel, by decide +kernel, by decide +kernel, by decide +kernel⟩) ?_)
    walk_at "q0.v"
    refine ⟨_, rfl, fun j acc => ∃ D : List Int, acc = D.map PyData.int ∧ D.length ≤ j, ⟨[], rfl, Nat.le_refl _⟩, ?_, ?_⟩
    · rintro j d acc B' hB hj hd ⟨D, rfl, hD⟩
      obtain ⟨i, _, rfl⟩ : ∃ i : Int, L[j]? = some i ∧ d = .int i := by
        rw [List.getElem?_map] at hd
        cases e : L[j]? with
        | none => rw [e] at hd; cases hd
        | some i => rw [e] at hd; exact ⟨i, rfl, (Option.some.inj hd).symm⟩
      intro s1 H1 C cl fp
      refine evt_same S fun S1 => ?_
      walk_at "q0.v"
      refine ⟨fun _ => ?_, fun _ => ⟨D, rfl, by omega⟩⟩
      intro s2 H2 C2 cl2 fp2
      refine eve_same S fun S2 => ?_
      walk_at "q0.v"
      rw [List.length_map] at hj
      exact ⟨by rw [List.length_map]; exact szl (m := 1000) (by omega) rfl, D ++ [i], by rw [List.map_append]; rfl, by simp; omega⟩
    rintro acc ⟨D, rfl, hD⟩
    rw [List.length_map] at hD
    refine eb_freeze (i := 3) rfl ?_
    refine eb_one (es_ret (ev_dict4 mrg fun B' => ?_))
    walk_at "q0.v"
    refine ⟨_, _, rfl, rfl, Nat.le_of_lt (szl (m := 1000) (by simp; omega) rfl), ?_⟩
    walk_at "q0.v"
    refine ⟨L, rfl, ?_⟩
    walk_at "q0.v"
    refine ⟨D, L ++ [(L.length : Int) + 2089], _, by rw [List.map_append, List.length_map]; rfl, by omega, by simp; omega, by simp; omega⟩
  · have E0 : En B ρ1 (L2.start ["_law_script", "_law_flat", "_law_cell", "_law_far"] [V.ref a]) H := en_start rfl ⟨.ref a, [], rfl, rfl, rfl⟩ ⟨fun _ h => h, fun a b c e => by cases e⟩
    refine ⟨hS, E0, fun _ _ _ _ _ z => z.elim, fun v H' d x ok hd e => ?_, fun _ _ _ _ _ z => z.elim, fun _ _ _ _ _ z => z.elim⟩
    obtain ⟨deep, small, fold, rfl, l1, l2, l3⟩ := e
    obtain ⟨x0, rfl, nx, hor⟩ := Dn.dict.mp hd
    rcases hor with ⟨Lx, hx, r0⟩ | ⟨Lx, hx, r0⟩
    rotate_left
    · obtain ⟨key, v, r, _, e2, _⟩ := DnKt.cons.mp r0
      cases e2
    obtain ⟨y1, v1, r1, rfl, k1', d1, r1'⟩ := DnKv.cons.mp r0
    obtain ⟨y2, v2, r2, rfl, k2', d2, r2'⟩ := DnKv.cons.mp r1'
    obtain ⟨y3, v3, r3, rfl, k3', d3, r3'⟩ := DnKv.cons.mp r2'
    obtain ⟨y4, v4, r4, rfl, k4', d4, r4'⟩ := DnKv.cons.mp r3'
    rw [DnKv.nil.mp r4', key_str k1', key_str k2', key_str k3', key_str k4', Dn.int.mp d3, Dn.int.mp d4] at hx
    obtain ⟨b, vb, rfl, hb, nb, e1⟩ := Dn.list.mp d1
    obtain ⟨c, vc, rfl, hc, nc, e2⟩ := Dn.list.mp d2
    have i1 := ints_of e1
    have i2 := ints_of e2
    subst i1 i2
    have fr0 : ∀ {y : Addr}, ¬ B.ex y → H y = none := fun {y} n => by
      cases e : H y with
      | none => rfl
      | some o => exact absurd (show B.ex y from by show H y ≠ none; rw [e]; intro z; cases z) n
    have nbc : b ≠ c := fun z => by
      rw [z, hc] at hb
      have := congrArg List.length (HO.lst.inj (Option.some.inj hb))
      simp at this
      omega
    refine k x0 b c H' (fun y o e => ?_) (fr0 nx) (fr0 nb) (fr0 nc) ⟨deep, small, fold, 0, hx, hb, hc, by omega, by omega, by omega, nbc⟩
    exact x y o e (fun ⟨_, _, _, z, _⟩ => by cases z) (own_start rfl y)
end

/-! what the law makes from 0 on from one place to another -/
theorem good_of {r : List Rat} {s t : Rat} (hl : r.length ≤ 3) (h1 : 0 ≤ ev r s) (h2 : 0 ≤ ev r t) (h3 : r.length = 3 → 0 ≤ 4 * ev r ((s + t) / 2) - ev r s - ev r t) : gdB s t r = true := by
  rw [gdB_iff]
  match r, hl with
  | [], _ => intro q hq; cases hq
  | [c0], _ =>
    intro q hq
    have e : gL s t [c0] = [c0 * 1 + (0 + 0)] := by simp [gL, zad, mul2, opw]
    rw [e, List.mem_singleton] at hq
    have e2 : ev [c0] s = c0 + s * 0 := rfl
    rw [hq]
    grind
  | [c0, c1], _ =>
    intro q hq
    have e : gL s t [c0, c1] = [c0 * (1 * 1 + 0) + (s * (c1 * 1 + (0 + 0)) + 0), c0 * (0 + 1 * 1) + (0 + t * (c1 * 1 + (0 + 0)))] := by simp [gL, zad, mul2, opw]
    rw [e] at hq
    have e2 : ∀ x, ev [c0, c1] x = c0 + x * (c1 + x * 0) := fun x => rfl
    rw [e2] at h1 h2
    simp only [List.mem_cons, List.not_mem_nil, or_false] at hq
    rcases hq with rfl | rfl <;> grind
  | [c0, c1, c2], _ =>
    intro q hq
    have h3 := h3 rfl
    have e2 : ∀ x, ev [c0, c1, c2] x = c0 + x * (c1 + x * (c2 + x * 0)) := fun x => rfl
    rw [e2] at h1 h2 h3
    rw [e2, e2] at h3
    have e : ∃ u v w, gL s t [c0, c1, c2] = [u, v, w] ∧ u = c0 + s * (c1 + s * c2) ∧ v = 2 * c0 + c1 * (s + t) + 2 * c2 * (s * t) ∧ w = c0 + t * (c1 + t * c2) := by
      refine ⟨_, _, _, by simp only [gL, zad, mul2, opw, List.map_cons, List.map_nil, List.zipWith_cons_cons, List.zipWith_nil_left, List.zipWith_nil_right, List.cons_append, List.nil_append, List.length_cons, List.length_nil]; rfl, ?_, ?_, ?_⟩ <;> grind
    obtain ⟨u, v, w, e, eu, ev', ew⟩ := e
    rw [e] at hq
    simp only [List.mem_cons, List.not_mem_nil, or_false] at hq
    rcases hq with rfl | rfl | rfl
    · grind
    · grind
    · grind
def lk (a b d : Int) (i k : Nat) (x : Rat) : Rat := if k < i then d * x - a else b - d * x
def lp (a b d : Int) (i : Nat) : Nat → Rat → Rat
  | 0, _ => 1
  | k + 1, x => lp a b d i k x * lk a b d i k x
structure Gd (lo hi : Rat) (n : Nat) (f : Rat → Rat) : Prop where
  at' : ∀ x, lo ≤ x → x ≤ hi → 0 ≤ f x
  mid : n = 2 → ∀ s t, lo ≤ s → s ≤ hi → lo ≤ t → t ≤ hi → 0 ≤ 4 * f ((s + t) / 2) - f s - f t
theorem Gd.add {lo hi : Rat} {n : Nat} {f g h : Rat → Rat} (hf : Gd lo hi n f) (hg : Gd lo hi n g) (e : ∀ x, h x = f x + g x) : Gd lo hi n h :=
  ⟨fun x h1 h2 => by
    have a1 := hf.at' x h1 h2
    have a2 := hg.at' x h1 h2
    rw [e]
    grind, fun hn s t h1 h2 h3 h4 => by
    have a1 := hf.mid hn s t h1 h2 h3 h4
    have a2 := hg.mid hn s t h1 h2 h3 h4
    rw [e, e, e]
    grind⟩
theorem lk_nn {a b d : Int} {lo hi x : Rat} (hd : (0 : Rat) < d) (e1 : (d : Rat) * lo = a) (e2 : (d : Rat) * hi = b) (h1 : lo ≤ x) (h2 : x ≤ hi) (i k : Nat) : 0 ≤ lk a b d i k x := by
  unfold lk
  have a1 := Rat.mul_le_mul_of_nonneg_left h1 (Rat.le_of_lt hd)
  have a2 := Rat.mul_le_mul_of_nonneg_left h2 (Rat.le_of_lt hd)
  split <;> grind
theorem lp_gd {a b d : Int} {lo hi : Rat} (hd : (0 : Rat) < d) (e1 : (d : Rat) * lo = a) (e2 : (d : Rat) * hi = b) (i n : Nat) (hn : n ≤ 2) (c : Nat) : Gd lo hi n fun x => c * lp a b d i n x := by
  have c0 : (0 : Rat) ≤ (c : Rat) := by exact_mod_cast Nat.zero_le c
  have nn : ∀ x, lo ≤ x → x ≤ hi → ∀ k, 0 ≤ lp a b d i k x := by
    intro x h1 h2 k
    induction k with
    | zero => show (0 : Rat) ≤ 1; decide
    | succ k ih => exact Rat.mul_nonneg ih (lk_nn hd e1 e2 h1 h2 i k)
  refine ⟨fun x h1 h2 => Rat.mul_nonneg c0 (nn x h1 h2 n), fun h s t s1 s2 t1 t2 => ?_⟩
  subst h
  have lin : ∀ k, lk a b d i k ((s + t) / 2) = (lk a b d i k s + lk a b d i k t) / 2 := fun k => by
    unfold lk
    split <;> grind
  have p1 := Rat.mul_nonneg (lk_nn hd e1 e2 s1 s2 i 0) (lk_nn hd e1 e2 t1 t2 i 1)
  have p2 := Rat.mul_nonneg (lk_nn hd e1 e2 t1 t2 i 0) (lk_nn hd e1 e2 s1 s2 i 1)
  have q : 4 * ((c : Rat) * lp a b d i 2 ((s + t) / 2)) - c * lp a b d i 2 s - c * lp a b d i 2 t = c * (lk a b d i 0 s * lk a b d i 1 t + lk a b d i 0 t * lk a b d i 1 s) := by
    show 4 * ((c : Rat) * (1 * lk a b d i 0 ((s + t) / 2) * lk a b d i 1 ((s + t) / 2))) - c * (1 * lk a b d i 0 s * lk a b d i 1 s) - c * (1 * lk a b d i 0 t * lk a b d i 1 t) = _
    rw [lin, lin]
    grind
  rw [q]
  exact Rat.mul_nonneg c0 (by grind)

/-! how large what is multiplied grows -/
def Bz (X : Nat) (r : List Int) : Prop := ∀ c ∈ r, c.natAbs ≤ X
def zaL : List Int → List Int → List Int
  | [], q => q
  | a :: p, [] => a :: p
  | a :: p, b :: q => (a + b) :: zaL p q
def zmL : List Int → List Int → List Int
  | [], _ => []
  | a :: p, q => zaL (q.map (· * a)) (0 :: zmL p q)
theorem ql_zaL : ∀ p q : List Int, ql (zaL p q) = padd (ql p) (ql q)
  | [], q => by simp [zaL, ql, padd]
  | a :: p, [] => by simp [zaL, ql, padd]
  | a :: p, b :: q => by
    have ih := ql_zaL p q
    show ((a + b : Int) : Rat) :: ql (zaL p q) = ((a : Rat) + b) :: padd (ql p) (ql q)
    rw [ih, Rat.intCast_add]
theorem ql_zmL : ∀ p q : List Int, ql (zmL p q) = pmul (ql p) (ql q)
  | [], q => rfl
  | a :: p, q => by
    have ih := ql_zmL p q
    show ql (zaL (q.map (· * a)) (0 :: zmL p q)) = padd (psc (a : Rat) (ql q)) (0 :: pmul (ql p) (ql q))
    rw [ql_zaL]
    have e1 : ql (q.map (· * a)) = psc (a : Rat) (ql q) := by
      unfold ql psc
      rw [List.map_map, List.map_map]
      refine List.map_congr_left fun u _ => ?_
      show ((u * a : Int) : Rat) = (u : Rat) * a
      rw [Rat.intCast_mul]
    have e2 : ql (0 :: zmL p q) = 0 :: pmul (ql p) (ql q) := by
      show ((0 : Int) : Rat) :: ql (zmL p q) = _
      rw [ih]
      rfl
    rw [e1, e2]
theorem bz_zaL {X Y : Nat} : ∀ {p q : List Int}, Bz X p → Bz Y q → Bz (X + Y) (zaL p q)
  | [], q, _, h2 => fun c hc => by
    have : c ∈ q := by simpa [zaL] using hc
    have := h2 c this
    omega
  | a :: p, [], h1, _ => fun c hc => by
    have := h1 c hc
    omega
  | a :: p, b :: q, h1, h2 => fun c hc => by
    rcases List.mem_cons.mp hc with h | h
    · have a1 := h1 a (List.mem_cons_self ..)
      have a2 := h2 b (List.mem_cons_self ..)
      rw [h]
      omega
    · exact bz_zaL (fun c hc => h1 c (List.mem_cons_of_mem _ hc)) (fun c hc => h2 c (List.mem_cons_of_mem _ hc)) c h
theorem bz_zmL {A C : Nat} {q : List Int} (hq : Bz C q) : ∀ {p : List Int}, Bz A p → Bz (p.length * (A * C)) (zmL p q)
  | [], _ => fun c hc => nomatch hc
  | a :: p, h => by
    have ih := bz_zmL hq (p := p) fun c hc => h c (List.mem_cons_of_mem _ hc)
    have h0 : Bz (A * C) (q.map (· * a)) := fun c hc => by
      obtain ⟨d, hd, rfl⟩ := List.mem_map.mp hc
      have a1 := h a (List.mem_cons_self ..)
      have a2 := hq d hd
      rw [Int.natAbs_mul, Nat.mul_comm]
      exact Nat.mul_le_mul a1 a2
    have h1 : Bz (p.length * (A * C)) (0 :: zmL p q) := fun c hc => by
      rcases List.mem_cons.mp hc with h | h
      · rw [h]; exact Nat.zero_le _
      · exact ih c h
    have := bz_zaL h0 h1
    rw [List.length_cons, Nat.add_mul, Nat.one_mul, Nat.add_comm]
    exact this
theorem bz_prod {m r1 r2 : List Int} {A C : Nat} (hm : ql m = multQ (ql r1) (ql r2)) (h1 : Bz A r1) (h2 : Bz C r2) : Bz (r1.length * (A * C)) m := by
  unfold multQ at hm
  split at hm
  · have : m = [] := by unfold ql at hm; exact List.map_eq_nil_iff.mp hm
    rw [this]
    exact fun c hc => nomatch hc
  · have : m = zmL r1 r2 := ql_inj (by rw [hm, ql_zmL])
    rw [this]
    exact bz_zmL h2 h1
theorem Bz.mono {X Y : Nat} {r : List Int} (h : Bz X r) (l : X ≤ Y) : Bz Y r := fun c hc => Nat.le_trans (h c hc) l
theorem Bz.lz {X k : Nat} {r : List Int} (h : Bz X r) (l : X < 2 ^ k) : Lz k r := fun c hc => Nat.lt_of_le_of_lt (h c hc) l
theorem bz_tot {m r1 r2 : List Int} {A C : Nat} (hm : ql m = trim (padd (ql r1) (ql r2))) (h1 : Bz A r1) (h2 : Bz C r2) : Bz (A + C) m := fun c hc => by
  have h3 : (c : Rat) ∈ trim (padd (ql r1) (ql r2)) := by rw [← hm]; exact List.mem_map_of_mem hc
  have h4 := trim_sub _ _ h3
  rw [← ql_zaL] at h4
  obtain ⟨d, hd, e⟩ := List.mem_map.mp h4
  have : d = c := by exact_mod_cast e
  subst this
  exact bz_zaL h1 h2 d hd
/-- how large a fraction's parts are -/
def Nb (N D : Nat) (q : Rat) : Prop := q.num.natAbs ≤ N ∧ q.den ≤ D
theorem nb_low {u d : Int} {N D : Nat} (hd : 0 < d) (h1 : u.natAbs ≤ N) (h2 : d ≤ (D : Int)) : Nb N D ((u : Rat) / (d : Rat)) := by
  have e1 := low_num (t := u) hd
  have e2 := low_den (t := u) hd
  refine ⟨?_, ?_⟩
  · rw [e1]
    exact Nat.le_trans (Int.natAbs_ediv_le_natAbs _ _) h1
  · have h3 : ((((u : Rat) / (d : Rat)).den : Nat) : Int) ≤ d := by
      rw [e2]
      exact Int.ediv_le_self _ (by omega)
    omega
theorem Nb.mono {N D N' D' : Nat} {q : Rat} (h : Nb N D q) (a : N ≤ N') (b : D ≤ D') : Nb N' D' q := ⟨Nat.le_trans h.1 a, Nat.le_trans h.2 b⟩
theorem Nb.sz {N D k : Nat} {q : Rat} (h : Nb N D q) (a : N < 2 ^ k) (b : D < 2 ^ k) : Sz k q := ⟨Nat.lt_of_le_of_lt h.1 a, Nat.lt_of_le_of_lt h.2 b⟩
theorem Nb.add {N D M E : Nat} {p q : Rat} (h : Nb N D p) (g : Nb M E q) : Nb (N * E + M * D) (D * E) (p + q) := by
  rw [add_eq]
  refine nb_low (Int.mul_pos (den_pos p) (den_pos q)) ?_ ?_
  · refine Nat.le_trans (Int.natAbs_add_le _ _) ?_
    rw [Int.natAbs_mul, Int.natAbs_mul, Int.natAbs_natCast, Int.natAbs_natCast]
    exact Nat.add_le_add (Nat.mul_le_mul h.1 g.2) (Nat.mul_le_mul g.1 h.2)
  · have := Nat.mul_le_mul h.2 g.2
    exact_mod_cast this

def Rknown (ss : List Sl) (Φ : PyData → Prop) : Prop := ss = [.src] ∧ ∀ (lo hi : Rat) (root rest : List Int) (d1 d2 : Int), lo < hi → Nb 20 6 lo → Nb 20 6 hi → root.length ≤ 3 → Bz 4 root → trim (ql root) = ql root → rest.length ≤ 3 → Bz 7200 rest → trim (ql rest) = ql rest →
  (∀ s t, lo ≤ s → s ≤ hi → lo ≤ t → t ≤ hi → gdB s t (ql rest) = true) → 1 ≤ d1 → d1 ≤ 5 → 1 ≤ d2 → d2 ≤ 12 → Φ (.tuple [.tuple [fr lo, fr hi], .tuple [intsD root, .int d1], .tuple [intsD rest, .int d2]])
def tbd : Nat → Nat
  | 0 => 3
  | 1 => 60
  | _ => 2400
theorem gd_zero (lo hi : Rat) (n : Nat) : Gd lo hi n fun _ => 0 := ⟨fun _ _ _ => Rat.le_refl, fun _ _ _ _ _ _ _ => by grind⟩
theorem scknown : FnScope ["_law_store_here", "_law_down", "_law_a", "_law_size", "_law_rest", "_law_b", "_law_i", "_law_term", "_law_k", "_law_root", "_law_turn", "_law_ends_of"] ["_law_store_here"] (defScope (top 41)) := ⟨rfl, rfl, rfl, by decide +kernel, rfl, by decide +kernel, by decide +kernel⟩
theorem fiknown {P : Program} {w : World} {K : PySem.W.Frag} {mg : Str → Option Value} {base : Heap} {f : Addr} {fd : FuncData} (F : Fun K "_law_known" "_law_known" (top 41) f fd) (hm : mg "_law_known" = some (.ref f)) (T : Txt mg) (U : TxL mg) (F1 : Fi P w K mg base 1 "_law_draw" (top 25) ["_law_store_here", "_law_many"] Rdraw) (F2 : Fi P w K mg base 1 "_law_product" (top 30) ["_law_left", "_law_right"] Rlprod) (F3 : Fi P w K mg base 2 "_law_total" (top 32) ["_law_left", "_law_right"] Rltot) (F4 : Fi P w K mg base 1 "_law_bare" (top 31) ["_law_row"] Rbare) (F5 : Fi P w K mg base 1 "_law_cut" (top 27) ["_law_top", "_law_bottom"] Rcut) : Fi P w K mg base 3 "_law_known" (top 41) ["_law_store_here"] Rknown := by
  have sc := scknown
  refine fi_ofS F sc hm (F.binds fun _ _ _ _ _ _ us hl => match us, hl with | [_], _ => rfl) (fun ss Φ ⟨e, _⟩ => by rw [e]; exact ⟨rfl, rfl⟩) ?_
  rintro X B ss Φ ⟨cdv, A, out, s, H, rfl⟩ S hr ⟨rfl, hΦ⟩
  refine eb_cons (es_mono (N1 := fun ρ => ∃ (d a : Int) (n : Nat), 1 ≤ d ∧ d ≤ 6 ∧ -12 ≤ a ∧ a ≤ 12 ∧ n ≤ 2 ∧ ρ = [some .src, some (.dat (.int d)), some (.dat (.int a)), some (.dat (.int (n : Nat))), some (.dat (intsD [])), none, none, none, none, none, none, none]) (es_asg (eg_tup (n := 4) S.c (egs_cons (eg_nm S (i := 1) (by walk_at "q0.at") (by first | exact .inl rfl | exact .inr rfl)) (egs_cons (eg_nm S (i := 2) (by walk_at "q0.at") (by first | exact .inl rfl | exact .inr rfl)) (egs_cons (eg_nm S (i := 3) (by walk_at "q0.at") (by first | exact .inl rfl | exact .inr rfl)) (egs_cons (eg_nm S (i := 4) (by walk_at "q0.at") (by first | exact .inl rfl | exact .inr rfl)) egs_nil))))) ?_) ?_)
  · walk_at "q0.v"
    refine ⟨6, rfl, by decide, by unfold Lt2; decide +kernel, fun u u0 u1 => ?_⟩
    walk_at "q0.v"
    refine ⟨25, rfl, by decide, by unfold Lt2; decide +kernel, fun v v0 v1 => ?_⟩
    walk_at "q0.v"
    refine ⟨3, rfl, by decide, by unfold Lt2; decide +kernel, fun w w0 w1 => ?_⟩
    walk_at "q0.v"
    refine ⟨_, _, rfl, _, _, rfl, _, _, rfl, _, _, rfl, rfl, 1 + u, v - 12, w.toNat, by omega, by omega, by omega, by omega, by omega, ?_⟩
    rw [Int.toNat_of_nonneg w0]
    rfl
  rintro ρ ⟨d, a, n, d0, d1, a0, a1, n1, rfl⟩
  refine eb_cons (es_mono (N1 := fun ρ => ∃ b : Int, a < b ∧ b ≤ a + 8 ∧ ρ = [some .src, some (.dat (.int d)), some (.dat (.int a)), some (.dat (.int (n : Nat))), some (.dat (intsD [])), some (.dat (.int b)), none, none, none, none, none, none]) (es_st S (i := 5) (by walk_at "q0.at") (by first | exact .inl rfl | exact .inr rfl) ?_) ?_)
  · walk_at "q0.v"
    refine ⟨8, rfl, by decide, by unfold Lt2; decide +kernel, fun u u0 u1 => ?_⟩
    walk_at "q0.v"
    exact ⟨a + 1 + u, by omega, by omega, rfl⟩
  rintro ρ ⟨b, b0, b1, rfl⟩
  obtain ⟨lo, hlo⟩ : ∃ lo : Rat, lo = (a : Rat) / (d : Rat) := ⟨_, rfl⟩
  obtain ⟨hi, hhi⟩ : ∃ hi : Rat, hi = (b : Rat) / (d : Rat) := ⟨_, rfl⟩
  have dq : (0 : Rat) < (d : Rat) := by exact_mod_cast (show 0 < d by omega)
  have el : (d : Rat) * lo = a := by rw [hlo]; grind
  have eh : (d : Rat) * hi = b := by rw [hhi]; grind
  have abq : (a : Rat) < (b : Rat) := by exact_mod_cast b0
  have lh : lo < hi := by
    refine Rat.not_le.mp fun z => ?_
    have := Rat.mul_le_mul_of_nonneg_left z (Rat.le_of_lt dq)
    rw [el, eh] at this
    exact absurd abq (Rat.not_lt.mpr this)
  refine eb_cons (es_mono (N1 := fun ρ => ∃ (rest : List Int) (t6 t7 t8 : Option Sl), rest.length ≤ n + 1 ∧ Bz 7200 rest ∧ trim (ql rest) = ql rest ∧ Gd lo hi n (ev (ql rest)) ∧ ρ = [some .src, some (.dat (.int d)), some (.dat (.int a)), some (.dat (.int (n : Nat))), some (.dat (intsD rest)), some (.dat (.int b)), t6, t7, t8, none, none, none]) (es_range S.po S.c rfl T.range (eg_nm S (i := 6) (by walk_at "q0.at") (by first | exact .inl rfl | exact .inr rfl)) ?_) ?_)
  · walk_at "q0.v"
    refine ⟨by omega, by omega, fun i ρ => ∃ (rest : List Int) (t6 t7 t8 : Option Sl), rest.length ≤ n + 1 ∧ Bz (2400 * i) rest ∧ trim (ql rest) = ql rest ∧ Gd lo hi n (ev (ql rest)) ∧ ρ = [some .src, some (.dat (.int d)), some (.dat (.int a)), some (.dat (.int (n : Nat))), some (.dat (intsD rest)), some (.dat (.int b)), t6, t7, t8, none, none, none], ⟨[], none, none, none, Nat.zero_le _, (fun c h => (nomatch h)), rfl, gd_zero lo hi n, rfl⟩, ?_, ?_⟩
    · rintro i y ρ hi' rfl ⟨rest, t6, t7, t8, lr, br, nr, gr, rfl⟩
      refine eb_cons (es_mono (N1 := fun ρ => ∃ c : Nat, c ≤ 3 ∧ ρ = [some .src, some (.dat (.int d)), some (.dat (.int a)), some (.dat (.int (n : Nat))), some (.dat (intsD rest)), some (.dat (.int b)), some (.dat (.int (i : Nat))), some (.dat (intsD [(c : Int)])), t8, none, none, none]) (es_st S (i := 7) (by walk_at "q0.at") (by first | exact .inl rfl | exact .inr rfl) ?_) ?_)
      · walk_at "q0.v"
        refine ⟨4, rfl, by decide, by unfold Lt2; decide +kernel, fun u u0 u1 => ?_⟩
        walk_at "q0.v"
        refine ⟨u.toNat, by omega, ?_⟩
        rw [Int.toNat_of_nonneg u0]
        rfl
      rintro ρ ⟨c, c3, rfl⟩
      refine eb_cons (es_mono (N1 := fun ρ => ∃ (term : List Int) (t8 : Option Sl), term.length = n + 1 ∧ Bz (tbd n) term ∧ (∀ x : Rat, ev (ql term) x = c * lp a b d i n x) ∧ ρ = [some .src, some (.dat (.int d)), some (.dat (.int a)), some (.dat (.int (n : Nat))), some (.dat (intsD rest)), some (.dat (.int b)), some (.dat (.int (i : Nat))), some (.dat (intsD term)), t8, none, none, none]) (es_range S.po S.c rfl T.range (eg_nm S (i := 8) (by walk_at "q0.at") (by first | exact .inl rfl | exact .inr rfl)) ?_) ?_)
      · walk_at "q0.v"
        refine ⟨by omega, by omega, fun k ρ => ∃ (term : List Int) (t8 : Option Sl), term.length = k + 1 ∧ Bz (tbd k) term ∧ (∀ x : Rat, ev (ql term) x = c * lp a b d i k x) ∧ ρ = [some .src, some (.dat (.int d)), some (.dat (.int a)), some (.dat (.int (n : Nat))), some (.dat (intsD rest)), some (.dat (.int b)), some (.dat (.int (i : Nat))), some (.dat (intsD term)), t8, none, none, none], ⟨[(c : Int)], t8, rfl, fun z hz => ?_, fun x => ?_, rfl⟩, ?_, ?_⟩
        · rw [List.mem_singleton.mp hz, Int.natAbs_natCast]
          exact c3
        · show ((c : Int) : Rat) + x * 0 = (c : Rat) * 1
          rw [Rat.intCast_natCast]
          grind
        · rintro k y ρ hk rfl ⟨term, t8, lt, bt, et, rfl⟩
          have tk : tbd k ≤ 2400 := by unfold tbd; split <;> omega
          have tn : (k + 1) * (tbd k * 20) ≤ tbd (k + 1) := by
            have : k = 0 ∨ k = 1 := by omega
            rcases this with rfl | rfl <;> decide
          have zt : Lz 12 term := bt.lz (by omega)
          refine eb_one (es_st S (i := 7) (by walk_at "q0.at") (by first | exact .inl rfl | exact .inr rfl) ?_)
          walk_at "q0.v"
          by_cases hki : (k : Int) < (i : Int)
          · refine onT (decide_eq_true hki) ?_
            walk_at "q0.v"
            have b2 : Bz 20 [-a, d] := fun z hz => by
              rcases List.mem_cons.mp hz with h | h
              · rw [h]; omega
              · rw [List.mem_singleton.mp h]; omega
            refine ⟨term, [-a, d], 4, 12, 5, rfl, by omega, Nat.le_of_ble_eq_true rfl, by decide, zt, b2.lz (by decide), by decide, by decide, fun m h0 h1 hev _ => ?_⟩
            refine ⟨m, some (.dat (.int (k : Nat))), ?_, ?_, fun x => ?_, rfl⟩
            · rw [h1 (fun z => by rw [z] at lt; simp at lt) (by simp), lt]; simp
            · have := bz_prod (prod_q h0 h1 hev) bt b2
              rw [lt] at this
              exact this.mono tn
            · rw [hev, et]
              show _ * (((-a : Int) : Rat) + x * ((d : Rat) + x * 0)) = (c : Rat) * (lp a b d i k x * lk a b d i k x)
              unfold lk
              rw [if_pos (by omega), Rat.intCast_neg]
              grind
          · refine onF (decide_eq_false hki) ?_
            walk_at "q0.v"
            have b2 : Bz 20 [b, -d] := fun z hz => by
              rcases List.mem_cons.mp hz with h | h
              · rw [h]; omega
              · rw [List.mem_singleton.mp h]; omega
            refine ⟨term, [b, -d], 4, 12, 5, rfl, by omega, Nat.le_of_ble_eq_true rfl, by decide, zt, b2.lz (by decide), by decide, by decide, fun m h0 h1 hev _ => ?_⟩
            refine ⟨m, some (.dat (.int (k : Nat))), ?_, ?_, fun x => ?_, rfl⟩
            · rw [h1 (fun z => by rw [z] at lt; simp at lt) (by simp), lt]; simp
            · have := bz_prod (prod_q h0 h1 hev) bt b2
              rw [lt] at this
              exact this.mono tn
            · rw [hev, et]
              show _ * ((b : Rat) + x * (((-d : Int) : Rat) + x * 0)) = (c : Rat) * (lp a b d i k x * lk a b d i k x)
              unfold lk
              rw [if_neg (by omega), Rat.intCast_neg]
              grind
        · rintro ρ ⟨term, t8, lt, bt, et, rfl⟩
          exact ⟨term, t8, by simpa using lt, by simpa using bt, fun x => by simpa using et x, rfl⟩
      rintro ρ ⟨term, t8', lt, bt, et, rfl⟩
      have tn : tbd n ≤ 2400 := by unfold tbd; split <;> omega
      refine eb_one (es_st S (i := 4) (by walk_at "q0.at") (by first | exact .inl rfl | exact .inr rfl) ?_)
      walk_at "q0.v"
      refine ⟨rest, term, 13, rfl, by omega, by omega, br.lz (by omega), bt.lz (by omega), fun m hm lm _ => ?_⟩
      refine ⟨m, _, _, _, by omega, (bz_tot hm br bt).mono (by rw [Nat.mul_add]; omega), by rw [hm]; exact trim_nm _, gr.add (lp_gd dq el eh i n n1 c) (fun x => by rw [hm, ev_trim, ev_padd, et]), rfl⟩
    · rintro ρ ⟨rest, t6, t7, t8, lr, br, nr, gr, rfl⟩
      exact ⟨rest, t6, t7, t8, lr, br.mono (by omega), nr, gr, rfl⟩
  rintro ρ ⟨rest, t6, t7, t8, lr, br, nr, gr, rfl⟩
  have good : ∀ s t, lo ≤ s → s ≤ hi → lo ≤ t → t ≤ hi → gdB s t (ql rest) = true := fun s t s1 s2 t1 t2 =>
    good_of (by rw [ql_len]; omega) (gr.at' s s1 s2) (gr.at' t t1 t2) fun h => gr.mid (by rw [ql_len] at h; omega) s t s1 s2 t1 t2
  refine eb_cons (es_mono (N1 := fun ρ => ∃ (root : List Int) (t10 : Option Sl), root.length ≤ 3 ∧ Bz 4 root ∧ trim (ql root) = ql root ∧ ρ = [some .src, some (.dat (.int d)), some (.dat (.int a)), some (.dat (.int (n : Nat))), some (.dat (intsD rest)), some (.dat (.int b)), t6, t7, t8, some (.dat (intsD root)), t10, none]) (es_st S (i := 9) (by walk_at "q0.at") (by first | exact .inl rfl | exact .inr rfl) ?_) ?_)
  · walk_at "q0.v"
    refine ev_of_f (ef_lcR [10] S.c S.nd (own := [("_law_turn", 10)]) rfl rfl (by rw [S.m]; exact T.range) (egc_name 10 S.nd rfl) (by change BlkOk ["_law_store_here", "_law_down", "_law_a", "_law_size", "_law_rest", "_law_b", "_law_i", "_law_term", "_law_k", "_law_root", "_law_turn", "_law_ends_of"] (defScope (top 41)) _ _; exact ⟨rfl, by decide +kernel, by decide +kernel, by decide +kernel, by decide +kernel⟩) (Ξ := fun ds => ∃ L : List Int, ds = L.map PyData.int ∧ L.length ≤ 3 ∧ Bz 4 L) ?_) ?_
    · walk_at "q0.v"
      refine ⟨3, rfl, by decide, by unfold Lt2; decide +kernel, fun u u0 u1 => ?_⟩
      walk_at "q0.v"
      refine ⟨by omega, by omega, fun j acc => ∃ L : List Int, acc = L.map PyData.int ∧ L.length = j ∧ Bz 4 L, ⟨[], rfl, rfl, fun c h => nomatch h⟩, ?_, ?_⟩
      · rintro j y acc B' hB hj rfl ⟨L, rfl, lL, bL⟩
        intro s1 H1 C cl fp
        refine eve_same S fun S1 => ?_
        walk_at "q0.v"
        refine ⟨9, rfl, by decide, by unfold Lt2; decide +kernel, fun v v0 v1 => ?_⟩
        walk_at "q0.v"
        exact ⟨by rw [List.length_map]; exact szl (m := 1000) (by omega) rfl, L ++ [v - 4], by rw [List.map_append]; rfl, by simp [lL], fun c hc => by
          rcases List.mem_append.mp hc with h | h
          · exact bL c h
          · rw [List.mem_singleton.mp h]; omega⟩
      · rintro acc ⟨L, rfl, lL, bL⟩
        exact ⟨L, rfl, by omega, bL⟩
    rintro _ ⟨L, rfl, lL, bL⟩
    walk_at "q0.v"
    refine ⟨L, rfl, by omega, fun m ⟨n', hm⟩ hq => ?_⟩
    refine ⟨m, _, ?_, fun c hc => ?_, by rw [hq]; exact trim_nm _, rfl⟩
    · rw [hm, List.length_take]; omega
    · rw [hm] at hc
      exact bL c (List.mem_of_mem_take hc)
  rintro ρ ⟨root, t10, lR, bR, nR, rfl⟩
  have zd : Lt2 d 8000 := by unfold Lt2; exact Nat.lt_of_lt_of_le (show d.natAbs < 2 ^ 3 by omega) (Nat.pow_le_pow_right (by decide) (by decide))
  have sz : ∀ u : Int, u.natAbs ≤ 20 → Nb 20 6 ((u : Rat) / (d : Rat)) := fun u hu => nb_low (by omega) hu (by omega)
  refine eb_cons (es_mono (N1 := fun ρ => ρ = [some .src, some (.dat (.int d)), some (.dat (.int a)), some (.dat (.int (n : Nat))), some (.dat (intsD rest)), some (.dat (.int b)), t6, t7, t8, some (.dat (intsD root)), t10, some (.dat (.tuple [fr lo, fr hi]))]) (es_st S (i := 11) (by walk_at "q0.at") (by first | exact .inl rfl | exact .inr rfl) ?_) ?_)
  · walk_at "q0.v"
    refine ⟨a, d, rfl, by omega, zd, ?_⟩
    walk_at "q0.v"
    refine ⟨b, d, rfl, by omega, zd, ?_⟩
    walk_at "q0.v"
    rw [hlo, hhi]
    rfl
  rintro ρ rfl
  walk_at "q0.v0"
  refine ⟨5, rfl, by decide, by unfold Lt2; decide +kernel, fun u u0 u1 => ?_⟩
  walk_at "q0.v"
  refine ⟨12, rfl, by decide, by unfold Lt2; decide +kernel, fun v v0 v1 => ?_⟩
  walk_at "q0.v"
  exact hΦ lo hi root rest (1 + u) (1 + v) lh (by rw [hlo]; exact sz a (by omega)) (by rw [hhi]; exact sz b (by omega)) lR bR nR (by omega) br nr good (by omega) (by omega) (by omega) (by omega)

def chg : List Rat → List Rat
  | [] => [1]
  | c :: r => (c + 1) :: r
def Rchanged (ss : List Sl) (Φ : PyData → Prop) : Prop := ∃ p : List Rat, ss = [.dat (pol p)] ∧ p.length ≤ 50 ∧ Pz 2000 p ∧ Φ (pol (chg p))
section
local macro_rules | `(tactic| walk_at "q0.shp") => `(tactic| first | exact shapedPol _ | rfl | decide +kernel)
local macro_rules | `(tactic| walk_at "q0.ex") => `(tactic| first
  | ((with_reducible show EvE _ _ _ (.BinOp (.Tuple _ _ _) .Add _ _) _); refine ev_catT ?_))
theorem scchanged : FnScope ["_law_poly"] ["_law_poly"] (defScope (top 43)) := ⟨rfl, rfl, rfl, by decide +kernel, rfl, by decide +kernel, by decide +kernel⟩
theorem fichanged {P : Program} {w : World} {K : PySem.W.Frag} {mg : Str → Option Value} {base : Heap} {f : Addr} {fd : FuncData} (F : Fun K "_law_changed" "_law_changed" (top 43) f fd) (hm : mg "_law_changed" = some (.ref f)) (T : Txt mg) (U : TxL mg) (F1 : Fi P w K mg base 2 "_law_plus" (top 29) ["_law_left", "_law_right"] Rlplus) : Fi P w K mg base 3 "_law_changed" (top 43) ["_law_poly"] Rchanged := by
  have sc := scchanged
  refine fi_ofS F sc hm (F.binds fun _ _ _ _ _ _ us hl => match us, hl with | [_], _ => rfl) (fun ss Φ ⟨_, e, _⟩ => by rw [e]; exact ⟨rfl, rfl⟩) ?_
  rintro X B ss Φ ⟨cdv, A, out, s, H, rfl⟩ S hr ⟨p, rfl, lp, zp, hΦ⟩
  walk_at "q0.v0"
  rw [eqvPol0]
  cases p with
  | nil =>
    refine onT rfl ?_
    walk_at "q0.v"
    exact hΦ
  | cons c r =>
    refine onF rfl ?_
    walk_at "q0.v"
    refine ix_tup (d := fr c) (by have := atI_nat (xs := (c :: r).map fr) (n := 0) (by simp); simpa using this) ?_
    walk_at "q0.v"
    refine ⟨c, 1, rfl, (zp c (List.mem_cons_self ..)).mono (by decide), ⟨by decide, by decide⟩, ?_⟩
    walk_at "q0.v"
    refine ev_cutT ?_
    walk_at "q0.v"
    refine ⟨_, rfl, ?_⟩
    rw [show (1 : Int) = ((1 : Nat) : Int) from rfl, cut_from _ _ (by simp)]
    refine ⟨_, _, rfl, rfl, Nat.le_of_lt (szl (m := 1000) (by simp at lp ⊢; omega) rfl), ?_⟩
    exact hΦ
def Ristold (ss : List Sl) (Φ : PyData → Prop) : Prop := ∃ (P : List Rat) (Rw : List Int) (dn : Int) (lo hi : Rat) (ds : List PyData), ss = [.dat (pol P), .dat (.tuple [intsD Rw, .int dn]), .dat (.tuple [fr lo, fr hi]), .dat (.list ds)] ∧ P = polQ Rw dn ∧ 0 < dn ∧ Lt2 dn 100 ∧ Rw.length ≤ 8 ∧ Lz 100 Rw ∧ trim (ql Rw) = ql Rw ∧ (∀ d ∈ ds, ThC d) ∧ Φ (.bool true)
theorem scistold : FnScope ["_law_poly", "_law_goal", "_law_span", "_law_things", "_law_thing"] ["_law_poly", "_law_goal", "_law_span", "_law_things"] (defScope (top 45)) := ⟨rfl, rfl, rfl, by decide +kernel, rfl, by decide +kernel, by decide +kernel⟩
theorem fiistold {P : Program} {w : World} {K : PySem.W.Frag} {mg : Str → Option Value} {base : Heap} {f : Addr} {fd : FuncData} (F : Fun K "_law_is_told" "_law_is_told" (top 45) f fd) (hm : mg "_law_is_told" = some (.ref f)) (T : Txt mg) (U : TxL mg) (F1 : Fi P w K mg base 6 "sign_holds" (top 20) ["polynomial", "low", "high", "value"] Rsh) (F2 : Fi P w K mg base 5 "_law_is_paper" (top 40) ["_law_goal", "_law_begin", "_law_end", "_law_thing"] Rlpaper) : Fi P w K mg base 7 "_law_is_told" (top 45) ["_law_poly", "_law_goal", "_law_span", "_law_things"] Ristold := by
  have sc := scistold
  refine fi_ofS F sc hm (F.binds fun _ _ _ _ _ _ us hl => match us, hl with | [_, _, _, _], _ => rfl) (fun ss Φ ⟨_, _, _, _, _, _, e, _⟩ => by rw [e]; exact ⟨rfl, rfl⟩) ?_
  rintro X B ss Φ ⟨cdv, A, out, s, H, rfl⟩ S hr ⟨P, Rw, dn, lo, hi, ds, rfl, hP, pd, zd, lw, zw, nw, hds, hΦ⟩
  refine eb_cons (es_mono (N1 := fun ρ => ∃ t4 : Option Sl, ρ = [some (.dat (pol P)), some (.dat (.tuple [intsD Rw, .int dn])), some (.dat (.tuple [fr lo, fr hi])), some (.dat (.list ds)), t4]) (es_for S.po S.c (eg_nm S (i := 4) (by walk_at "q0.at") (by first | exact .inl rfl | exact .inr rfl)) ?_) ?_)
  · walk_at "q0.v"
    refine ⟨_, rfl, fun j ρ => ∃ t4 : Option Sl, ρ = [some (.dat (pol P)), some (.dat (.tuple [intsD Rw, .int dn])), some (.dat (.tuple [fr lo, fr hi])), some (.dat (.list ds)), t4], ⟨none, rfl⟩, ?_, fun ρ h => h⟩
    rintro j d ρ hj hd ⟨t4, rfl⟩
    have hc := hds d (List.mem_of_getElem? hd)
    walk_at "q0.v0"
    refine ⟨P, lo, hi, d, rfl, by rw [hP, polQ_len]; exact lw, hc, ?_⟩
    refine ⟨(Rb.bool' _).rpL (by decide) (by decide), ?_⟩
    walk_at "q0.v"
    refine ⟨Rw, dn, lo, hi, d, rfl, pd, zd, lw, zw, nw, hc, ?_⟩
    rw [← hP]
    refine ⟨rfl, onF rfl ?_⟩
    walk_at "q0.v"
    exact ⟨_, rfl⟩
  rintro ρ ⟨t4, rfl⟩
  walk_at "q0.v0"
  exact hΦ
end

structure Kn (lo hi : Rat) (root rest : List Int) (d1 d2 : Int) : Prop where
  lt : lo < hi
  zl : Nb 20 6 lo
  zh : Nb 20 6 hi
  lR : root.length ≤ 3
  bR : Bz 4 root
  nR : trim (ql root) = ql root
  lr : rest.length ≤ 3
  br : Bz 7200 rest
  nr : trim (ql rest) = ql rest
  good : ∀ s t, lo ≤ s → s ≤ hi → lo ≤ t → t ≤ hi → gdB s t (ql rest) = true
  a1 : 1 ≤ d1
  a2 : d1 ≤ 5
  c1 : 1 ≤ d2
  c2 : d2 ≤ 12
def knD (lo hi : Rat) (root rest : List Int) (d1 d2 : Int) : PyData := .tuple [.tuple [fr lo, fr hi], .tuple [intsD root, .int d1], .tuple [intsD rest, .int d2]]
def PK (root rest : List Int) (d1 d2 : Int) : List Rat := psc (1 / ((d1 * d1 * d2 : Int) : Rat)) (multQ (multQ (ql root) (ql root)) (ql rest))
def itK (root rest : List Int) (d1 d2 : Int) (b e : Rat) (tp dn : Int) : It := ⟨b, e, psc ((tp : Rat) / ((d1 * dn : Int) : Rat)) (ql root), psc (((dn * dn : Int) : Rat) / ((d2 * tp * tp : Int) : Rat)) (ql rest)⟩
theorem cast_ne0 {i : Int} (h : i ≠ 0) : (i : Rat) ≠ 0 := fun z => h (by exact_mod_cast z)
theorem itK_mk {lo hi : Rat} {root rest : List Int} {d1 d2 : Int} (k : Kn lo hi root rest d1 d2) {b e : Rat} {tp dn : Int} (ht : tp ≠ 0) (hd : 0 < dn) : mkB (itK root rest d1 d2 b e tp dn).s (itK root rest d1 d2 b e tp dn).r (PK root rest d1 d2) = true := by
  have q1 : (d1 : Rat) ≠ 0 := cast_ne0 (by have := k.a1; omega)
  have q2 : (d2 : Rat) ≠ 0 := cast_ne0 (by have := k.c1; omega)
  have q3 : (tp : Rat) ≠ 0 := cast_ne0 ht
  have q4 : (dn : Rat) ≠ 0 := cast_ne0 (by omega)
  have n1 : Nm (itK root rest d1 d2 b e tp dn).s := nm_psc (by
    rw [Rat.intCast_mul]
    exact fun z => by
      have : (tp : Rat) = 0 := by grind
      exact q3 this) k.nR
  have n2 : Nm (itK root rest d1 d2 b e tp dn).r := nm_psc (by
    rw [Rat.intCast_mul, Rat.intCast_mul, Rat.intCast_mul]
    exact fun z => by
      have : (dn : Rat) * dn = 0 := by grind
      rcases Rat.mul_eq_zero.mp this with h | h <;> exact q4 h) k.nr
  have n3 : Nm (PK root rest d1 d2) := nm_psc (by
    rw [Rat.intCast_mul, Rat.intCast_mul]
    exact fun z => by grind) (nm_multQ (nm_multQ k.nR k.nR) k.nr)
  refine decide_eq_true ?_
  refine nm_ev (nm_multQ (nm_multQ n1 n1) n2) n3 fun x => ?_
  rw [ev_multQ, ev_multQ]
  show ev (psc _ (ql root)) x * ev (psc _ (ql root)) x * ev (psc _ (ql rest)) x = ev (psc _ (multQ (multQ (ql root) (ql root)) (ql rest))) x
  rw [ev_psc, ev_psc, ev_psc, ev_multQ, ev_multQ]
  rw [Rat.intCast_mul, Rat.intCast_mul, Rat.intCast_mul, Rat.intCast_mul, Rat.intCast_mul, Rat.intCast_mul]
  generalize ev (ql root) x = u
  generalize ev (ql rest) x = v
  grind

theorem pz_low {r : List Int} {X : Nat} (h : Bz X r) {f : Rat} {N D k : Nat} (hf : Nb N D f) (hN : X * N < 2 ^ k) (hD : D < 2 ^ k) : Pz k (psc f (ql r)) := fun q hq => by
  obtain ⟨y, hy, rfl⟩ := List.mem_map.mp hq
  obtain ⟨c, hc, rfl⟩ := List.mem_map.mp hy
  have hc := h c hc
  have e : (c : Rat) * f = ((c * f.num : Int) : Rat) / ((f.den : Int) : Rat) := by
    rw [Rat.intCast_mul]
    conv => lhs; rw [num_div f]
    grind
  rw [e]
  refine (nb_low (N := X * N) (D := D) (den_pos f) ?_ (by have := hf.2; omega)).sz hN hD
  rw [Int.natAbs_mul]
  exact Nat.mul_le_mul hc hf.1
theorem itK_ok {lo hi : Rat} {root rest : List Int} {d1 d2 : Int} (k : Kn lo hi root rest d1 d2) {b e : Rat} {tp dn : Int} (ht : tp ≠ 0) (h3 : tp.natAbs ≤ 3) (hd : 0 < dn) (hd3 : dn ≤ 3) (hbe : b < e) (zb : Sz 26 b) (ze : Sz 26 e) : ItOk (itK root rest d1 d2 b e tp dn) := by
  have p1 : 0 < d1 * dn := Int.mul_pos (by have := k.a1; omega) hd
  have t2 : 0 < tp * tp := by
    rcases Int.lt_or_gt_of_ne ht with h | h
    · exact Int.mul_pos_of_neg_of_neg h h
    · exact Int.mul_pos h h
  have p2 : 0 < d2 * tp * tp := by rw [Int.mul_assoc]; exact Int.mul_pos (by have := k.c1; omega) t2
  have b1 : d1 * dn ≤ 15 := by
    have := Int.mul_le_mul (show d1 ≤ 5 from k.a2) hd3 (by omega) (by decide)
    omega
  have b2 : tp * tp ≤ 9 := by
    have : (tp * tp).natAbs ≤ 9 := by rw [Int.natAbs_mul]; exact Nat.mul_le_mul h3 h3
    omega
  have b3 : d2 * tp * tp ≤ 108 := by
    rw [Int.mul_assoc]
    have := Int.mul_le_mul (show d2 ≤ 12 from k.c2) b2 (by omega) (by decide)
    omega
  have b4 : (dn * dn).natAbs ≤ 9 := by rw [Int.natAbs_mul]; exact Nat.mul_le_mul (show dn.natAbs ≤ 3 by omega) (show dn.natAbs ≤ 3 by omega)
  have f1 : Nb 3 15 ((tp : Rat) / ((d1 * dn : Int) : Rat)) := nb_low p1 h3 (by omega)
  have f2 : Nb 9 108 (((dn * dn : Int) : Rat) / ((d2 * tp * tp : Int) : Rat)) := nb_low p2 b4 (by omega)
  have qt := cast_ne0 ht
  have qd := cast_ne0 (show dn ≠ 0 by omega)
  have qp1 := cast_ne0 (show d1 * dn ≠ 0 by omega)
  have qp2 := cast_ne0 (show d2 * tp * tp ≠ 0 by omega)
  have n1 : (tp : Rat) / ((d1 * dn : Int) : Rat) ≠ 0 := fun z => qt (by grind)
  have n2 : ((dn * dn : Int) : Rat) / ((d2 * tp * tp : Int) : Rat) ≠ 0 := fun z => by
    have : ((dn * dn : Int) : Rat) = 0 := by grind
    rw [Rat.intCast_mul] at this
    rcases Rat.mul_eq_zero.mp this with h | h <;> exact qd h
  exact ⟨hbe, nm_psc n1 k.nR, nm_psc n2 k.nr, zb, ze, by show (psc _ (ql root)).length ≤ 8; rw [psc_len, ql_len]; have := k.lR; omega, by show (psc _ (ql rest)).length ≤ 8; rw [psc_len, ql_len]; have := k.lr; omega,
    pz_low k.bR f1 (by decide) (by decide), pz_low k.br f2 (by decide) (by decide)⟩
theorem itK_gd {lo hi : Rat} {root rest : List Int} {d1 d2 : Int} (k : Kn lo hi root rest d1 d2) {b e : Rat} {tp dn : Int} (ht : tp ≠ 0) (hd : 0 < dn) (h1 : lo ≤ b) (h2 : b ≤ hi) (h3 : lo ≤ e) (h4 : e ≤ hi) : gdB b e (itK root rest d1 d2 b e tp dn).r = true := by
  show gdB b e (psc _ (ql rest)) = true
  have t2 : 0 < tp * tp := by
    rcases Int.lt_or_gt_of_ne ht with h | h
    · exact Int.mul_pos_of_neg_of_neg h h
    · exact Int.mul_pos h h
  have p2 : 0 < d2 * tp * tp := by rw [Int.mul_assoc]; exact Int.mul_pos (by have := k.c1; omega) t2
  have q2 : (0 : Rat) < ((d2 * tp * tp : Int) : Rat) := by exact_mod_cast p2
  have q3 : (0 : Rat) < ((dn * dn : Int) : Rat) := by exact_mod_cast Int.mul_pos hd hd
  rw [gdB_sc (by rw [Rat.div_def]; exact Rat.mul_pos q3 (Rat.inv_pos.mpr q2))]
  exact k.good b e h1 h2 h3 h4

/-- spots that go up from lo and stay below hi -/
structure SpL (lo hi : Rat) (M : List Rat) : Prop where
  z : M[0]? = some lo
  up : ∀ i x y, M[i]? = some x → M[i + 1]? = some y → x < y
  bt : ∀ q ∈ M, lo ≤ q ∧ q < hi ∧ Nb 110880 13824 q
def nbN : Nat → Nat
  | 0 => 20
  | 1 => 1680
  | _ => 110880
def nbD : Nat → Nat
  | 0 => 6
  | 1 => 288
  | _ => 13824
theorem SpL.snoc {lo hi q r : Rat} {M : List Rat} (h : SpL lo hi (M ++ [q])) (h1 : q < r) (h2 : r < hi) (h3 : Nb 110880 13824 r) : SpL lo hi (M ++ [q] ++ [r]) := by
  have hq := (h.bt q (by simp)).1
  refine ⟨?_, fun i x y hx hy => ?_, fun z hz => ?_⟩
  · rw [List.getElem?_append_left (by simp)]
    exact h.z
  · have hi2 := (List.getElem?_eq_some_iff.mp hy).1
    simp only [List.length_append, List.length_cons, List.length_nil] at hi2
    by_cases hl : i + 1 < (M ++ [q]).length
    · rw [List.getElem?_append_left hl] at hy
      rw [List.getElem?_append_left (by omega)] at hx
      exact h.up i x y hx hy
    · have hi3 : i = M.length := by simp at hl; omega
      subst hi3
      rw [List.getElem?_append_right (by simp)] at hy
      rw [List.getElem?_append_left (by simp), List.getElem?_append_right (Nat.le_refl _)] at hx
      simp at hx hy
      subst hx hy
      exact h1
  · rcases List.mem_append.mp hz with g | g
    · exact h.bt z g
    · rw [List.mem_singleton.mp g]
      exact ⟨by grind, h2, h3⟩
theorem fr_at {xs : List Rat} {j : Nat} {d : PyData} (h : (xs.map fr)[j]? = some d) : ∃ x, xs[j]? = some x ∧ d = fr x := by
  rw [List.getElem?_map] at h
  cases e : xs[j]? with
  | none => rw [e] at h; cases h
  | some i => rw [e] at h; exact ⟨i, rfl, (Option.some.inj h).symm⟩
/-- spots that go up from lo to hi -/
structure ChL (lo hi : Rat) (L : List Rat) : Prop where
  z : L[0]? = some lo
  up : ∀ i x y, L[i]? = some x → L[i + 1]? = some y → x < y
  l : L.getLast? = some hi
  bt : ∀ q ∈ L, lo ≤ q ∧ q ≤ hi ∧ Nb 110880 13824 q
theorem SpL.chain {lo hi : Rat} {M : List Rat} (h : SpL lo hi M) (lt : lo < hi) (zh : Nb 110880 13824 hi) (hn : M ≠ []) : ChL lo hi (M ++ [hi]) := by
  refine ⟨?_, fun i x y hx hy => ?_, by simp, fun z hz => ?_⟩
  · rw [List.getElem?_append_left (List.length_pos_iff.mpr hn)]
    exact h.z
  · have hi2 := (List.getElem?_eq_some_iff.mp hy).1
    simp only [List.length_append, List.length_cons, List.length_nil] at hi2
    by_cases hl : i + 1 < M.length
    · rw [List.getElem?_append_left hl] at hy
      rw [List.getElem?_append_left (by omega)] at hx
      exact h.up i x y hx hy
    · have hi3 : i + 1 = M.length := by omega
      rw [hi3, List.getElem?_append_right (Nat.le_refl _)] at hy
      rw [List.getElem?_append_left (by omega)] at hx
      simp at hy
      subst hy
      exact (h.bt x (List.mem_of_getElem? hx)).2.1
  · rcases List.mem_append.mp hz with g | g
    · exact ⟨(h.bt z g).1, Rat.le_of_lt (h.bt z g).2.1, (h.bt z g).2.2⟩
    · rw [List.mem_singleton.mp g]
      exact ⟨Rat.le_of_lt lt, Rat.le_refl, zh⟩
/-- what an item of a paper is like in size -/
structure It2 (x : It) : Prop where
  ok : ItOk x
  nb : Nb 110880 13824 x.b
  ne : Nb 110880 13824 x.e
  ls : x.s.length ≤ 3
  lr : x.r.length ≤ 3
  zs : Pz 17 x.s
  zr : Pz 17 x.r
theorem itK_2 {lo hi : Rat} {root rest : List Int} {d1 d2 : Int} (k : Kn lo hi root rest d1 d2) {b e : Rat} {tp dn : Int} (ht : tp ≠ 0) (h3 : tp.natAbs ≤ 3) (hd : 0 < dn) (hd3 : dn ≤ 3) (hbe : b < e) (zb : Nb 110880 13824 b) (ze : Nb 110880 13824 e) : It2 (itK root rest d1 d2 b e tp dn) := by
  have p1 : 0 < d1 * dn := Int.mul_pos (by have := k.a1; omega) hd
  have t2 : 0 < tp * tp := by
    rcases Int.lt_or_gt_of_ne ht with h | h
    · exact Int.mul_pos_of_neg_of_neg h h
    · exact Int.mul_pos h h
  have p2 : 0 < d2 * tp * tp := by rw [Int.mul_assoc]; exact Int.mul_pos (by have := k.c1; omega) t2
  have b1 : d1 * dn ≤ 15 := by
    have := Int.mul_le_mul (show d1 ≤ 5 from k.a2) hd3 (by omega) (by decide)
    omega
  have b2 : tp * tp ≤ 9 := by
    have : (tp * tp).natAbs ≤ 9 := by rw [Int.natAbs_mul]; exact Nat.mul_le_mul h3 h3
    omega
  have b3 : d2 * tp * tp ≤ 108 := by
    rw [Int.mul_assoc]
    have := Int.mul_le_mul (show d2 ≤ 12 from k.c2) b2 (by omega) (by decide)
    omega
  have b4 : (dn * dn).natAbs ≤ 9 := by rw [Int.natAbs_mul]; exact Nat.mul_le_mul (show dn.natAbs ≤ 3 by omega) (show dn.natAbs ≤ 3 by omega)
  have f1 : Nb 3 15 ((tp : Rat) / ((d1 * dn : Int) : Rat)) := nb_low p1 h3 (by omega)
  have f2 : Nb 9 108 (((dn * dn : Int) : Rat) / ((d2 * tp * tp : Int) : Rat)) := nb_low p2 b4 (by omega)
  exact ⟨itK_ok k ht h3 hd hd3 hbe (zb.sz (by decide) (by decide)) (ze.sz (by decide) (by decide)), zb, ze, by show (psc _ (ql root)).length ≤ 3; rw [psc_len, ql_len]; exact k.lR, by show (psc _ (ql rest)).length ≤ 3; rw [psc_len, ql_len]; exact k.lr,
    pz_low k.bR f1 (by decide) (by decide), pz_low k.br f2 (by decide) (by decide)⟩
/-- items between the spots -/
def ItsL (P L : List Rat) (its : List It) : Prop := ∀ i x, its[i]? = some x → L[i]? = some x.b ∧ L[i + 1]? = some x.e ∧ It2 x ∧ okB P x = true
theorem ItsL.nil {P L : List Rat} : ItsL P L [] := fun i x h => by simp at h
theorem ItsL.snoc {P L : List Rat} {its : List It} (h : ItsL P L its) {x : It} (h1 : L[its.length]? = some x.b) (h2 : L[its.length + 1]? = some x.e) (h3 : It2 x) (h4 : okB P x = true) : ItsL P L (its ++ [x]) := fun i y hy => by
  by_cases hl : i < its.length
  · rw [List.getElem?_append_left hl] at hy
    exact h i y hy
  · rw [List.getElem?_append_right (by omega)] at hy
    have : i = its.length := by
      have := (List.getElem?_eq_some_iff.mp hy).1
      simp at this
      omega
    subst this
    simp at hy
    subst hy
    exact ⟨h1, h2, h3, h4⟩
theorem ItsL.fin {P L : List Rat} {lo hi : Rat} {its : List It} (h : ItsL P L its) (c : ChL lo hi L) (hl : L.length = its.length + 1) (hp : 0 < its.length) : (∀ x ∈ its, It2 x) ∧ shL P lo hi its = true := by
  refine ⟨fun x hx => ?_, ?_⟩
  · obtain ⟨i, hi2⟩ := List.getElem?_of_mem hx
    exact (h i x hi2).2.2.1
  · cases its with
    | nil => exact absurd hp (by simp)
    | cons a r =>
      have e1 : a.b = lo := by
        have := (h 0 a rfl).1
        rw [c.z] at this
        exact (Option.some.inj this).symm
      have e2 : ((a :: r).getLast (by simp)).e = hi := by
        have g : (a :: r)[r.length]? = some ((a :: r).getLast (by simp)) := by
          rw [List.getLast_eq_getElem, List.getElem?_eq_getElem (by simp)]
          simp
        have := (h _ _ g).2.1
        have cl := c.l
        rw [List.getLast?_eq_getElem?, hl] at cl
        simp at cl
        rw [cl] at this
        exact (Option.some.inj this).symm
      have e3 : lkB (a :: r) = true := (lkB_iff _).mpr fun i x y hx hy => by
        have h1 := (h i x hx).2.1
        have h2 := (h (i + 1) y hy).1
        rw [h1] at h2
        exact Option.some.inj h2
      have e4 : (a :: r).all (okB P) = true := List.all_eq_true.mpr fun x hx => by
        obtain ⟨i, hi2⟩ := List.getElem?_of_mem hx
        exact (h i x hi2).2.2.2
      show (decide (a.b = lo) && (decide (((a :: r).getLast (by simp)).e = hi) && (lkB (a :: r) && (a :: r).all (okB P)))) = true
      rw [e3, e4, decide_eq_true e1, decide_eq_true e2]
      rfl
theorem told_eq {r : List Int} (h : trim (ql r) = ql r) {k D : Int} (hk : k ≠ 0) (hD : 0 < D) : trim (polQ (r.map (k * ·)) D) = psc ((k : Rat) / (D : Rat)) (ql r) := by
  have q1 := cast_ne0 hk
  have q2 := cast_ne0 (show D ≠ 0 by omega)
  have e : polQ (r.map (k * ·)) D = psc ((k : Rat) / (D : Rat)) (ql r) := by
    unfold polQ psc ql
    rw [List.map_map, List.map_map]
    refine List.map_congr_left fun t _ => ?_
    show ((k * t : Int) : Rat) / D = (t : Rat) * ((k : Rat) / D)
    rw [Rat.intCast_mul]
    grind
  rw [e]
  exact nm_psc (fun z => q1 (by grind)) h
def Rparted (ss : List Sl) (Φ : PyData → Prop) : Prop := ∃ (lo hi : Rat) (root rest : List Int) (d1 d2 : Int), ss = [.src, .dat (knD lo hi root rest d1 d2)] ∧ Kn lo hi root rest d1 d2 ∧
  ∀ its : List It, its ≠ [] → its.length ≤ 3 → (∀ x ∈ its, It2 x) → shL (PK root rest d1 d2) lo hi its = true → Φ (.tuple (its.map itD))
theorem scparted : FnScope ["_law_store_here", "_law_known_here", "_law_begin", "_law_end", "_law_root", "_law_deep", "_law_rest", "_law_under", "_law_spots", "_law_found", "_law_turn", "_law_last", "_law_k", "_law_first", "_law_top", "_law_down", "_law_left"] ["_law_store_here", "_law_known_here"] (defScope (top 42)) := ⟨rfl, rfl, rfl, by decide +kernel, rfl, by decide +kernel, by decide +kernel⟩
theorem fiparted {P : Program} {w : World} {K : PySem.W.Frag} {mg : Str → Option Value} {base : Heap} {f : Addr} {fd : FuncData} (F : Fun K "_law_parted" "_law_parted" (top 42) f fd) (hm : mg "_law_parted" = some (.ref f)) (T : Txt mg) (U : TxL mg) (F1 : Fi P w K mg base 1 "_law_draw" (top 25) ["_law_store_here", "_law_many"] Rdraw) (F2 : Fi P w K mg base 1 "_law_cut" (top 27) ["_law_top", "_law_bottom"] Rcut) (F3 : Fi P w K mg base 2 "_law_pick" (top 26) ["_law_store_here", "_law_items"] Rpick) (F4 : Fi P w K mg base 2 "_law_told" (top 34) ["_law_row", "_law_down"] Rtold) (F5 : Fi P w K mg base 1 "_law_by" (top 33) ["_law_row", "_law_much"] Rlby) : Fi P w K mg base 3 "_law_parted" (top 42) ["_law_store_here", "_law_known_here"] Rparted := by
  have sc := scparted
  refine fi_ofS F sc hm (F.binds fun _ _ _ _ _ _ us hl => match us, hl with | [_, _], _ => rfl) (fun ss Φ ⟨_, _, _, _, _, _, e, _⟩ => by rw [e]; exact ⟨rfl, rfl⟩) ?_
  rintro X B ss Φ ⟨cdv, A, out, s, H, rfl⟩ S hr ⟨lo, hi, root, rest, d1, d2, rfl, kn, hΦ⟩
  refine eb_cons (es_mono (N1 := fun ρ => ρ = [some .src, some (.dat (knD lo hi root rest d1 d2)), some (.dat (fr lo)), some (.dat (fr hi)), some (.dat (intsD root)), some (.dat (.int d1)), some (.dat (intsD rest)), some (.dat (.int d2)), none, none, none, none, none, none, none, none, none]) (es_asg (eg_tup (n := 3) S.c (egs_cons (eg_tup (n := 2) S.c (egs_cons (eg_nm S (i := 2) (by walk_at "q0.at") (.inl rfl)) (egs_cons (eg_nm S (i := 3) (by walk_at "q0.at") (.inl rfl)) egs_nil))) (egs_cons (eg_tup (n := 2) S.c (egs_cons (eg_nm S (i := 4) (by walk_at "q0.at") (.inl rfl)) (egs_cons (eg_nm S (i := 5) (by walk_at "q0.at") (.inl rfl)) egs_nil))) (egs_cons (eg_tup (n := 2) S.c (egs_cons (eg_nm S (i := 6) (by walk_at "q0.at") (.inl rfl)) (egs_cons (eg_nm S (i := 7) (by walk_at "q0.at") (.inl rfl)) egs_nil))) egs_nil)))) ?_) ?_)
  · walk_at "q0.v"
    exact ⟨_, _, rfl, ⟨_, rfl, rfl, _, _, rfl, _, _, rfl, rfl, _, _, rfl, ⟨_, rfl, rfl, _, _, rfl, _, _, rfl, rfl, _, _, rfl, ⟨_, rfl, rfl, _, _, rfl, _, _, rfl, rfl, rfl, rfl⟩⟩⟩⟩
  rintro ρ rfl
  refine eb_cons (es_p2H S (i := 8) (j := 9) (by decide) (by walk_at "q0.at") (by walk_at "q0.at") rfl rfl (ef_lst ?_))
  walk_at "q0.v"
  intro B' hB
  refine ef_lst ?_
  walk_at "q0.v"
  show EvS _ _ [some .src, some (.dat (knD lo hi root rest d1 d2)), some (.dat (fr lo)), some (.dat (fr hi)), some (.dat (intsD root)), some (.dat (.int d1)), some (.dat (intsD rest)), some (.dat (.int d2)), some (.own ([lo].map fr)), some (.own []), none, none, none, none, none, none, none] _ _
  refine es_mono (N1 := fun ρ => ∃ (M : List Rat) (t10 t11 t12 : Option Sl), M ≠ [] ∧ M.length ≤ 3 ∧ SpL lo hi M ∧ ρ = [some .src, some (.dat (knD lo hi root rest d1 d2)), some (.dat (fr lo)), some (.dat (fr hi)), some (.dat (intsD root)), some (.dat (.int d1)), some (.dat (intsD rest)), some (.dat (.int d2)), some (.own (M.map fr)), some (.own []), t10, t11, t12, none, none, none, none]) (es_range S.po S.c rfl T.range (eg_nm S (i := 10) (by walk_at "q0.at") (.inl rfl)) ?_) ?_
  · walk_at "q0.v"
    refine ⟨3, rfl, by decide, by unfold Lt2; decide +kernel, fun u u0 u1 => ?_⟩
    walk_at "q0.v"
    refine ⟨by omega, by omega, fun j ρ => ∃ (M : List Rat) (q : Rat) (t10 t11 t12 : Option Sl), M.length = j ∧ SpL lo hi (M ++ [q]) ∧ Nb (nbN j) (nbD j) q ∧ ρ = [some .src, some (.dat (knD lo hi root rest d1 d2)), some (.dat (fr lo)), some (.dat (fr hi)), some (.dat (intsD root)), some (.dat (.int d1)), some (.dat (intsD rest)), some (.dat (.int d2)), some (.own ((M ++ [q]).map fr)), some (.own []), t10, t11, t12, none, none, none, none], ⟨[], lo, none, none, none, rfl, ⟨rfl, fun i x y hx hy => (by simp at hy), fun z hz => (by
      rw [List.mem_singleton.mp hz]
      exact ⟨Rat.le_refl, kn.lt, kn.zl.mono (by decide) (by decide)⟩)⟩, kn.zl, rfl⟩, ?_, ?_⟩
    · rintro j y ρ hj rfl ⟨M, q, t10, t11, t12, lM, sM, zq, rfl⟩
      refine eb_cons (es_mono (N1 := fun ρ => ∃ k : Int, 1 ≤ k ∧ k ≤ 7 ∧ ρ = [some .src, some (.dat (knD lo hi root rest d1 d2)), some (.dat (fr lo)), some (.dat (fr hi)), some (.dat (intsD root)), some (.dat (.int d1)), some (.dat (intsD rest)), some (.dat (.int d2)), some (.own ((M ++ [q]).map fr)), some (.own []), some (.dat (.int (j : Nat))), some (.dat (fr q)), some (.dat (.int k)), none, none, none, none]) (es_p2 S (i := 11) (j := 12) (by walk_at "q0.at") (by walk_at "q0.at") rfl rfl (ev_frz (i := 8) rfl ?_)) ?_)
      · walk_at "q0.v"
        refine ix_lst (d := fr q) (by rw [atI_last (by simp)]; simp) ?_
        refine ⟨rfl, ?_⟩
        walk_at "q0.v"
        refine ⟨7, rfl, by decide, by unfold Lt2; decide +kernel, fun v v0 v1 => ?_⟩
        walk_at "q0.v"
        exact ⟨1 + v, by omega, by omega, rfl⟩
      rintro ρ ⟨k, k0, k1, rfl⟩
      have j2 : j = 0 ∨ j = 1 := by omega
      have bq := sM.bt q (by simp)
      have sq : Sz 20 q := bq.2.2.sz (by decide) (by decide)
      have sh : Sz 20 hi := kn.zh.sz (by decide) (by decide)
      have dq := den_pos q
      have dh := den_pos hi
      have w1 : Lt2 (q.num * (hi.den : Int)) 40 := mulm sq.nn sh.dd
      have w2 : Lt2 (hi.num * (q.den : Int)) 40 := mulm sh.nn sq.dd
      have w3 : Lt2 (8 - k) 64 := lit (by omega) (by decide)
      have w4 : Lt2 k 64 := lit (by omega) (by decide)
      have w5 : Lt2 8 64 := lit (by decide) (by decide)
      have w6 : Lt2 (8 * (q.den : Int)) 84 := mulm w5 sq.dd
      have dp : 0 < 8 * (q.den : Int) * (hi.den : Int) := Int.mul_pos (by omega) dh
      refine eb_one (es_append 8 rfl rfl (.inl rfl) ?_)
      walk_at "q0.v"
      refine ⟨_, _, rfl, dp, (mulm w6 sh.dd).mono (by decide), ?_⟩
      obtain ⟨r, hr2⟩ : ∃ r : Rat, r = ((q.num * (hi.den : Int) * (8 - k) + hi.num * (q.den : Int) * k : Int) : Rat) / ((8 * (q.den : Int) * (hi.den : Int) : Int) : Rat) := ⟨_, rfl⟩
      rw [← hr2]
      have er : r = q + (hi - q) * ((k : Rat) / 8) := by
        rw [hr2]
        have h1 : (q.den : Rat) ≠ 0 := by exact_mod_cast q.den_nz
        have h2 : (hi.den : Rat) ≠ 0 := by exact_mod_cast hi.den_nz
        have e1 := num_den q
        have e2 := num_den hi
        push_cast
        rw [e1, e2]
        grind
      have kp : (0 : Rat) < (k : Rat) := by exact_mod_cast (show 0 < k by omega)
      have k8 : (k : Rat) < 8 := by exact_mod_cast (show k < 8 by omega)
      have pp : 0 < (hi - q) * ((k : Rat) / 8) := Rat.mul_pos (by grind) (by grind)
      have p2 : 0 < (hi - q) * (1 - (k : Rat) / 8) := Rat.mul_pos (by grind) (by grind)
      have nr : Nb (nbN (j + 1)) (nbD (j + 1)) r := by
        rw [hr2]
        refine nb_low dp ?_ ?_
        · refine Nat.le_trans (Int.natAbs_add_le _ _) ?_
          rw [Int.natAbs_mul, Int.natAbs_mul, Int.natAbs_mul, Int.natAbs_mul, Int.natAbs_natCast, Int.natAbs_natCast]
          refine Nat.le_trans (Nat.add_le_add (Nat.mul_le_mul (Nat.mul_le_mul zq.1 kn.zh.2) (show (8 - k).natAbs ≤ 7 by omega)) (Nat.mul_le_mul (Nat.mul_le_mul kn.zh.1 zq.2) (show k.natAbs ≤ 7 by omega))) ?_
          rcases j2 with rfl | rfl <;> decide
        · have h3 := Nat.mul_le_mul (Nat.mul_le_mul_left 8 zq.2) kn.zh.2
          have h4 : 8 * nbD j * 6 ≤ nbD (j + 1) := by rcases j2 with rfl | rfl <;> decide
          have h5 : 8 * q.den * hi.den ≤ nbD (j + 1) := Nat.le_trans h3 h4
          exact_mod_cast h5
      refine ⟨by rw [List.length_map]; exact szl (m := 1000) (by simp; omega) rfl, M ++ [q], r, some (.dat (.int (j : Nat))), some (.dat (fr q)), some (.dat (.int k)), by simp [lM], sM.snoc (by rw [er]; grind) (by rw [er]; grind) (nr.mono (by rcases j2 with rfl | rfl <;> decide) (by rcases j2 with rfl | rfl <;> decide)), nr, ?_⟩
      rw [List.map_append (f := fr) (l₁ := M ++ [q])]
      rfl
    · rintro ρ ⟨M, q, t10, t11, t12, lM, sM, zq, rfl⟩
      exact ⟨M ++ [q], t10, t11, t12, by simp, by simp; omega, sM, rfl⟩
  rintro ρ ⟨M, t10, t11, t12, nM, lM, sM, rfl⟩
  have zhi : Nb 110880 13824 hi := kn.zh.mono (by decide) (by decide)
  refine eb_cons (es_mono (N1 := fun ρ => ρ = [some .src, some (.dat (knD lo hi root rest d1 d2)), some (.dat (fr lo)), some (.dat (fr hi)), some (.dat (intsD root)), some (.dat (.int d1)), some (.dat (intsD rest)), some (.dat (.int d2)), some (.own ((M ++ [hi]).map fr)), some (.own []), t10, t11, t12, none, none, none, none]) (es_append 8 rfl rfl (.inl rfl) ?_) ?_)
  · walk_at "q0.v"
    refine ⟨by rw [List.length_map]; exact szl (m := 1000) (by omega) rfl, ?_⟩
    rw [List.map_append]
    rfl
  rintro ρ rfl
  refine eb_freeze (i := 8) rfl ?_
  obtain ⟨L, hL⟩ : ∃ L, L = M ++ [hi] := ⟨_, rfl⟩
  rw [← hL]
  have cL : ChL lo hi L := hL ▸ sM.chain kn.lt zhi nM
  have lL : L.length = M.length + 1 := by rw [hL]; simp
  have pM := List.length_pos_iff.mpr nM
  clear hL sM
  show EvB _ _ [some .src, some (.dat (knD lo hi root rest d1 d2)), some (.dat (fr lo)), some (.dat (fr hi)), some (.dat (intsD root)), some (.dat (.int d1)), some (.dat (intsD rest)), some (.dat (.int d2)), some (.dat (.list (L.map fr))), some (.own []), t10, t11, t12, none, none, none, none] _ _
  have drop1 : (L.map fr).drop 1 = (L.drop 1).map fr := by rw [List.map_drop]
  refine eb_cons (es_mono (N1 := fun ρ => ∃ (its : List It) (t11 t13 t14 t15 t16 : Option Sl), its.length = M.length ∧ ItsL (PK root rest d1 d2) L its ∧ ρ = [some .src, some (.dat (knD lo hi root rest d1 d2)), some (.dat (fr lo)), some (.dat (fr hi)), some (.dat (intsD root)), some (.dat (.int d1)), some (.dat (intsD rest)), some (.dat (.int d2)), some (.dat (.list (L.map fr))), some (.own (its.map itD)), t10, t11, t12, t13, t14, t15, t16]) (es_zip S.po S.c rfl U.zip (eg_tup (n := 2) S.c (egs_cons (eg_nm S (i := 13) (by walk_at "q0.at") (by first | exact .inl rfl | exact .inr rfl)) (egs_cons (eg_nm S (i := 11) (by walk_at "q0.at") (by first | exact .inl rfl | exact .inr rfl)) egs_nil))) ?_) ?_)
  · walk_at "q0.v"
    refine ev_slice ?_
    walk_at "q0.v"
    refine ⟨_, rfl, ?_⟩
    rw [show (1 : Int) = ((1 : Nat) : Int) from rfl, cut_from _ _ (by rw [List.length_map]; omega), drop1]
    refine ⟨_, _, rfl, rfl, fun j ρ => ∃ (its : List It) (t11 t13 t14 t15 t16 : Option Sl), its.length = j ∧ ItsL (PK root rest d1 d2) L its ∧ ρ = [some .src, some (.dat (knD lo hi root rest d1 d2)), some (.dat (fr lo)), some (.dat (fr hi)), some (.dat (intsD root)), some (.dat (.int d1)), some (.dat (intsD rest)), some (.dat (.int d2)), some (.dat (.list (L.map fr))), some (.own (its.map itD)), t10, t11, t12, t13, t14, t15, t16], ⟨[], t11, none, none, none, none, rfl, ItsL.nil, rfl⟩, ?_, ?_⟩
    · rintro j y ρ hj ⟨z, w2, hz, hw2, rfl⟩ ⟨its, t11, t13, t14, t15, t16, li, oki, rfl⟩
      obtain ⟨b, hb, rfl⟩ := fr_at hz
      obtain ⟨e, he, rfl⟩ := fr_at hw2
      have he : L[j + 1]? = some e := by rw [List.getElem?_drop] at he; rwa [Nat.add_comm] at he
      refine ⟨_, rfl, rfl, _, _, rfl, _, _, rfl, rfl, ?_⟩
      refine eb_cons (es_mono (N1 := fun ρ => ∃ tp dn : Int, tp ≠ 0 ∧ tp.natAbs ≤ 3 ∧ 0 < dn ∧ dn ≤ 3 ∧ ρ = [some .src, some (.dat (knD lo hi root rest d1 d2)), some (.dat (fr lo)), some (.dat (fr hi)), some (.dat (intsD root)), some (.dat (.int d1)), some (.dat (intsD rest)), some (.dat (.int d2)), some (.dat (.list (L.map fr))), some (.own (its.map itD)), t10, some (.dat (fr e)), t12, some (.dat (fr b)), some (.dat (.int tp)), some (.dat (.int dn)), t16]) (es_un2 S (i := 14) (j := 15) (by walk_at "q0.at") (by walk_at "q0.at") (.inl rfl) (.inl rfl) ?_) ?_)
      · walk_at "q0.v"
        refine ⟨_, rfl, by decide, by decide, fun d hd => ?_⟩
        simp only [List.mem_cons, List.not_mem_nil, or_false] at hd
        rcases hd with rfl | rfl | rfl | rfl | rfl <;> exact ⟨_, _, rfl, _, _, by decide, by decide, by decide, by decide, rfl⟩
      rintro ρ ⟨tp, dn, tp0, tp3, dn0, dn3, rfl⟩
      have k1 := kn.a1
      have k2 := kn.a2
      have k3 := kn.c1
      have k4 := kn.c2
      have z1 : Lt2 d1 64 := lit (by omega) (by decide)
      have z2 : Lt2 d2 64 := lit (by omega) (by decide)
      have z3 : Lt2 tp 64 := lit (by omega) (by decide)
      have z4 : Lt2 dn 64 := lit (by omega) (by decide)
      have p1 : 0 < d1 * dn := Int.mul_pos (by omega) dn0
      have p3 : 0 < tp * tp := by
        rcases Int.lt_or_gt_of_ne tp0 with h | h
        · exact Int.mul_pos_of_neg_of_neg h h
        · exact Int.mul_pos h h
      have p2 : 0 < d2 * tp * tp := by rw [Int.mul_assoc]; exact Int.mul_pos (by omega) p3
      have td1 : trim (polQ (root.map (tp * ·)) (d1 * dn)) = (itK root rest d1 d2 b e tp dn).s := told_eq kn.nR tp0 p1
      have td2 : trim (polQ (rest.map (dn * dn * ·)) (d2 * tp * tp)) = (itK root rest d1 d2 b e tp dn).r := told_eq kn.nr (by have := Int.mul_pos dn0 dn0; omega) p2
      have cb := cL.bt b (List.mem_of_getElem? hb)
      have ce := cL.bt e (List.mem_of_getElem? he)
      have hok : It2 (itK root rest d1 d2 b e tp dn) := itK_2 kn tp0 tp3 dn0 dn3 (cL.up j b e hb he) cb.2.2 ce.2.2
      have hob : okB (PK root rest d1 d2) (itK root rest d1 d2 b e tp dn) = true := by
        show (mkB _ _ _ && gdB _ _ _) = true
        rw [itK_mk kn tp0 dn0]
        exact itK_gd kn tp0 dn0 cb.1 cb.2.1 ce.1 ce.2.1
      refine eb_cons (es_mono (N1 := fun ρ => ρ = [some .src, some (.dat (knD lo hi root rest d1 d2)), some (.dat (fr lo)), some (.dat (fr hi)), some (.dat (intsD root)), some (.dat (.int d1)), some (.dat (intsD rest)), some (.dat (.int d2)), some (.dat (.list (L.map fr))), some (.own (its.map itD)), t10, some (.dat (fr e)), t12, some (.dat (fr b)), some (.dat (.int tp)), some (.dat (.int dn)), some (.dat (pol (itK root rest d1 d2 b e tp dn).s))]) (es_st S (i := 16) (by walk_at "q0.at") (by first | exact .inl rfl | exact .inr rfl) ?_) ?_)
      · walk_at "q0.v"
        refine ⟨root, tp, 8, 64, rfl, by have := kn.lR; omega, kn.bR.lz (by decide), z3, by decide, ?_⟩
        walk_at "q0.v"
        refine ⟨_, _, rfl, by rw [List.length_map]; have := kn.lR; omega, p1, (mulm z1 z4).mono (by decide), ?_⟩
        rw [td1]
        rfl
      rintro ρ rfl
      refine eb_one (es_append 9 rfl rfl (.inl rfl) ?_)
      walk_at "q0.v"
      refine ⟨rest, dn * dn, 20, 200, rfl, by have := kn.lr; omega, kn.br.lz (by decide), (mulm z4 z4).mono (by decide), by decide, ?_⟩
      walk_at "q0.v"
      refine ⟨_, _, rfl, by rw [List.length_map]; have := kn.lr; omega, p2, (mulm (mulm z2 z3) z3).mono (by decide), ?_⟩
      rw [td2]
      walk_at "q0.v"
      have hj3 : j ≤ 3 := by
        have h5 : j < (L.map fr).length := by omega
        rw [List.length_map] at h5
        omega
      refine ⟨by rw [List.length_map]; exact szl (m := 1000) (by omega) rfl, its ++ [itK root rest d1 d2 b e tp dn], some (.dat (fr e)), some (.dat (fr b)), some (.dat (.int tp)), some (.dat (.int dn)), some (.dat (pol (itK root rest d1 d2 b e tp dn).s)), by simp [li], oki.snoc (by rw [li]; exact hb) (by rw [li]; exact he) hok hob, ?_⟩
      rw [List.map_append]
      rfl
    · rintro ρ ⟨its, t11, t13, t14, t15, t16, li, oki, rfl⟩
      refine ⟨its, t11, t13, t14, t15, t16, ?_, oki, rfl⟩
      simp at li
      omega
  rintro ρ ⟨its, t11, t13, t14, t15, t16, li, oki, rfl⟩
  obtain ⟨h1, h2⟩ := oki.fin cL (by omega) (by omega)
  refine eb_freeze (i := 9) rfl ?_
  walk_at "q0.v0"
  exact hΦ its (fun z => by rw [z] at li; simp at li; omega) (by omega) h1 h2

/-! data without dicts, their sizes -/
def Dq (k b : Nat) (d : PyData) : Prop := d.canLay0 = true ∧ d.showable = true ∧ d.leavesShort 2000 = true ∧ d.depth ≤ k ∧ d.bulk ≤ b
def DqA (k b : Nat) (ds : List PyData) : Prop := PyData.canLayAll0 ds = true ∧ PyData.showableAll ds = true ∧ PyData.leavesShortAll 2000 ds = true ∧ PyData.depthAll ds ≤ k ∧ PyData.bulkAll ds ≤ b
theorem Dq.mono {k b k' b' : Nat} {d : PyData} (h : Dq k b d) (l : k ≤ k') (m : b ≤ b') : Dq k' b' d := ⟨h.1, h.2.1, h.2.2.1, Nat.le_trans h.2.2.2.1 l, Nat.le_trans h.2.2.2.2 m⟩
theorem DqA.nil {k : Nat} : DqA k 0 [] := ⟨by simp [PyData.canLayAll0], by simp [PyData.showableAll], by simp [PyData.leavesShortAll], by simp [PyData.depthAll], by simp [PyData.bulkAll]⟩
theorem DqA.cons {k a b : Nat} {d : PyData} {ds : List PyData} (h : Dq k a d) (g : DqA k b ds) : DqA k (a + 1 + b) (d :: ds) := by
  obtain ⟨h0, h1, h2, h3, h4⟩ := h
  obtain ⟨g0, g1, g2, g3, g4⟩ := g
  refine ⟨by simp [PyData.canLayAll0, h0, g0], by simp [PyData.showableAll, h1, g1], by simp [PyData.leavesShortAll, h2, g2], ?_, ?_⟩
  · simp only [PyData.depthAll]; omega
  · simp only [PyData.bulkAll]; omega
theorem DqA.all {k b : Nat} : ∀ {ds : List PyData}, (∀ d ∈ ds, Dq k b d) → DqA k ((b + 1) * ds.length) ds
  | [], _ => DqA.nil
  | d :: ds, h => by
    have := DqA.cons (h d (List.mem_cons_self ..)) (DqA.all fun x hx => h x (List.mem_cons_of_mem _ hx))
    refine ⟨this.1, this.2.1, this.2.2.1, this.2.2.2.1, Nat.le_trans this.2.2.2.2 ?_⟩
    rw [List.length_cons, Nat.mul_add]
    omega
theorem DqA.tup {k b : Nat} {ds : List PyData} (h : DqA k b ds) : Dq (k + 1) b (.tuple ds) := by
  obtain ⟨h0, h1, h2, h3, h4⟩ := h
  exact ⟨by simpa [PyData.canLay0] using h0, by simpa [PyData.showable] using h1, by simpa [PyData.leavesShort] using h2, by simp only [PyData.depth]; omega, by simpa only [PyData.bulk] using h4⟩
theorem DqA.lst {k b : Nat} {ds : List PyData} (h : DqA k b ds) : Dq (k + 1) b (.list ds) := by
  obtain ⟨h0, h1, h2, h3, h4⟩ := h
  exact ⟨by simpa [PyData.canLay0] using h0, by simpa [PyData.showable] using h1, by simpa [PyData.leavesShort] using h2, by simp only [PyData.depth]; omega, by simpa only [PyData.bulk] using h4⟩
theorem Dq.of {k b : Nat} {d : PyData} (h : Rb k b d) (c : d.canLay0 = true) : Dq k b d := ⟨c, h.1, h.2.2.1, h.2.2.2.1, h.2.2.2.2⟩
theorem Dq.int {i : Int} (h : Lt2 i 1900) : Dq 0 0 (.int i) := .of (Rb.int' h) (by simp [PyData.canLay0])
theorem Dq.bool (b : Bool) : Dq 0 0 (.bool b) := .of (Rb.bool' b) (by simp [PyData.canLay0])
theorem Dq.none : Dq 0 0 .none := .of Rb.none' (by simp [PyData.canLay0])
theorem Dq.fr {q : Rat} (h : Sz 1900 q) : Dq 1 2 (fr q) := (DqA.cons (Dq.int h.nn) (DqA.cons (Dq.int h.dd) DqA.nil)).tup
theorem dq_frs {p : List Rat} (h : Pz 1900 p) : ∀ d ∈ p.map Vw.fr, Dq 1 2 d := fun d hd => by
  obtain ⟨q, hq, rfl⟩ := List.mem_map.mp hd
  exact Dq.fr (h q hq)
theorem Dq.frs {p : List Rat} {n : Nat} (h : Pz 1900 p) (hl : p.length ≤ n) : DqA 1 (3 * n) (p.map Vw.fr) := by
  have := DqA.all (dq_frs h)
  exact ⟨this.1, this.2.1, this.2.2.1, this.2.2.2.1, Nat.le_trans this.2.2.2.2 (by rw [List.length_map]; omega)⟩
/-! items, papers, things of the law -/
theorem cut_sub (ds : List PyData) (l u : Option Int) : ∀ d ∈ cutD ds l u, d ∈ ds := fun d h => List.mem_of_mem_drop (List.mem_of_mem_take h)
theorem cut_le (ds : List PyData) (l u : Option Int) : (cutD ds l u).length ≤ ds.length := by
  unfold cutD
  rw [List.length_take, List.length_drop]
  omega
def FE (d : PyData) : Prop := Dq 3 4 d ∧ FrC d
def PE (d : PyData) : Prop := Dq 3 12 d ∧ PlC d
def Im (d : PyData) : Prop := Dq 6 36 d ∧ ItmC d
structure Tg (d : PyData) : Prop where
  sh : d.showable = true
  lv : d.leavesShort 2000 = true
  dp : d.depth ≤ 10
  bk : d.bulk ≤ 148
  th : ThC d
theorem FE.fr {q : Rat} (h : Sz 26 q) : FE (fr q) := ⟨(Dq.fr (h.mono (by decide))).mono (by decide) (by decide), FrK.of h⟩
theorem FE.lst {q : Rat} (h : Sz 26 q) : FE (.list [.int q.num, .int q.den]) := by
  have h' : Sz 1900 q := h.mono (by decide)
  exact ⟨(DqA.cons (Dq.int h'.nn) (DqA.cons (Dq.int h'.dd) DqA.nil)).lst.mono (by decide) (by decide), fun t u e => nomatch e⟩
theorem FE.two {q : Rat} (h : Sz 25 q) : FE (.tuple [.int (2 * q.num), .int (2 * (q.den : Int))]) := by
  have two : Lt2 2 2 := by unfold Lt2; decide
  have h1 : ∀ {i : Int}, Lt2 i 25 → Lt2 (2 * i) 26 := fun {i} hi => by
    unfold Lt2 at *
    omega
  have a1 := h1 h.nn
  have a2 := h1 h.dd
  refine ⟨(DqA.cons (Dq.int (a1.mono (by decide))) (DqA.cons (Dq.int (a2.mono (by decide))) DqA.nil)).tup.mono (by decide) (by decide), fun t u e => ?_⟩
  injection e with e
  injection e with e1 e
  injection e with e2 _
  injection e1 with e1
  injection e2 with e2
  subst e1 e2
  exact ⟨a1, a2⟩
theorem FE.tru : FE (.tuple [.bool true, .int 1]) := ⟨(DqA.cons (Dq.bool true) (DqA.cons (Dq.int (by unfold Lt2; decide +kernel)) DqA.nil)).tup.mono (by decide) (by decide), fun t u e => by
  injection e with e
  injection e with e1 _
  cases e1⟩
theorem PE.sub {ds : List PyData} {p : List Rat} (h : ∀ d ∈ ds, d ∈ p.map fr) (hz : Pz 40 p) (hl : ds.length ≤ 4) : PE (.tuple ds) := by
  have h2 := DqA.all (ds := ds) fun d hd => dq_frs (hz.mono (by decide)) d (h d hd)
  refine ⟨Dq.mono (DqA.tup h2) (by decide) (by omega), fun es e => ?_⟩
  injection e with e
  subst e
  refine ⟨by omega, fun x hx => ?_⟩
  obtain ⟨q, hq, rfl⟩ := List.mem_map.mp (h x hx)
  exact FrK.of (hz q hq)
theorem PE.pol {p : List Rat} (hz : Pz 40 p) (hl : p.length ≤ 4) : PE (pol p) := PE.sub (p := p) (fun _ h => h) hz (by rw [List.length_map]; exact hl)
theorem PE.lst {p : List Rat} (hz : Pz 40 p) (hl : p.length ≤ 4) : PE (.list (p.map Vw.fr)) := by
  have h2 := DqA.all (dq_frs (hz.mono (show 40 ≤ 1900 by decide)))
  exact ⟨Dq.mono (DqA.lst h2) (by decide) (by rw [List.length_map]; omega), fun es e => nomatch e⟩
theorem PE.none : PE .none := ⟨Dq.none.mono (by decide) (by decide), fun es e => nomatch e⟩
theorem Im.four {b e s r : PyData} (hb : FE b) (he : FE e) (hs : PE s) (hr : PE r) : Im (.tuple [b, e, s, r]) := by
  refine ⟨Dq.mono (DqA.tup (DqA.cons hb.1 (DqA.cons he.1 (DqA.cons hs.1 (DqA.cons hr.1 DqA.nil))))) (by decide) (by decide), fun b' e' s' r' z => ?_⟩
  injection z with z
  injection z with z1 z
  injection z with z2 z
  injection z with z3 z
  injection z with z4 _
  subst z1 z2 z3 z4
  exact ⟨hb.2, he.2, hs.2, hr.2⟩
theorem Im.three {b e s : PyData} (hb : FE b) (he : FE e) (hs : PE s) : Im (.tuple [b, e, s]) := ⟨Dq.mono (DqA.tup (DqA.cons hb.1 (DqA.cons he.1 (DqA.cons hs.1 DqA.nil)))) (by decide) (by decide), fun b' e' s' r' z => by
  injection z with z
  injection z with _ z
  injection z with _ z
  injection z with _ z
  cases z⟩
theorem Im.five {b e s r t : PyData} (hb : Dq 3 2 b) (he : Dq 3 2 e) (hs : Dq 3 9 s) (hr : Dq 3 9 r) (ht : Dq 3 9 t) : Im (.tuple [b, e, s, r, t]) := ⟨Dq.mono (DqA.tup (DqA.cons hb (DqA.cons he (DqA.cons hs (DqA.cons hr (DqA.cons ht DqA.nil)))))) (by decide) (by decide), fun b' e' s' r' z => by
  injection z with z
  injection z with _ z
  injection z with _ z
  injection z with _ z
  injection z with _ z
  cases z⟩
theorem Im.lst {b e s r : PyData} (hb : FE b) (he : FE e) (hs : PE s) (hr : PE r) : Im (.list [b, e, s, r]) := ⟨Dq.mono (DqA.lst (DqA.cons hb.1 (DqA.cons he.1 (DqA.cons hs.1 (DqA.cons hr.1 DqA.nil))))) (by decide) (by decide), fun b' e' s' r' z => nomatch z⟩
theorem Im.nil : Im (.tuple []) := ⟨Dq.mono (DqA.tup (DqA.nil (k := 0))) (by decide) (by decide), fun b' e' s' r' z => by
  injection z with z
  cases z⟩
theorem Im.none : Im .none := ⟨Dq.none.mono (by decide) (by decide), fun b' e' s' r' z => nomatch z⟩
theorem It2.im {x : It} (h : It2 x) : Im (itD x) := Im.four (FE.fr h.ok.zb) (FE.fr h.ok.ze) (PE.pol h.ok.zs (by have := h.ls; omega)) (PE.pol h.ok.zr (by have := h.lr; omega))
theorem Tg.of {d : PyData} {b k : Nat} (h : Dq k b d) (hk : k ≤ 10) (hb : b ≤ 148) (t : ThC d) : Tg d := ⟨h.2.1, h.2.2.1, Nat.le_trans h.2.2.2.1 hk, Nat.le_trans h.2.2.2.2 hb, t⟩
theorem shaped_of {k b : Nat} {d : PyData} (h : Dq k b d) (hk : k ≤ 60) : SeqAt.shaped d = true := by
  unfold SeqAt.shaped
  rw [h.1, Bool.true_and, decide_eq_true_eq]
  have := h.2.2.2.1
  omega
/-- a paper of at most four items -/
theorem Tg.tup {ds : List PyData} (h : ∀ d ∈ ds, Im d) (hl : ds.length ≤ 4) : Tg (.tuple ds) := by
  have h2 := (DqA.all fun d hd => (h d hd).1).tup
  refine .of h2 (by decide) (by omega) fun es e => ?_
  injection e with e
  subst e
  exact ⟨by omega, shaped_of h2 (by decide), fun x hx => (h x hx).2⟩
theorem Tg.lst {ds : List PyData} (h : ∀ d ∈ ds, Im d) (hl : ds.length ≤ 4) : Tg (.list ds) := .of (DqA.all fun d hd => (h d hd).1).lst (by decide) (by omega) fun es e => nomatch e
/-- any tuple none of whose members is a tuple of four -/
theorem Tg.few {ds : List PyData} {k b : Nat} (h : DqA k b ds) (hk : k ≤ 9) (hb : b ≤ 148) (hl : ds.length ≤ 100) (h4 : ∀ d ∈ ds, ∀ es, d = .tuple es → es.length ≠ 4) : Tg (.tuple ds) := by
  refine .of h.tup (by omega) hb fun es e => ?_
  injection e with e
  subst e
  refine ⟨hl, shaped_of h.tup (by omega), fun x hx b e s r z => ?_⟩
  exact absurd rfl (h4 x hx _ z)
theorem Tg.dict {d : PyData} {k b : Nat} (h : Dq k b d) (hk : k ≤ 9) (hb : b + 2 ≤ 148) : Tg (.dict [(.int 0, d)]) := by
  obtain ⟨_, h1, h2, h3, h4⟩ := h
  obtain ⟨_, i1, i2, i3, i4⟩ := Dq.int (i := 0) (by unfold Lt2; decide +kernel)
  refine ⟨by simp [PyData.showable, PyData.showableKv, h1, i1] at *, ?_, ?_, ?_, fun es e => nomatch e⟩
  · simp only [PyData.leavesShort, PyData.leavesShortKv, h2, Bool.and_true] at *
    exact i2
  · simp only [PyData.depth, PyData.depthKv] at *
    omega
  · simp only [PyData.bulk, PyData.bulkKv] at *
    omega
theorem Tg.atom {d : PyData} (h : Dq 0 8 d) (hd : ∀ es, d ≠ .tuple es) : Tg d := .of h (by decide) (by decide) fun es e => absurd e (hd es)
theorem fa_nil {Q : PyData → Prop} : ∀ d ∈ ([] : List PyData), Q d := fun _ h => nomatch h
theorem fa_cons {Q : PyData → Prop} {d : PyData} {ds : List PyData} (h : Q d) (g : ∀ x ∈ ds, Q x) : ∀ x ∈ d :: ds, Q x := fun x hx => by
  rcases List.mem_cons.mp hx with rfl | hx
  · exact h
  · exact g x hx
theorem fa_app {Q : PyData → Prop} {ds es : List PyData} (h : ∀ x ∈ ds, Q x) (g : ∀ x ∈ es, Q x) : ∀ x ∈ ds ++ es, Q x := fun x hx => (List.mem_append.mp hx).elim (h x) (g x)
/-- a list of such things can be shown -/
theorem tg_shown {ds : List PyData} (h : ∀ d ∈ ds, Tg d) (hl : ds.length ≤ 50) : PyData.showable (.list ds) = true ∧ (PyData.list ds).shown.length ≤ sizeLine ∧ (PyData.list ds).depth ≤ 100 := by
  have key : ∀ {ds : List PyData}, (∀ d ∈ ds, Tg d) → PyData.showableAll ds = true ∧ PyData.leavesShortAll 2000 ds = true ∧ PyData.depthAll ds ≤ 10 ∧ PyData.bulkAll ds ≤ 149 * ds.length := by
    intro ds
    induction ds with
    | nil => intro _; exact ⟨by simp [PyData.showableAll], by simp [PyData.leavesShortAll], by simp [PyData.depthAll], by simp [PyData.bulkAll]⟩
    | cons d ds ih =>
      intro h
      obtain ⟨h1, h2, h3, h4, _⟩ := h d (List.mem_cons_self ..)
      obtain ⟨g1, g2, g3, g4⟩ := ih fun x hx => h x (List.mem_cons_of_mem _ hx)
      refine ⟨by simp [PyData.showableAll, h1, g1], by simp [PyData.leavesShortAll, h2, g2], ?_, ?_⟩
      · simp only [PyData.depthAll]; omega
      · simp only [PyData.bulkAll, List.length_cons, Nat.mul_add]; omega
  obtain ⟨g1, g2, g3, g4⟩ := key h
  refine ⟨by simpa [PyData.showable] using g1, ?_, by simp only [PyData.depth]; omega⟩
  have := PyData.shown_le_bulk 2000 (by decide) (.list ds) (by simpa [PyData.leavesShort] using g2)
  have e : (PyData.list ds).bulk = PyData.bulkAll ds := by simp only [PyData.bulk]
  rw [e] at this
  rw [sizeLine_eq]
  omega

theorem imA_at {its : List It} {k : Nat} (h : k < its.length) : (its.map itD)[k]? = some (itD its[k]) := by
  rw [List.getElem?_map, List.getElem?_eq_getElem h]
  rfl
def q97 : Rat := ⟨1, 97, by decide, by decide⟩
def n97 : Rat := ⟨-1, 97, by decide, by decide⟩
def qp1 : Rat := ⟨1, 1, by decide, by decide⟩
def qn1 : Rat := ⟨-1, 1, by decide, by decide⟩
theorem chg_len {p : List Rat} {n : Nat} (h : p.length ≤ n) (hn : 1 ≤ n) : (chg p).length ≤ n := by
  cases p with
  | nil => simpa [chg] using hn
  | cons c r => simpa [chg] using h
theorem chg_pz {p : List Rat} {a : Nat} (h : Pz a p) : Pz (a + 3) (chg p) := by
  have z1 : Sz 1 1 := ⟨by decide, by decide⟩
  cases p with
  | nil => exact pz_cons.mpr ⟨z1.mono (by omega), pz_nil⟩
  | cons c r =>
    obtain ⟨h1, h2⟩ := pz_cons.mp h
    exact pz_cons.mpr ⟨(h1.add z1).mono (by omega), h2.mono (by omega)⟩
def Rspoilt (ss : List Sl) (Φ : PyData → Prop) : Prop := ∃ its : List It, ss = [.src, .dat (.tuple (its.map itD))] ∧ its ≠ [] ∧ its.length ≤ 3 ∧ (∀ x ∈ its, It2 x) ∧ ∀ ds : List PyData, (∀ d ∈ ds, Tg d) → ds.length ≤ 36 → 0 < ds.length → Φ (.list ds)
section
local macro_rules | `(tactic| walk_at "q0.shp") => `(tactic| first | exact shapedPol _ | rfl | decide +kernel)
local macro_rules | `(tactic| walk_at "q0.ex") => `(tactic| first
  | ((with_reducible show EvE _ _ _ (.BinOp (.Name "_law_root" _) .Add _ _) _); refine ev_catT ?_)
  | ((with_reducible show EvE _ _ _ (.BinOp (.Name "_law_rest" _) .Add _ _) _); refine ev_catT ?_)
  | ((with_reducible show EvE _ _ _ (.BinOp (.Subscript _ _ _) .Add _ _) _); refine ev_catT ?_)
  | ((with_reducible show EvE _ _ _ (.BinOp (.BinOp _ _ _ _) .Add _ _) _); refine ev_catT ?_)
  | ((with_reducible show EvE _ _ _ (.Subscript _ (.Slice none none (some _) _) _) _); refine ev_backT ?_)
  | ((with_reducible show EvE _ _ _ (.Subscript _ (.Slice _ _ none _) _) _); refine ev_cutT ?_))
theorem scspoilt : FnScope ["_law_store_here", "_law_paper", "_law_k", "_law_by_here", "_law_begin", "_law_end", "_law_root", "_law_rest", "_law_items", "_law_minus", "_law_top", "_law_bottom", "_law_found", "_law_item"] ["_law_store_here", "_law_paper"] (defScope (top 44)) := ⟨rfl, rfl, rfl, by decide +kernel, rfl, by decide +kernel, by decide +kernel⟩
theorem fispoilt {P : Program} {w : World} {K : PySem.W.Frag} {mg : Str → Option Value} {base : Heap} {f : Addr} {fd : FuncData} (F : Fun K "_law_spoilt" "_law_spoilt" (top 44) f fd) (hm : mg "_law_spoilt" = some (.ref f)) (T : Txt mg) (U : TxL mg) (F1 : Fi P w K mg base 1 "_law_draw" (top 25) ["_law_store_here", "_law_many"] Rdraw) (F2 : Fi P w K mg base 2 "_law_pick" (top 26) ["_law_store_here", "_law_items"] Rpick) (F3 : Fi P w K mg base 2 "_law_plus" (top 29) ["_law_left", "_law_right"] Rlplus) (F4 : Fi P w K mg base 3 "_law_changed" (top 43) ["_law_poly"] Rchanged) : Fi P w K mg base 4 "_law_spoilt" (top 44) ["_law_store_here", "_law_paper"] Rspoilt := by
  have sc := scspoilt
  refine fi_ofS F sc hm (F.binds fun _ _ _ _ _ _ us hl => match us, hl with | [_, _], _ => rfl) (fun ss Φ ⟨_, e, _⟩ => by rw [e]; exact ⟨rfl, rfl⟩) ?_
  rintro X B ss Φ ⟨cdv, A, out, s, H, rfl⟩ S hr ⟨its, rfl, hne, hl, hits, hΦ⟩
  have pl := List.length_pos_iff.mpr hne
  refine eb_cons (es_mono (N1 := fun ρ => ∃ (k : Nat) (q : Rat), k < its.length ∧ Nb 1 97 q ∧ ρ = [some .src, some (.dat (.tuple (its.map itD))), some (.dat (.int (k : Nat))), some (.dat (fr q)), none, none, none, none, none, none, none, none, none, none]) (es_un2 S (i := 2) (j := 3) (by walk_at "q0.at") (by walk_at "q0.at") (.inr rfl) (.inl rfl) ?_) ?_)
  · walk_at "q0.v"
    refine ⟨_, rfl, by rw [List.length_map]; omega, lit (by rw [List.length_map]; omega) (by decide), fun u u0 u1 => ?_⟩
    rw [List.length_map] at u1
    walk_at "q0.v"
    refine ⟨_, rfl, by decide, by decide, fun d hd => ?_⟩
    obtain ⟨q, hq, rfl⟩ : ∃ q : Rat, Nb 1 97 q ∧ d = fr q := by
      simp only [List.mem_cons, List.not_mem_nil, or_false] at hd
      rcases hd with rfl | rfl | rfl | rfl
      · exact ⟨q97, ⟨by decide, by decide⟩, rfl⟩
      · exact ⟨n97, ⟨by decide, by decide⟩, rfl⟩
      · exact ⟨qp1, ⟨by decide, by decide⟩, rfl⟩
      · exact ⟨qn1, ⟨by decide, by decide⟩, rfl⟩
    walk_at "q0.v"
    exact ⟨u.toNat, q, by omega, hq, by rw [Int.toNat_of_nonneg u0]; rfl⟩
  rintro ρ ⟨k, q, hk, hq, rfl⟩
  obtain ⟨x, hx⟩ : ∃ x, x = its[k] := ⟨_, rfl⟩
  have xat : (its.map itD)[k]? = some (itD x) := by rw [hx]; exact imA_at hk
  have xI : It2 x := hits x (by rw [hx]; exact List.getElem_mem hk)
  obtain ⟨xok, xnb, xne, xls, xlr, xzs, xzr⟩ := id xI
  clear hx
  have atk : atI (its.map itD) (k : Nat) = some (itD x) := by rw [atI_nat (by rw [List.length_map]; exact hk)]; exact xat
  refine eb_cons (es_mono (N1 := fun ρ => ρ = [some .src, some (.dat (.tuple (its.map itD))), some (.dat (.int (k : Nat))), some (.dat (fr q)), some (.dat (fr x.b)), some (.dat (fr x.e)), some (.dat (pol x.s)), some (.dat (pol x.r)), none, none, none, none, none, none]) (es_asg (eg_tup (n := 4) S.c (egs_cons (eg_nm S (i := 4) (by walk_at "q0.at") (.inl rfl)) (egs_cons (eg_nm S (i := 5) (by walk_at "q0.at") (.inl rfl)) (egs_cons (eg_nm S (i := 6) (by walk_at "q0.at") (.inl rfl)) (egs_cons (eg_nm S (i := 7) (by walk_at "q0.at") (.inl rfl)) egs_nil))))) ?_) ?_)
  · walk_at "q0.v"
    refine ix_tup (d := itD x) atk ?_
    exact ⟨_, rfl, rfl, _, _, rfl, _, _, rfl, _, _, rfl, _, _, rfl, rfl, rfl⟩
  rintro ρ rfl
  have fb : FE (fr x.b) := FE.fr xok.zb
  have fe : FE (fr x.e) := FE.fr xok.ze
  have ps : PE (pol x.s) := PE.pol xok.zs (by omega)
  have pr : PE (pol x.r) := PE.pol xok.zr (by omega)
  have fbq : FE (fr (x.b + q)) := FE.fr ((xnb.add hq).sz (by decide) (by decide))
  have feq : FE (fr (x.e + q)) := FE.fr ((xne.add hq).sz (by decide) (by decide))
  have zq : Sz 3000 q := hq.sz (by decide +kernel) (by decide +kernel)
  have zb3 : Sz 3000 x.b := xok.zb.mono (by decide)
  have ze3 : Sz 3000 x.e := xok.ze.mono (by decide)
  have pcs : PE (pol (chg x.s)) := PE.pol ((chg_pz xzs).mono (by decide)) (chg_len (by omega) (by decide))
  have pcr : PE (pol (chg x.r)) := PE.pol ((chg_pz xzr).mono (by decide)) (chg_len (by omega) (by decide))
  have dqb : Dq 3 2 (fr x.b) := (Dq.fr (xok.zb.mono (by decide))).mono (by decide) (by decide)
  have dqe : Dq 3 2 (fr x.e) := (Dq.fr (xok.ze.mono (by decide))).mono (by decide) (by decide)
  have dqs : Dq 3 9 (pol x.s) := Dq.mono (DqA.tup (Dq.frs (xok.zs.mono (by decide)) xls)) (by decide) (by decide)
  have dqr : Dq 3 9 (pol x.r) := Dq.mono (DqA.tup (Dq.frs (xok.zr.mono (by decide)) xlr)) (by decide) (by decide)
  have z0 : Sz 40 0 := ⟨by decide, by decide⟩
  have ps0 : PE (.tuple (x.s.map fr ++ [fr 0])) := PE.sub (p := x.s ++ [0]) (fun d hd => by rw [List.map_append]; exact hd) (fun c hc => (List.mem_append.mp hc).elim (xok.zs c) fun h => by rw [List.mem_singleton.mp h]; exact z0) (by simp; omega)
  have pr0 : PE (.tuple (x.r.map fr ++ [fr 0])) := PE.sub (p := x.r ++ [0]) (fun d hd => by rw [List.map_append]; exact hd) (fun c hc => (List.mem_append.mp hc).elim (xok.zr c) fun h => by rw [List.mem_singleton.mp h]; exact z0) (by simp; omega)
  have fb2 : FE (.tuple [.int (2 * x.b.num), .int (2 * (x.b.den : Int))]) := FE.two (xnb.sz (by decide) (by decide))
  refine eb_cons (es_mono (N1 := fun ρ => ∃ L : List PyData, (∀ d ∈ L, Im d) ∧ L.length ≤ 3 ∧ ρ = [some .src, some (.dat (.tuple (its.map itD))), some (.dat (.int (k : Nat))), some (.dat (fr q)), some (.dat (fr x.b)), some (.dat (fr x.e)), some (.dat (pol x.s)), some (.dat (pol x.r)), some (.dat (.list L)), none, none, none, none, none]) (es_st S (i := 8) (by walk_at "q0.at") (by first | exact .inl rfl | exact .inr rfl) ?_) ?_)
  · walk_at "q0.v"
    refine ⟨x.b, q, rfl, zb3, zq, ?_⟩
    walk_at "q0.v"
    refine ⟨x.e, q, rfl, ze3, zq, ?_⟩
    walk_at "q0.v"
    refine ix_tup (d := itD x) atk ?_
    walk_at "q0.v"
    refine ⟨_, .inr rfl, ?_⟩
    walk_at "q0.v"
    exact ⟨_, fa_cons (Im.four fbq fe ps pr) (fa_cons (Im.four fb feq ps pr) (fa_cons (Im.lst fb fe ps pr) fa_nil)), Nat.le_refl _, rfl⟩
  rintro ρ ⟨L, hL, lL, rfl⟩
  refine eb_cons (es_mono (N1 := fun ρ => ∃ L : List PyData, (∀ d ∈ L, Im d) ∧ L.length ≤ 7 ∧ ρ = [some .src, some (.dat (.tuple (its.map itD))), some (.dat (.int (k : Nat))), some (.dat (fr q)), some (.dat (fr x.b)), some (.dat (fr x.e)), some (.dat (pol x.s)), some (.dat (pol x.r)), some (.dat (.list L)), none, none, none, none, none]) (es_st S (i := 8) (by walk_at "q0.at") (by first | exact .inl rfl | exact .inr rfl) ?_) ?_)
  · refine ev_cat ?_
    walk_at "q0.v"
    refine ⟨x.s, rfl, by omega, xok.zs.mono (by decide), ?_⟩
    walk_at "q0.v"
    refine ⟨x.r, rfl, by omega, xok.zr.mono (by decide), ?_⟩
    walk_at "q0.v"
    refine ⟨_, _, rfl, rfl, Nat.le_of_lt (szl (m := 1000) (by simp; omega) rfl), ?_⟩
    exact ⟨_, fa_app hL (fa_cons (Im.four fb fe pcs pr) (fa_cons (Im.four fb fe ps pcr) (fa_cons (Im.nil) (fa_cons (Im.none) (fa_nil))))), by rw [List.length_append]; simp only [List.length_cons, List.length_nil]; omega, rfl⟩
  rintro ρ ⟨L, hL, lL, rfl⟩
  refine eb_cons (es_mono (N1 := fun ρ => ∃ L : List PyData, (∀ d ∈ L, Im d) ∧ L.length ≤ 11 ∧ ρ = [some .src, some (.dat (.tuple (its.map itD))), some (.dat (.int (k : Nat))), some (.dat (fr q)), some (.dat (fr x.b)), some (.dat (fr x.e)), some (.dat (pol x.s)), some (.dat (pol x.r)), some (.dat (.list L)), none, none, none, none, none]) (es_st S (i := 8) (by walk_at "q0.at") (by first | exact .inl rfl | exact .inr rfl) ?_) ?_)
  · refine ev_cat ?_
    walk_at "q0.v"
    refine ix_tup (d := itD x) atk ?_
    walk_at "q0.v"
    refine ⟨_, _, rfl, rfl, few rfl, ?_⟩
    walk_at "q0.v"
    refine ⟨_, _, rfl, rfl, Nat.le_of_lt (szl (m := 1000) (by simp; omega) rfl), ?_⟩
    exact ⟨_, fa_app hL (fa_cons (Im.four fb fe pr ps) (fa_cons (Im.three fb fe ps) (fa_cons (Im.five dqb dqe dqs dqr dqr) (fa_cons (Im.four fb fb ps pr) (fa_nil))))), by rw [List.length_append]; simp only [List.length_cons, List.length_nil]; omega, rfl⟩
  rintro ρ ⟨L, hL, lL, rfl⟩
  refine eb_cons (es_mono (N1 := fun ρ => ∃ L : List PyData, (∀ d ∈ L, Im d) ∧ L.length ≤ 14 ∧ ρ = [some .src, some (.dat (.tuple (its.map itD))), some (.dat (.int (k : Nat))), some (.dat (fr q)), some (.dat (fr x.b)), some (.dat (fr x.e)), some (.dat (pol x.s)), some (.dat (pol x.r)), some (.dat (.list L)), none, none, none, none, none]) (es_st S (i := 8) (by walk_at "q0.at") (by first | exact .inl rfl | exact .inr rfl) ?_) ?_)
  · refine ev_cat ?_
    walk_at "q0.v"
    refine ⟨_, _, rfl, rfl, Nat.le_of_lt (szl (m := 1000) (by simp; omega) rfl), ?_⟩
    walk_at "q0.v"
    refine ⟨_, _, rfl, rfl, Nat.le_of_lt (szl (m := 1000) (by simp; omega) rfl), ?_⟩
    exact ⟨_, fa_app hL (fa_cons (Im.four fb fe ps0 pr) (fa_cons (Im.four fb fe ps (PE.lst xok.zr (by omega))) (fa_cons (Im.four fb fe PE.none pr) (fa_nil)))), by rw [List.length_append]; simp only [List.length_cons, List.length_nil]; omega, rfl⟩
  rintro ρ ⟨L, hL, lL, rfl⟩
  refine eb_cons (es_mono (N1 := fun ρ => ∃ L : List PyData, (∀ d ∈ L, Im d) ∧ L.length ≤ 16 ∧ ρ = [some .src, some (.dat (.tuple (its.map itD))), some (.dat (.int (k : Nat))), some (.dat (fr q)), some (.dat (fr x.b)), some (.dat (fr x.e)), some (.dat (pol x.s)), some (.dat (pol x.r)), some (.dat (.list L)), none, none, none, none, none]) (es_st S (i := 8) (by walk_at "q0.at") (by first | exact .inl rfl | exact .inr rfl) ?_) ?_)
  · refine ev_cat ?_
    walk_at "q0.v"
    refine ⟨_, _, rfl, rfl, Nat.le_of_lt (szl (m := 1000) (by simp; omega) rfl), ?_⟩
    exact ⟨_, fa_app hL (fa_cons (Im.four fb2 fe ps pr) (fa_cons (Im.four fb (FE.lst xok.ze) ps pr) (fa_nil))), by rw [List.length_append]; simp only [List.length_cons, List.length_nil]; omega, rfl⟩
  rintro ρ ⟨L, hL, lL, rfl⟩
  refine eb_cons (es_mono (N1 := fun ρ => ∃ L : List PyData, (∀ d ∈ L, Im d) ∧ L.length ≤ 19 ∧ ρ = [some .src, some (.dat (.tuple (its.map itD))), some (.dat (.int (k : Nat))), some (.dat (fr q)), some (.dat (fr x.b)), some (.dat (fr x.e)), some (.dat (pol x.s)), some (.dat (pol x.r)), some (.dat (.list L)), none, none, none, none, none]) (es_st S (i := 8) (by walk_at "q0.at") (by first | exact .inl rfl | exact .inr rfl) ?_) ?_)
  · refine ev_cat ?_
    walk_at "q0.v"
    refine ⟨_, _, rfl, rfl, Nat.le_of_lt (szl (m := 1000) (by simp; omega) rfl), ?_⟩
    walk_at "q0.v"
    refine ⟨_, _, rfl, rfl, Nat.le_of_lt (szl (m := 1000) (by simp; omega) rfl), ?_⟩
    exact ⟨_, fa_app hL (fa_cons (Im.four fb fe ps pr0) (fa_cons (Im.four fe fb ps pr) (fa_cons (Im.four fb FE.tru ps pr) (fa_nil)))), by rw [List.length_append]; simp only [List.length_cons, List.length_nil]; omega, rfl⟩
  rintro ρ ⟨L, hL, lL, rfl⟩
  refine eb_cons (es_mono (N1 := fun ρ => ∃ (M : List Rat) (t10 t11 : Option Sl), M.length ≤ 3 ∧ Pz 40 M ∧ ρ = [some .src, some (.dat (.tuple (its.map itD))), some (.dat (.int (k : Nat))), some (.dat (fr q)), some (.dat (fr x.b)), some (.dat (fr x.e)), some (.dat (pol x.s)), some (.dat (pol x.r)), some (.dat (.list L)), some (.dat (pol M)), t10, t11, none, none]) (es_st S (i := 9) (by walk_at "q0.at") (by first | exact .inl rfl | exact .inr rfl) ?_) ?_)
  · refine ev_tupleS S T rfl ?_
    refine ev_of_f (ef_lcT [10, 11] S.c S.nd (own := [("_law_top", 10), ("_law_bottom", 11)]) rfl (egc_tup (n := 2) S.c (egcs_cons 10 S.nd rfl (egcs_cons 11 S.nd rfl egcs_nil))) (by change BlkOk ["_law_store_here", "_law_paper", "_law_k", "_law_by_here", "_law_begin", "_law_end", "_law_root", "_law_rest", "_law_items", "_law_minus", "_law_top", "_law_bottom", "_law_found", "_law_item"] (defScope (top 44)) _ _; exact ⟨rfl, by decide +kernel, by decide +kernel, by decide +kernel, by decide +kernel⟩) (Ξ := fun ds => ds = (x.r.map (- ·)).map fr) ?_) ?_
    · walk_at "q0.v"
      refine ⟨_, rfl, fun j acc => acc = ((x.r.map (- ·)).map fr).take j, rfl, ?_, fun acc e => tkN (by simp) e⟩
      rintro j y acc B' hB hj hy rfl
      obtain ⟨c, hc, rfl⟩ := fr_at hy
      refine ⟨_, rfl, rfl, _, _, rfl, _, _, rfl, rfl, ?_⟩
      intro s1 H1 C cl fp
      refine eve_same S fun S1 => ?_
      walk_at "q0.v"
      exact tkL (by simp [hc]; rfl) (by simp; omega)
    rintro _ rfl
    refine ⟨_, .inl rfl, x.r.map (- ·), _, _, by rw [List.length_map]; exact xlr, fun c hc => ?_, rfl⟩
    obtain ⟨y, hy, rfl⟩ := List.mem_map.mp hc
    have := xok.zr y hy
    exact ⟨by simpa using this.1, by simpa using this.2⟩
  rintro ρ ⟨M, t10, t11, lM, zM, rfl⟩
  have pm : PE (pol M) := PE.pol zM (by omega)
  refine eb_cons (es_mono (N1 := fun ρ => ∃ L : List PyData, (∀ d ∈ L, Im d) ∧ L.length ≤ 22 ∧ ρ = [some .src, some (.dat (.tuple (its.map itD))), some (.dat (.int (k : Nat))), some (.dat (fr q)), some (.dat (fr x.b)), some (.dat (fr x.e)), some (.dat (pol x.s)), some (.dat (pol x.r)), some (.dat (.list L)), some (.dat (pol M)), t10, t11, none, none]) (es_st S (i := 8) (by walk_at "q0.at") (by first | exact .inl rfl | exact .inr rfl) ?_) ?_)
  · refine ev_cat ?_
    walk_at "q0.v"
    refine ⟨_, rfl, ?_⟩
    walk_at "q0.v"
    refine ⟨_, _, rfl, rfl, Nat.le_of_lt (szl (m := 1000) (by simp; omega) rfl), ?_⟩
    exact ⟨_, fa_app hL (fa_cons (Im.four fb fe ps pm) (fa_cons (Im.four fb fe ps (PE.sub (fun d hd => cut_sub _ _ _ d hd) xok.zr (Nat.le_trans (cut_le _ _ _) (by rw [List.length_map]; omega)))) (fa_cons (Im.four fb fe (PE.sub (p := []) (fun d hd => absurd hd (by simp)) pz_nil (by decide)) pr) (fa_nil)))), by rw [List.length_append]; simp only [List.length_cons, List.length_nil]; omega, rfl⟩
  rintro ρ ⟨L, hL, lL, rfl⟩
  have tk : ∀ d ∈ (its.map itD).take k, Im d := fun d hd => by
    obtain ⟨y, hy, rfl⟩ := List.mem_map.mp (List.mem_of_mem_take hd)
    exact (hits y hy).im
  have dk : ∀ d ∈ (its.map itD).drop (k + 1), Im d := fun d hd => by
    obtain ⟨y, hy, rfl⟩ := List.mem_map.mp (List.mem_of_mem_drop hd)
    exact (hits y hy).im
  have al : ∀ d ∈ its.map itD, Im d := fun d hd => by
    obtain ⟨y, hy, rfl⟩ := List.mem_map.mp hd
    exact (hits y hy).im
  have xim : Im (itD x) := xI.im
  have lt : ((its.map itD).take k).length = k := by simp; omega
  have ld : ((its.map itD).drop (k + 1)).length = its.length - (k + 1) := by simp
  have ct : cutD (its.map itD) none (some ((k : Nat) : Int)) = (its.map itD).take k := cut_to _ _ (by rw [List.length_map]; omega)
  have cf : cutD (its.map itD) (some (((k : Nat) : Int) + 1)) none = (its.map itD).drop (k + 1) := by
    rw [show ((k : Nat) : Int) + 1 = ((k + 1 : Nat) : Int) by omega]
    exact cut_from _ _ (by rw [List.length_map]; omega)
  have mid : ∀ es : List PyData, (∀ d ∈ es, Im d) → es.length ≤ 2 → Tg (.tuple ((its.map itD).take k ++ es ++ (its.map itD).drop (k + 1))) := fun es h1 h2 => Tg.tup (fa_app (fa_app tk h1) dk) (by rw [List.length_append, List.length_append, lt, ld]; omega)
  refine eb_cons (es_mono (N1 := fun ρ => ∃ (L2 : List PyData) (t13 : Option Sl), (∀ d ∈ L2, Tg d) ∧ L2.length ≤ 22 ∧ ρ = [some .src, some (.dat (.tuple (its.map itD))), some (.dat (.int (k : Nat))), some (.dat (fr q)), some (.dat (fr x.b)), some (.dat (fr x.e)), some (.dat (pol x.s)), some (.dat (pol x.r)), some (.dat (.list L)), some (.dat (pol M)), t10, t11, some (.own L2), t13]) (es_lcI 12 [13] S.c S.nd rfl rfl (own := [("_law_item", 13)]) rfl (egc_name 13 S.nd rfl) (by change BlkOk ["_law_store_here", "_law_paper", "_law_k", "_law_by_here", "_law_begin", "_law_end", "_law_root", "_law_rest", "_law_items", "_law_minus", "_law_top", "_law_bottom", "_law_found", "_law_item"] (defScope (top 44)) _ _; exact ⟨rfl, by decide +kernel, by decide +kernel, by decide +kernel, by decide +kernel⟩) ?_) ?_)
  · · walk_at "q0.v"
      refine ⟨_, rfl, fun j acc => (∀ d ∈ acc, Tg d) ∧ acc.length ≤ j, ⟨fa_nil, Nat.le_refl _⟩, ?_, fun acc ⟨e1, e2⟩ => ⟨acc, _, e1, by omega, rfl⟩⟩
      rintro j y acc B' hB hj hy ⟨ha, la⟩
      have hi := hL y (List.mem_of_getElem? hy)
      intro s1 H1 C cl fp
      refine evt_same S fun S1 => ?_
      walk_at "q0.v"
      refine ⟨_, rfl, by decide, by unfold Lt2; decide +kernel, fun v v0 v1 => ?_⟩
      walk_at "q0.v"
      refine ⟨fun _ => ?_, fun _ => ⟨ha, by omega⟩⟩
      intro s2 H2 C2 cl2 fp2
      refine eve_same S fun S2 => ?_
      walk_at "q0.v"
      refine ⟨_, rfl, ?_⟩
      rw [ct]
      walk_at "q0.v"
      refine ⟨_, _, rfl, rfl, Nat.le_of_lt (szl (m := 1000) (by simp; omega) rfl), ?_⟩
      walk_at "q0.v"
      refine ⟨_, rfl, ?_⟩
      rw [cf]
      refine ⟨_, _, rfl, rfl, Nat.le_of_lt (szl (m := 1000) (by simp; omega) rfl), ?_⟩
      refine ⟨szl (m := 1000) (by omega) rfl, fa_app ha (fa_cons (mid [y] (fa_cons hi fa_nil) (Nat.le_succ 1)) fa_nil), ?_⟩
      rw [List.length_append]
      simp only [List.length_cons, List.length_nil]
      omega
  rintro ρ ⟨L2, t13, hL2, lL2, rfl⟩
  refine eb_freeze (i := 12) rfl ?_
  show EvB _ _ [some .src, some (.dat (.tuple (its.map itD))), some (.dat (.int (k : Nat))), some (.dat (fr q)), some (.dat (fr x.b)), some (.dat (fr x.e)), some (.dat (pol x.s)), some (.dat (pol x.r)), some (.dat (.list L)), some (.dat (pol M)), t10, t11, some (.dat (.list L2)), t13] _ _
  refine eb_cons (es_mono (N1 := fun ρ => ∃ L3 : List PyData, (∀ d ∈ L3, Tg d) ∧ L3.length ≤ 25 ∧ ρ = [some .src, some (.dat (.tuple (its.map itD))), some (.dat (.int (k : Nat))), some (.dat (fr q)), some (.dat (fr x.b)), some (.dat (fr x.e)), some (.dat (pol x.s)), some (.dat (pol x.r)), some (.dat (.list L)), some (.dat (pol M)), t10, t11, some (.dat (.list L3)), t13]) (es_st S (i := 12) (by walk_at "q0.at") (by first | exact .inl rfl | exact .inr rfl) ?_) ?_)
  · refine ev_cat ?_
    walk_at "q0.v"
    refine ⟨_, rfl, ?_⟩
    rw [ct]
    walk_at "q0.v"
    refine ⟨_, rfl, ?_⟩
    rw [cf]
    refine ⟨_, _, rfl, rfl, Nat.le_of_lt (szl (m := 1000) (by simp; omega) rfl), ?_⟩
    walk_at "q0.v"
    refine ⟨_, rfl, ?_⟩
    rw [ct]
    walk_at "q0.v"
    refine ix_tup (d := itD x) atk ?_
    walk_at "q0.v"
    refine ix_tup (d := itD x) atk ?_
    walk_at "q0.v"
    refine ⟨_, _, rfl, rfl, Nat.le_of_lt (szl (m := 1000) (by simp; omega) rfl), ?_⟩
    walk_at "q0.v"
    refine ⟨_, rfl, ?_⟩
    rw [cf]
    refine ⟨_, _, rfl, rfl, Nat.le_of_lt (szl (m := 1000) (by simp; omega) rfl), ?_⟩
    walk_at "q0.v"
    refine ⟨_, rfl, ?_⟩
    walk_at "q0.v"
    refine ⟨_, _, rfl, rfl, Nat.le_of_lt (szl (m := 1000) (by simp; omega) rfl), ?_⟩
    refine ⟨_, fa_app hL2 (fa_cons ?_ (fa_cons (mid [itD x, itD x] (fa_cons xim (fa_cons xim fa_nil)) (Nat.le_refl 2)) (fa_cons ?_ fa_nil))), by rw [List.length_append]; simp only [List.length_cons, List.length_nil]; omega, rfl⟩
    · exact Tg.tup (fa_app tk dk) (by rw [List.length_append, lt, ld]; omega)
    · exact Tg.tup (fun d hd => al d (List.mem_reverse.mp hd)) (by rw [List.length_reverse, List.length_map]; omega)
  rintro ρ ⟨L3, hL3, lL3, rfl⟩
  refine eb_one (es_ret (ev_cat ?_))
  walk_at "q0.v"
  refine ix_tup (d := itD x) atk ?_
  walk_at "q0.v"
  refine ev_dict1 fun B' => ?_
  walk_at "q0.v"
  refine ⟨.inl 0, rfl, ?_⟩
  walk_at "q0.v"
  refine ⟨_, _, rfl, rfl, Nat.le_of_lt (szl (m := 1000) (by simp; omega) rfl), ?_⟩
  have allq : DqA 6 111 (its.map itD) := by
    have h1 := DqA.all fun d hd => (al d hd).1
    exact ⟨h1.1, h1.2.1, h1.2.2.1, h1.2.2.2.1, Nat.le_trans h1.2.2.2.2 (by rw [List.length_map]; omega)⟩
  have len4 : ∀ (p : List Rat), p.length ≤ 3 → ∀ es, pol p = .tuple es → es.length ≠ 4 := fun p hp es e => by
    unfold pol at e
    injection e with e
    subst e
    rw [List.length_map]
    omega
  have len2 : ∀ (p : Rat), ∀ es, fr p = .tuple es → es.length ≠ 4 := fun p es e => by
    unfold fr at e
    injection e with e
    subst e
    exact (by decide : (2 : Nat) ≠ 4)
  refine hΦ _ (fa_app hL3 (fa_cons ?_ (fa_cons ?_ (fa_cons ?_ (fa_cons ?_ (fa_cons ?_ (fa_cons ?_ (fa_cons ?_ (fa_cons ?_ (fa_cons ?_ (fa_cons ?_ (fa_cons ?_ fa_nil)))))))))))) (by rw [List.length_append]; simp only [List.length_cons, List.length_nil]; omega) (by rw [List.length_append]; simp only [List.length_cons, List.length_nil]; omega)
  · exact Tg.lst al (by rw [List.length_map]; omega)
  · refine Tg.few (DqA.cons allq.tup DqA.nil) (by decide) (by decide) (show 1 ≤ 100 by decide) fun d hd es e => ?_
    rw [List.mem_singleton.mp hd] at e
    injection e with e
    subst e
    rw [List.length_map]
    omega
  · refine Tg.few (DqA.cons fb.1 (DqA.cons fe.1 (DqA.cons ps.1 (DqA.cons pr.1 DqA.nil)))) (by decide) (by decide) (show 4 ≤ 100 by decide) fun d hd es e => ?_
    simp only [List.mem_cons, List.not_mem_nil, or_false] at hd
    rcases hd with rfl | rfl | rfl | rfl
    · exact len2 _ es e
    · exact len2 _ es e
    · exact len4 _ xls es e
    · exact len4 _ xlr es e
  · exact Tg.dict allq.tup (by decide) (by decide)
  · exact Tg.few (DqA.nil (k := 0)) (by decide) (by decide) (by decide) fun d hd => absurd hd (by simp)
  · exact Tg.lst fa_nil (by decide)
  · exact Tg.atom (Dq.none.mono (by decide) (by decide)) fun es e => nomatch e
  · exact Tg.atom ((Dq.bool true).mono (by decide) (by decide)) fun es e => nomatch e
  · exact Tg.atom ((Dq.of (Rb.str' (n := 8) (by decide +kernel) (by decide +kernel)) (by decide +kernel)).mono (by decide) (by decide)) fun es e => nomatch e
  · exact Tg.atom ((Dq.int (by unfold Lt2; decide +kernel)).mono (by decide) (by decide)) fun es e => nomatch e
  · refine Tg.few (DqA.cons (Dq.int (xok.zb.mono (show 26 ≤ 1900 by decide)).nn) (DqA.cons (Dq.int (xok.zb.mono (show 26 ≤ 1900 by decide)).dd) DqA.nil)) (by decide) (by decide) (show 2 ≤ 100 by decide) fun d hd es e => ?_
    simp only [List.mem_cons, List.not_mem_nil, or_false] at hd
    rcases hd with rfl | rfl <;> exact nomatch e
end

theorem scLaw : FnScope ["_law_script", "_law_store_here", "_law_turn", "_law_known_here", "_law_begin", "_law_end", "_law_root", "_law_deep", "_law_rest", "_law_under", "_law_row", "_law_down", "_law_poly", "_law_papers", "_law_things", "_law_before", "_law_further", "_law_other_row", "_law_thing", "_law_found"] ["_law_script"] (defScope (top 46)) := ⟨rfl, rfl, rfl, by decide +kernel, rfl, by decide +kernel, by decide +kernel⟩
def spLaw (K : PySem.W.Frag) : Sp := fun vs H Q _ => ∃ (a : Addr) (ns : List Int), vs = [.ref a] ∧ ns.length ≤ 63 ∧ SqL K H a (ns.map V.int) ∧ ∀ H', Q (.bl true) H'
theorem Im.poly {b e : PyData} {p q : List Rat} (hb : FE b) (he : FE e) (zp : Pz 40 p) (zq : Pz 40 q) (lp : p.length ≤ 8) (lq : q.length ≤ 8) (l : p.length + q.length ≤ 8) : Im (.tuple [b, e, pol p, pol q]) := by
  refine ⟨Dq.mono (DqA.tup (DqA.cons (hb.1) (DqA.cons he.1 (DqA.cons ((DqA.tup (Dq.frs (zp.mono (show 40 ≤ 1900 by decide)) (Nat.le_refl _))).mono (show 1 + 1 ≤ 3 by decide) (Nat.le_refl _)) (DqA.cons ((DqA.tup (Dq.frs (zq.mono (show 40 ≤ 1900 by decide)) (Nat.le_refl _))).mono (show 1 + 1 ≤ 3 by decide) (Nat.le_refl _)) DqA.nil))))) (by decide) (by omega), fun b' e' s' r' z => ?_⟩
  injection z with z
  injection z with z1 z
  injection z with z2 z
  injection z with z3 z
  injection z with z4 _
  subst z1 z2 z3 z4
  exact ⟨hb.2, he.2, PlC.of lp zp, PlC.of lq zq⟩
def qh2 : Rat := ⟨1, 2, by decide, by decide⟩
def q31 : Rat := ⟨3, 1, by decide, by decide⟩
theorem fgLaw {P : Program} {w : World} {K : PySem.W.Frag} {mg : Str → Option Value} {base : Heap} {f fS : Addr} {fd fdS : FuncData} (F : Fun K "law" "law" (top 46) f fd) (T : Txt mg) (U : TxL mg) (FS : Fun K "_law_store" "_law_store" (top 24) fS fdS) (mS : mg "_law_store" = some (.ref fS))
    (F1 : Fi P w K mg base 3 "_law_known" (top 41) ["_law_store_here"] Rknown) (F2 : Fi P w K mg base 1 "_law_product" (top 30) ["_law_left", "_law_right"] Rlprod) (F3 : Fi P w K mg base 2 "_law_told" (top 34) ["_law_row", "_law_down"] Rtold) (F4 : Fi P w K mg base 3 "_law_parted" (top 42) ["_law_store_here", "_law_known_here"] Rparted) (F5 : Fi P w K mg base 4 "_law_spoilt" (top 44) ["_law_store_here", "_law_paper"] Rspoilt) (F6 : Fi P w K mg base 7 "_law_is_told" (top 45) ["_law_poly", "_law_goal", "_law_span", "_law_things"] Ristold) (F7 : Fi P w K mg base 6 "sign_holds" (top 20) ["polynomial", "low", "high", "value"] Rsh) (F8 : Fi P w K mg base 2 "_law_plus" (top 29) ["_law_left", "_law_right"] Rlplus) (F9 : Fi P w K mg base 2 "_law_pick" (top 26) ["_law_store_here", "_law_items"] Rpick) (F10 : Fi P w K mg base 2 "_law_total" (top 32) ["_law_left", "_law_right"] Rltot) (F11 : Fi P w K mg base 5 "_law_is_paper" (top 40) ["_law_goal", "_law_begin", "_law_end", "_law_thing"] Rlpaper) :
    Fg P w K mg base CX0 8 f fd ["_law_script"] (spLaw K) := by
  have sc := scLaw
  refine fg_of F sc (fun vs H Q E ⟨a, ns, e, _⟩ => by rw [e]; rfl) ?_
  rintro cdv A out s H vs Q E hr ⟨a, ns, rfl, hl, hS, k⟩
  have S : Same (cxOf CX0 P w K mg base ["_law_script", "_law_store_here", "_law_turn", "_law_known_here", "_law_begin", "_law_end", "_law_root", "_law_deep", "_law_rest", "_law_under", "_law_row", "_law_down", "_law_poly", "_law_papers", "_law_things", "_law_before", "_law_further", "_law_other_row", "_law_thing", "_law_found"] "law" (defScope (top 46)) f cdv A out s H E).nox P w K mg base ["_law_script", "_law_store_here", "_law_turn", "_law_known_here", "_law_begin", "_law_end", "_law_root", "_law_deep", "_law_rest", "_law_under", "_law_row", "_law_down", "_law_poly", "_law_papers", "_law_things", "_law_before", "_law_further", "_law_other_row", "_law_thing", "_law_found"] := ⟨rfl, rfl, rfl, rfl, rfl, rfl, sc.nd, rfl, PassesOwn.never⟩
  have hrx : Rm 7 (cxOf CX0 P w K mg base ["_law_script", "_law_store_here", "_law_turn", "_law_known_here", "_law_begin", "_law_end", "_law_root", "_law_deep", "_law_rest", "_law_under", "_law_row", "_law_down", "_law_poly", "_law_papers", "_law_things", "_law_before", "_law_further", "_law_other_row", "_law_thing", "_law_found"] "law" (defScope (top 46)) f cdv A out s H E).nox.A := hr
  have body : ∀ B : Bs, EvB (cxOf CX0 P w K mg base ["_law_script", "_law_store_here", "_law_turn", "_law_known_here", "_law_begin", "_law_end", "_law_root", "_law_deep", "_law_rest", "_law_under", "_law_row", "_law_down", "_law_poly", "_law_papers", "_law_things", "_law_before", "_law_further", "_law_other_row", "_law_thing", "_law_found"] "law" (defScope (top 46)) f cdv A out s H E).nox B [some (.raw (.ref a)), some .src, none, none, none, none, none, none, none, none, none, none, none, none, none, none, none, none, none, none] ((defBody (top 46)).tail) { nx := fun _ => False, rt := fun d => d = .bool true } := fun B => by
    refine eb_cons (es_mono (N1 := fun ρ => ∃ t2 t3 t4 t5 t6 t7 t8 t9 t10 t11 t12 t13 t14 t15 t16 t17 t18 t19 : Option Sl, ρ = [some (.raw (.ref a)), some .src, t2, t3, t4, t5, t6, t7, t8, t9, t10, t11, t12, t13, t14, t15, t16, t17, t18, t19]) (es_range S.po S.c rfl T.range (eg_nm S (i := 2) (by walk_at "q0.at") (.inl rfl)) ?_) ?_)
    · walk_at "q0.v"
      refine ⟨by decide, by decide, fun j ρ => ∃ t2 t3 t4 t5 t6 t7 t8 t9 t10 t11 t12 t13 t14 t15 t16 t17 t18 t19 : Option Sl, ρ = [some (.raw (.ref a)), some .src, t2, t3, t4, t5, t6, t7, t8, t9, t10, t11, t12, t13, t14, t15, t16, t17, t18, t19], ⟨none, none, none, none, none, none, none, none, none, none, none, none, none, none, none, none, none, none, rfl⟩, ?_, fun ρ h => h⟩
      rintro j y ρ hj rfl ⟨t2, t3, t4, t5, t6, t7, t8, t9, t10, t11, t12, t13, t14, t15, t16, t17, t18, t19, rfl⟩
      refine eb_cons (es_mono (N1 := fun ρ => ∃ (lo hi : Rat) (root rest : List Int) (d1 d2 : Int), Kn lo hi root rest d1 d2 ∧ ρ = [some (.raw (.ref a)), some .src, some (.dat (.int (j : Nat))), some (.dat (knD lo hi root rest d1 d2)), t4, t5, t6, t7, t8, t9, t10, t11, t12, t13, t14, t15, t16, t17, t18, t19]) (es_st S (i := 3) (by walk_at "q0.at") (by first | exact .inl rfl | exact .inr rfl) ?_) ?_)
      · walk_at "q0.v"
        exact ⟨rfl, fun lo hi root rest d1 d2 h1 h2 h3 h4 h5 h6 h7 h8 h9 h10 h11 h12 h13 h14 => ⟨lo, hi, root, rest, d1, d2, ⟨h1, h2, h3, h4, h5, h6, h7, h8, h9, h10, h11, h12, h13, h14⟩, rfl⟩⟩
      rintro ρ ⟨lo, hi, root, rest, d1, d2, kn, rfl⟩
      refine eb_cons (es_mono (N1 := fun ρ => ρ = [some (.raw (.ref a)), some .src, some (.dat (.int (j : Nat))), some (.dat (knD lo hi root rest d1 d2)), some (.dat (fr lo)), some (.dat (fr hi)), some (.dat (intsD root)), some (.dat (.int d1)), some (.dat (intsD rest)), some (.dat (.int d2)), t10, t11, t12, t13, t14, t15, t16, t17, t18, t19]) (es_asg (eg_tup (n := 3) S.c (egs_cons (eg_tup (n := 2) S.c (egs_cons (eg_nm S (i := 4) (by walk_at "q0.at") (.inl rfl)) (egs_cons (eg_nm S (i := 5) (by walk_at "q0.at") (.inl rfl)) egs_nil))) (egs_cons (eg_tup (n := 2) S.c (egs_cons (eg_nm S (i := 6) (by walk_at "q0.at") (.inl rfl)) (egs_cons (eg_nm S (i := 7) (by walk_at "q0.at") (.inl rfl)) egs_nil))) (egs_cons (eg_tup (n := 2) S.c (egs_cons (eg_nm S (i := 8) (by walk_at "q0.at") (.inl rfl)) (egs_cons (eg_nm S (i := 9) (by walk_at "q0.at") (.inl rfl)) egs_nil))) egs_nil)))) ?_) ?_)
      · walk_at "q0.v"
        exact ⟨_, _, rfl, ⟨_, rfl, rfl, _, _, rfl, _, _, rfl, rfl, _, _, rfl, ⟨_, rfl, rfl, _, _, rfl, _, _, rfl, rfl, _, _, rfl, ⟨_, rfl, rfl, _, _, rfl, _, _, rfl, rfl, rfl, rfl⟩⟩⟩⟩
      rintro ρ rfl
      have k1 := kn.a1
      have k2 := kn.a2
      have k3 := kn.c1
      have k4 := kn.c2
      have lR := kn.lR
      have lr := kn.lr
      have z1 : Lt2 d1 64 := lit (by omega) (by decide)
      have z2 : Lt2 d2 64 := lit (by omega) (by decide)
      obtain ⟨dn, hdn⟩ : ∃ dn, dn = d1 * d1 * d2 := ⟨_, rfl⟩
      have dn0 : 0 < dn := by rw [hdn]; exact Int.mul_pos (Int.mul_pos (by omega) (by omega)) (by omega)
      have dn1 : dn ≤ 300 := by
        rw [hdn]
        have h1 : d1 * d1 ≤ 25 := by
          have := Int.mul_le_mul k2 k2 (by omega) (by decide)
          omega
        have h2 := Int.mul_le_mul h1 k4 (by omega) (by decide)
        omega
      refine eb_cons (es_mono (N1 := fun ρ => ∃ Rw : List Int, Rw.length ≤ 7 ∧ Bz 1036800 Rw ∧ trim (ql Rw) = ql Rw ∧ polQ Rw dn = PK root rest d1 d2 ∧ ρ = [some (.raw (.ref a)), some .src, some (.dat (.int (j : Nat))), some (.dat (knD lo hi root rest d1 d2)), some (.dat (fr lo)), some (.dat (fr hi)), some (.dat (intsD root)), some (.dat (.int d1)), some (.dat (intsD rest)), some (.dat (.int d2)), some (.dat (intsD Rw)), some (.dat (.int dn)), t12, t13, t14, t15, t16, t17, t18, t19]) (es_p2 S (i := 10) (j := 11) (by walk_at "q0.at") (by walk_at "q0.at") rfl rfl ?_) ?_)
      · walk_at "q0.v"
        refine ⟨root, root, 3, 20, 20, rfl, lR, lR, by decide, kn.bR.lz (by decide), kn.bR.lz (by decide), by decide, by decide, fun m h0 h1 hev _ => ?_⟩
        walk_at "q0.v"
        have q1 := prod_q h0 h1 hev
        have b1 : Bz 48 m := (bz_prod q1 kn.bR kn.bR).mono (by have := Nat.mul_le_mul_right 16 lR; omega)
        have l1 : m.length ≤ 5 := by
          by_cases e : root = []
          · rw [h0 (.inl e)]; exact Nat.zero_le _
          · rw [h1 e e]; omega
        refine ⟨m, rest, 5, 20, 20, rfl, l1, by omega, by decide, b1.lz (by decide), kn.br.lz (by decide), by decide, by decide, fun Rw h3 h4 hev2 _ => ?_⟩
        walk_at "q0.v"
        have q2 := prod_q h3 h4 hev2
        have b2 : Bz 1036800 Rw := by
          rw [q1] at q2
          have hc : ql Rw = multQ (ql rest) (ql m) := by
            rw [← prod_q (m := Rw) (r1 := rest) (r2 := m) (fun z => h3 (z.elim .inr .inl)) (fun x y => by rw [h4 y x]; omega) (fun x => by rw [hev2]; grind)]
          exact (bz_prod hc kn.br b1).mono (by have := Nat.mul_le_mul_right (7200 * 48) lr; omega)
        refine ⟨Rw, ?_, b2, ?_, ?_, by rw [hdn]; rfl⟩
        · by_cases e : m = [] ∨ rest = []
          · rw [h3 e]; exact Nat.zero_le _
          · rw [h4 (fun z => e (.inl z)) (fun z => e (.inr z))]; omega
        · rw [q2, q1]
          exact nm_multQ (nm_multQ kn.nR kn.nR) kn.nr
        · rw [polQ_eq, q2, q1, hdn]
          rfl
      rintro ρ ⟨Rw, lw, bw, nw, hPK, rfl⟩
      obtain ⟨Pl, hP⟩ : ∃ Pl, Pl = polQ Rw dn := ⟨_, rfl⟩
      have lP : Pl.length ≤ 7 := by rw [hP, polQ_len]; exact lw
      have dq : (1 / (dn : Rat)) ≠ 0 := by
        have := cast_ne0 (show dn ≠ 0 by omega)
        exact fun z => this (by grind)
      have nP : trim Pl = Pl := by rw [hP, polQ_eq]; exact nm_psc dq nw
      have zP : Pz 40 Pl := by
        rw [hP, polQ_eq]
        exact pz_low bw (nb_low (N := 1) (D := 300) (u := 1) dn0 (by decide) (by omega)) (by decide) (by decide)
      have zdn : Lt2 dn 100 := lit (by omega) (by decide)
      have zw : Lz 100 Rw := bw.lz (by decide +kernel)
      refine eb_cons (es_mono (N1 := fun ρ => ∃ its its2 : List It, (its ≠ [] ∧ its.length ≤ 3 ∧ (∀ x ∈ its, It2 x) ∧ shL Pl lo hi its = true) ∧ (its2 ≠ [] ∧ its2.length ≤ 3 ∧ (∀ x ∈ its2, It2 x) ∧ shL Pl lo hi its2 = true) ∧ ρ = [some (.raw (.ref a)), some .src, some (.dat (.int (j : Nat))), some (.dat (knD lo hi root rest d1 d2)), some (.dat (fr lo)), some (.dat (fr hi)), some (.dat (intsD root)), some (.dat (.int d1)), some (.dat (intsD rest)), some (.dat (.int d2)), some (.dat (intsD Rw)), some (.dat (.int dn)), some (.dat (pol Pl)), some (.dat (.list [.tuple (its.map itD), .tuple (its2.map itD)])), t14, t15, t16, t17, t18, t19]) (es_p2 S (i := 12) (j := 13) (by walk_at "q0.at") (by walk_at "q0.at") rfl rfl ?_) ?_)
      · walk_at "q0.v"
        refine ⟨Rw, dn, rfl, by omega, dn0, zdn.mono (by decide), ?_⟩
        rw [← hP, nP]
        walk_at "q0.v"
        refine ⟨lo, hi, root, rest, d1, d2, rfl, kn, fun its n1 n2 n3 n4 => ?_⟩
        walk_at "q0.v"
        refine ⟨lo, hi, root, rest, d1, d2, rfl, kn, fun its2 m1 m2 m3 m4 => ?_⟩
        walk_at "q0.v"
        rw [← hPK, ← hP] at n4 m4
        exact ⟨its, its2, ⟨n1, n2, n3, n4⟩, ⟨m1, m2, m3, m4⟩, rfl⟩
      rintro ρ ⟨its, its2, ⟨n1, n2, n3, n4⟩, ⟨m1, m2, m3, m4⟩, rfl⟩
      have fb : FE (fr lo) := FE.fr (kn.zl.sz (by decide) (by decide))
      have fe : FE (fr hi) := FE.fr (kn.zh.sz (by decide) (by decide))
      have zone : Pz 40 [1] := fun c hc => by rw [List.mem_singleton.mp hc]; exact ⟨by decide, by decide⟩
      have znil : Pz 40 [] := fun c hc => nomatch hc
      have one : ∀ p q : List Rat, Pz 40 p → Pz 40 q → p.length + q.length ≤ 8 → Tg (.tuple [.tuple [fr lo, fr hi, pol p, pol q]]) := fun p q zp zq l => Tg.tup (fa_cons (Im.poly fb fe zp zq (by omega) (by omega) l) fa_nil) (show 1 ≤ 4 by decide)
      have ti : ∀ its : List It, its.length ≤ 3 → (∀ x ∈ its, It2 x) → Tg (.tuple (its.map itD)) := fun its h1 h2 => Tg.tup (fun d hd => by
        obtain ⟨x, hx, rfl⟩ := List.mem_map.mp hd
        exact (h2 x hx).im) (by rw [List.length_map]; omega)
      refine eb_cons (es_mono (N1 := fun ρ => ∃ Q4 : List PyData, (∀ d ∈ Q4, Tg d) ∧ Q4.length = 2 ∧ ρ = [some (.raw (.ref a)), some .src, some (.dat (.int (j : Nat))), some (.dat (knD lo hi root rest d1 d2)), some (.dat (fr lo)), some (.dat (fr hi)), some (.dat (intsD root)), some (.dat (.int d1)), some (.dat (intsD rest)), some (.dat (.int d2)), some (.dat (intsD Rw)), some (.dat (.int dn)), some (.dat (pol Pl)), some (.dat (.list (.tuple (its.map itD) :: .tuple (its2.map itD) :: Q4))), t14, t15, t16, t17, t18, t19]) (es_st S (i := 13) (by walk_at "q0.at") (by first | exact .inl rfl | exact .inr rfl) ?_) ?_)
      · refine ev_cat ?_
        walk_at "q0.v"
        exact ⟨_, fa_cons (one [1] Pl zone zP (by simp; omega)) (fa_cons (one [] Pl znil zP (by simp; omega)) fa_nil), rfl, rfl⟩
      rintro ρ ⟨Q4, hQ4, lQ4, rfl⟩
      refine eb_cons (es_mono (N1 := fun ρ => ∃ Q4 : List PyData, (∀ d ∈ Q4, Tg d) ∧ Q4.length = 4 ∧ ρ = [some (.raw (.ref a)), some .src, some (.dat (.int (j : Nat))), some (.dat (knD lo hi root rest d1 d2)), some (.dat (fr lo)), some (.dat (fr hi)), some (.dat (intsD root)), some (.dat (.int d1)), some (.dat (intsD rest)), some (.dat (.int d2)), some (.dat (intsD Rw)), some (.dat (.int dn)), some (.dat (pol Pl)), some (.dat (.list (.tuple (its.map itD) :: .tuple (its2.map itD) :: Q4))), t14, t15, t16, t17, t18, t19]) (es_st S (i := 13) (by walk_at "q0.at") (by first | exact .inl rfl | exact .inr rfl) ?_) ?_)
      · refine ev_cat ?_
        walk_at "q0.v"
        refine ⟨_, _, rfl, rfl, Nat.le_of_lt (szl (m := 1000) (by simp; omega) rfl), ?_⟩
        exact ⟨_, fa_app hQ4 (fa_cons (one Pl [1] zP zone (by simp; omega)) (fa_cons (one Pl [] zP znil (by simp; omega)) fa_nil)), by rw [List.length_append, lQ4]; rfl, rfl⟩
      clear lQ4 hQ4 Q4
      rintro ρ ⟨Q4, hQ4, lQ4, rfl⟩
      obtain ⟨Q, hQ⟩ : ∃ Q, Q = .tuple (its.map itD) :: .tuple (its2.map itD) :: Q4 := ⟨_, rfl⟩
      rw [← hQ]
      have aQ : ∀ d ∈ Q, Tg d := by rw [hQ]; exact fa_cons (ti its n2 n3) (fa_cons (ti its2 m2 m3) hQ4)
      have lQ : Q.length = 6 := by rw [hQ]; simp [lQ4]
      have at0 : atI Q 0 = some (.tuple (its.map itD)) := by
        have := atI_nat (xs := Q) (n := 0) (by omega)
        rw [hQ] at this ⊢
        simpa using this
      have atj : ∃ it3 : List It, it3 ≠ [] ∧ it3.length ≤ 3 ∧ (∀ x ∈ it3, It2 x) ∧ atI Q (j : Nat) = some (.tuple (it3.map itD)) := by
        have j2 : j = 0 ∨ j = 1 := by omega
        have := atI_nat (xs := Q) (n := j) (by omega)
        rw [this]
        rcases j2 with rfl | rfl
        · exact ⟨its, n1, n2, n3, by rw [hQ]; rfl⟩
        · exact ⟨its2, m1, m2, m3, by rw [hQ]; rfl⟩
      obtain ⟨it3, o1, o2, o3, o4⟩ := atj
      have shP : shB Pl lo hi (.tuple (its.map itD)) = true := by
        show ((its.map itD).all isItm && shL Pl lo hi ((its.map itD).map itOf)) = true
        rw [itOf_map, n4, Bool.and_true]
        exact List.all_eq_true.mpr fun d hd => by
          obtain ⟨x, hx, rfl⟩ := List.mem_map.mp hd
          exact isItm_it (n3 x hx).ok
      clear hQ hQ4 lQ4
      refine eb_cons (es_mono (N1 := fun ρ => ∃ D : List PyData, (∀ d ∈ D, Tg d) ∧ D.length ≤ 42 ∧ 0 < D.length ∧ ρ = [some (.raw (.ref a)), some .src, some (.dat (.int (j : Nat))), some (.dat (knD lo hi root rest d1 d2)), some (.dat (fr lo)), some (.dat (fr hi)), some (.dat (intsD root)), some (.dat (.int d1)), some (.dat (intsD rest)), some (.dat (.int d2)), some (.dat (intsD Rw)), some (.dat (.int dn)), some (.dat (pol Pl)), some (.dat (.list Q)), some (.dat (.list D)), t15, t16, t17, t18, t19]) (es_st S (i := 14) (by walk_at "q0.at") (by first | exact .inl rfl | exact .inr rfl) ?_) ?_)
      · refine ev_cat ?_
        walk_at "q0.v"
        refine ix_lst o4 ?_
        walk_at "q0.v"
        refine ⟨it3, rfl, o1, o2, o3, fun ds h1 h2 h3 => ?_⟩
        walk_at "q0.v"
        refine ⟨_, _, rfl, rfl, Nat.le_of_lt (szl (m := 1000) (by omega) rfl), ?_⟩
        exact ⟨_, fa_app h1 aQ, by rw [List.length_append]; omega, by rw [List.length_append]; omega, rfl⟩
      rintro ρ ⟨D, hD, lD, pD, rfl⟩
      have hsh := tg_shown hD (by omega)
      have thD : ∀ d ∈ D, ThC d := fun d hd => (hD d hd).th
      have thQ : ∀ d ∈ Q, ThC d := fun d hd => (aQ d hd).th
      refine eb_cons (es_mono (N1 := fun ρ => ρ = [some (.raw (.ref a)), some .src, some (.dat (.int (j : Nat))), some (.dat (knD lo hi root rest d1 d2)), some (.dat (fr lo)), some (.dat (fr hi)), some (.dat (intsD root)), some (.dat (.int d1)), some (.dat (intsD rest)), some (.dat (.int d2)), some (.dat (intsD Rw)), some (.dat (.int dn)), some (.dat (pol Pl)), some (.dat (.list Q)), some (.dat (.list D)), some (.dat (.str (PyData.list D).shown)), t16, t17, t18, t19]) (es_st S (i := 15) (by walk_at "q0.at") (by first | exact .inl rfl | exact .inr rfl) ?_) ?_)
      · refine ev_reprK S T hrx rfl ?_
        walk_at "q0.v"
        exact ⟨D, rfl, hsh, rfl⟩
      rintro ρ rfl
      refine eb_cons (es_mono (N1 := fun ρ => ρ = [some (.raw (.ref a)), some .src, some (.dat (.int (j : Nat))), some (.dat (knD lo hi root rest d1 d2)), some (.dat (fr lo)), some (.dat (fr hi)), some (.dat (intsD root)), some (.dat (.int d1)), some (.dat (intsD rest)), some (.dat (.int d2)), some (.dat (intsD Rw)), some (.dat (.int dn)), some (.dat (pol Pl)), some (.dat (.list Q)), some (.dat (.list D)), some (.dat (.str (PyData.list D).shown)), t16, t17, t18, t19]) (es_if ?_) ?_)
      · walk_at "q0.v"
        refine ⟨Pl, Rw, dn, lo, hi, D, rfl, hP, dn0, zdn, by omega, zw, nw, thD, ?_⟩
        refine ⟨true, rfl, onF rfl ?_⟩
        walk_at "q0.v"
        rfl
      rintro ρ rfl
      refine eb_cons (es_mono (N1 := fun ρ => ρ = [some (.raw (.ref a)), some .src, some (.dat (.int (j : Nat))), some (.dat (knD lo hi root rest d1 d2)), some (.dat (fr lo)), some (.dat (fr hi)), some (.dat (intsD root)), some (.dat (.int d1)), some (.dat (intsD rest)), some (.dat (.int d2)), some (.dat (intsD Rw)), some (.dat (.int dn)), some (.dat (pol Pl)), some (.dat (.list Q)), some (.dat (.list D)), some (.dat (.str (PyData.list D).shown)), t16, t17, t18, t19]) (es_if ?_) ?_)
      · refine et_w (ew_or ?_)
        walk_at "q0.v"
        refine ix_lst at0 ?_
        walk_at "q0.v"
        refine ⟨Pl, lo, hi, _, rfl, by omega, (ti its n2 n3).th, ?_⟩
        rw [shP]
        refine ⟨(Rb.bool' _).rpL (by decide) (by decide), ?_⟩
        walk_at "q0.v"
        refine ⟨rfl, ?_⟩
        refine onF' rfl ?_
        refine ew_or1 (et_cmp op_ne (nomark _) (ev_reprK S T hrx rfl ?_))
        walk_at "q0.v"
        refine ⟨D, rfl, hsh, ?_⟩
        walk_at "q0.v"
        refine od_neS ⟨false, by simp, ?_⟩
        refine onF rfl ?_
        walk_at "q0.v"
        rfl
      rintro ρ rfl
      refine eb_cons (es_mono (N1 := fun ρ => ∃ f2 : Rat, ρ = [some (.raw (.ref a)), some .src, some (.dat (.int (j : Nat))), some (.dat (knD lo hi root rest d1 d2)), some (.dat (fr lo)), some (.dat (fr hi)), some (.dat (intsD root)), some (.dat (.int d1)), some (.dat (intsD rest)), some (.dat (.int d2)), some (.dat (intsD Rw)), some (.dat (.int dn)), some (.dat (pol Pl)), some (.dat (.list Q)), some (.dat (.list D)), some (.dat (.str (PyData.list D).shown)), some (.dat (fr f2)), t17, t18, t19]) (es_st S (i := 16) (by walk_at "q0.at") (by first | exact .inl rfl | exact .inr rfl) ?_) ?_)
      · walk_at "q0.v"
        refine ⟨_, rfl, by decide, by decide, fun d hd => ?_⟩
        obtain ⟨q, hq, rfl⟩ : ∃ q : Rat, Sz 3000 q ∧ d = fr q := by
          simp only [List.mem_cons, List.not_mem_nil, or_false] at hd
          rcases hd with rfl | rfl | rfl
          · exact ⟨q97, ⟨by decide +kernel, by decide +kernel⟩, rfl⟩
          · exact ⟨qh2, ⟨by decide +kernel, by decide +kernel⟩, rfl⟩
          · exact ⟨q31, ⟨by decide +kernel, by decide +kernel⟩, rfl⟩
        walk_at "q0.v"
        refine ⟨hi, q, rfl, (kn.zh.sz (k := 3000) (by decide +kernel) (by decide +kernel)), hq, ?_⟩
        walk_at "q0.v"
        exact ⟨hi + q, rfl⟩
      rintro ρ ⟨f2, rfl⟩
      refine eb_cons (es_mono (N1 := fun ρ => ρ = [some (.raw (.ref a)), some .src, some (.dat (.int (j : Nat))), some (.dat (knD lo hi root rest d1 d2)), some (.dat (fr lo)), some (.dat (fr hi)), some (.dat (intsD root)), some (.dat (.int d1)), some (.dat (intsD rest)), some (.dat (.int d2)), some (.dat (intsD Rw)), some (.dat (.int dn)), some (.dat (pol Pl)), some (.dat (.list Q)), some (.dat (.list D)), some (.dat (.str (PyData.list D).shown)), some (.dat (fr f2)), t17, t18, t19]) (es_if ?_) ?_)
      · walk_at "q0.v"
        refine ⟨Pl, Rw, dn, lo, f2, Q, rfl, hP, dn0, zdn, by omega, zw, nw, thQ, ?_⟩
        refine ⟨true, rfl, onF rfl ?_⟩
        walk_at "q0.v"
        rfl
      rintro ρ rfl
      refine eb_cons (es_mono (N1 := fun ρ => ∃ R2 : List Int, R2.length ≤ 7 ∧ Lz 100 R2 ∧ trim (ql R2) = ql R2 ∧ ρ = [some (.raw (.ref a)), some .src, some (.dat (.int (j : Nat))), some (.dat (knD lo hi root rest d1 d2)), some (.dat (fr lo)), some (.dat (fr hi)), some (.dat (intsD root)), some (.dat (.int d1)), some (.dat (intsD rest)), some (.dat (.int d2)), some (.dat (intsD Rw)), some (.dat (.int dn)), some (.dat (pol Pl)), some (.dat (.list Q)), some (.dat (.list D)), some (.dat (.str (PyData.list D).shown)), some (.dat (fr f2)), some (.dat (intsD R2)), t18, t19]) (es_st S (i := 17) (by walk_at "q0.at") (by first | exact .inl rfl | exact .inr rfl) ?_) ?_)
      · walk_at "q0.v"
        refine ⟨_, 6, rfl, rfl, by decide, by decide, Nat.le_of_ble_eq_true rfl, ?_⟩
        walk_at "q0.v"
        refine ⟨_, rfl, show 0 < 4 by decide, show 4 ≤ 1000 by decide, fun d hd => ?_⟩
        obtain ⟨r, lr2, zr2, rfl⟩ : ∃ r : List Int, r.length ≤ 7 ∧ Lz 90 r ∧ d = intsD r := by
          simp only [List.mem_cons, List.not_mem_nil, or_false] at hd
          rcases hd with rfl | rfl | rfl | rfl
          · exact ⟨[dn], show 1 ≤ 7 by decide, fun t ht => by rw [List.mem_singleton.mp ht]; exact lit (by omega) (by decide), rfl⟩
          · exact ⟨[-dn], show 1 ≤ 7 by decide, fun t ht => by rw [List.mem_singleton.mp ht]; exact lit (by omega) (by decide), rfl⟩
          · exact ⟨[0, dn], show 2 ≤ 7 by decide, fun t ht => by
              simp only [List.mem_cons, List.not_mem_nil, or_false] at ht
              rcases ht with rfl | rfl
              · exact lit (by decide) (by decide)
              · exact lit (by omega) (by decide), rfl⟩
          · exact ⟨[0, 0, 0, 0, 0, 0, 1], by decide, fun t ht => by
              simp only [List.mem_cons, List.not_mem_nil, or_false] at ht
              rcases ht with rfl | rfl | rfl | rfl | rfl | rfl | rfl <;> exact lit (by decide) (by decide), rfl⟩
        walk_at "q0.v"
        refine ⟨Rw, r, 90, rfl, by omega, by omega, bw.lz (by decide +kernel), zr2, fun m hm lm zm => ?_⟩
        walk_at "q0.v"
        exact ⟨m, by omega, fun t ht => (zm t ht).mono (by decide), by rw [hm]; exact trim_nm _, rfl⟩
      rintro ρ ⟨R2, l2, zR2, nR2, rfl⟩
      have nP2 : trim (polQ R2 dn) = polQ R2 dn := by rw [polQ_eq]; exact nm_psc dq nR2
      refine eb_cons (es_mono (N1 := fun ρ => ρ = [some (.raw (.ref a)), some .src, some (.dat (.int (j : Nat))), some (.dat (knD lo hi root rest d1 d2)), some (.dat (fr lo)), some (.dat (fr hi)), some (.dat (intsD root)), some (.dat (.int d1)), some (.dat (intsD rest)), some (.dat (.int d2)), some (.dat (intsD Rw)), some (.dat (.int dn)), some (.dat (pol Pl)), some (.dat (.list Q)), some (.dat (.list D)), some (.dat (.str (PyData.list D).shown)), some (.dat (fr f2)), some (.dat (intsD R2)), t18, t19]) (es_if ?_) ?_)
      · walk_at "q0.v"
        refine ⟨R2, dn, rfl, by omega, dn0, zdn.mono (by decide), ?_⟩
        rw [nP2]
        walk_at "q0.v"
        refine ⟨_, R2, dn, lo, hi, Q, rfl, rfl, dn0, zdn, by omega, zR2, nR2, thQ, ?_⟩
        refine ⟨true, rfl, onF rfl ?_⟩
        walk_at "q0.v"
        rfl
      rintro ρ rfl
      refine eb_cons (es_mono (N1 := fun ρ => ∃ y : PyData, ThC y ∧ ρ = [some (.raw (.ref a)), some .src, some (.dat (.int (j : Nat))), some (.dat (knD lo hi root rest d1 d2)), some (.dat (fr lo)), some (.dat (fr hi)), some (.dat (intsD root)), some (.dat (.int d1)), some (.dat (intsD rest)), some (.dat (.int d2)), some (.dat (intsD Rw)), some (.dat (.int dn)), some (.dat (pol Pl)), some (.dat (.list Q)), some (.dat (.list D)), some (.dat (.str (PyData.list D).shown)), some (.dat (fr f2)), some (.dat (intsD R2)), some (.dat y), t19]) (es_st S (i := 18) (by walk_at "q0.at") (by first | exact .inl rfl | exact .inr rfl) ?_) ?_)
      · walk_at "q0.v"
        exact ⟨D, rfl, pD, by omega, fun d hd => ⟨d, thD d hd, rfl⟩⟩
      rintro ρ ⟨y, hy, rfl⟩
      refine eb_cons (es_mono (N1 := fun ρ => ρ = [some (.raw (.ref a)), some .src, some (.dat (.int (j : Nat))), some (.dat (knD lo hi root rest d1 d2)), some (.dat (fr lo)), some (.dat (fr hi)), some (.dat (intsD root)), some (.dat (.int d1)), some (.dat (intsD rest)), some (.dat (.int d2)), some (.dat (intsD Rw)), some (.dat (.int dn)), some (.dat (pol Pl)), some (.dat (.list Q)), some (.dat (.list D)), some (.dat (.str (PyData.list D).shown)), some (.dat (fr f2)), some (.dat (intsD R2)), some (.dat y), some (.dat (.bool (shB Pl lo hi y)))]) (es_st S (i := 19) (by walk_at "q0.at") (by first | exact .inl rfl | exact .inr rfl) ?_) ?_)
      · refine ev_kw S ["value", "low", "high", "polynomial"] [3, 1, 2, 0] F7 hrx (by decide) rfl (fun _ _ _ _ _ _ ws hl => match ws, hl with | [_, _, _, _], _ => rfl) ?_
        walk_at "q0.v"
        exact ⟨rfl, rfl, Pl, lo, hi, y, rfl, by omega, hy, rfl⟩
      rintro ρ rfl
      refine eb_one (es_if ?_)
      walk_at "q0.v"
      refine ⟨(Rb.bool' _).rpL (by decide) (by decide), ?_⟩
      walk_at "q0.v"
      refine ⟨Rw, dn, lo, hi, y, rfl, dn0, zdn, by omega, zw, nw, hy, ?_⟩
      rw [← hP]
      refine ⟨rfl, onF rfl ?_⟩
      walk_at "q0.v"
      exact ⟨_, _, _, _, _, _, _, _, _, _, _, _, _, _, _, _, _, _, rfl⟩
    rintro ρ ⟨t2, t3, t4, t5, t6, t7, t8, t9, t10, t11, t12, t13, t14, t15, t16, t17, t18, t19, rfl⟩
    walk_at "q0.v0"
    rfl
  refine ⟨_, PSs.nox (pss_cons (ps_set (i := 1) S.nd rfl (.inl rfl) (pe_callG S FS (fgSource FS T U) hrx (by decide) mS (FS.binds fun _ _ _ _ _ _ us hl => match us, hl with | [_], _ => rfl) rfl (pa_cons (pe_var (i := 0) rfl (.inl rfl)) pa_nil)) rfl (.inr rfl)) pss_s), ?_⟩
  refine ⟨.ref a, rfl, a, ns, rfl, hl, hS, fun x b c H' keep nx nb nc hSrc => ?_⟩
  let B : Bs := ⟨some (x, b, c), fun y => y = x ∨ y = b ∨ y = c⟩
  refine ⟨_, body B, ?_⟩
  have ok : B.Ok H' := by
    refine ⟨fun y hy => ?_, fun a' b' c' e => ?_⟩
    · obtain ⟨_, _, _, _, s'⟩ := hSrc
      rcases hy with rfl | rfl | rfl
      · rw [s'.da]; intro z; cases z
      · rw [s'.db]; intro z; cases z
      · rw [s'.dc]; intro z; cases z
    · cases e
      exact ⟨hSrc, .inl rfl, .inr (.inl rfl), .inr (.inr rfl)⟩
  have E0 : En B (rho0 ["_law_script", "_law_store_here", "_law_turn", "_law_known_here", "_law_begin", "_law_end", "_law_root", "_law_deep", "_law_rest", "_law_under", "_law_row", "_law_down", "_law_poly", "_law_papers", "_law_things", "_law_before", "_law_further", "_law_other_row", "_law_thing", "_law_found"] [.raw (.ref a)]) (L2.start ["_law_script", "_law_store_here", "_law_turn", "_law_known_here", "_law_begin", "_law_end", "_law_root", "_law_deep", "_law_rest", "_law_under", "_law_row", "_law_down", "_law_poly", "_law_papers", "_law_things", "_law_before", "_law_further", "_law_other_row", "_law_thing", "_law_found"] [V.ref a]) H' := en_start rfl ⟨.ref a, [], rfl, rfl, rfl⟩ ok
  refine ⟨E0.set (i := 1) (s := .src) (fun ds z => by cases z) ⟨x, b, c, rfl, rfl⟩, fun _ _ _ _ _ z => z.elim, fun v H2 d _ _ hd e => ?_, fun _ _ _ _ _ z => z.elim, fun _ _ _ _ _ z => z.elim⟩
  have e' : d = .bool true := e
  subst e'
  rw [Dn.bool.mp hd]
  exact k H2

end
theorem dkc {K : PySem.W.Frag} {h : Heap} {mg : Str → Option Value} {goal : Prop} {x : Str} {st : Stmt} {f : Addr} {oc : Value} {od an : Option Addr} {sl : Array (Option Value)} {kV dc pm cd ct : Value} (X : K.In h) (G : h.Ns mainGlobals mg) (a : PySem.W.nsIn K mainGlobals x = some (some (.ref f)))
    (l : K.lookup f = some ⟨oc, od, .func (PySem.W.fnOf x x (defArgs st) (defBody st) (defScope st) .none kV dc pm an cd ct), sl⟩) (c : PySem.W.codeIn K cd x = true) (k : PySem.W.keepIn K (.ref f) = true) (go : Fun K x x st f (PySem.W.fnOf x x (defArgs st) (defBody st) (defScope st) .none kV dc pm an cd ct) → mg x = some (.ref f) → goal) : goal :=
  go (fun_mk l c k) (PySem.W.mg_of X G a)
theorem law_all {P : Program} {w : World} {K : PySem.W.Frag} {mg : Str → Option Value} {base : Heap} (T : Txt mg) (U : TxL mg)
    {f2 : Addr} {fd2 : FuncData} (F2 : Fun K "is_fraction" "is_fraction" (top 2) f2 fd2) (m2 : mg "is_fraction" = some (.ref f2))
    {f3 : Addr} {fd3 : FuncData} (F3 : Fun K "is_integer" "is_integer" (top 3) f3 fd3) (m3 : mg "is_integer" = some (.ref f3))
    {f4 : Addr} {fd4 : FuncData} (F4 : Fun K "reduced" "reduced" (top 4) f4 fd4) (m4 : mg "reduced" = some (.ref f4))
    {f5 : Addr} {fd5 : FuncData} (F5 : Fun K "less" "less" (top 5) f5 fd5) (m5 : mg "less" = some (.ref f5))
    {f6 : Addr} {fd6 : FuncData} (F6 : Fun K "order" "order" (top 6) f6 fd6) (m6 : mg "order" = some (.ref f6))
    {f8 : Addr} {fd8 : FuncData} (F8 : Fun K "row_of" "row_of" (top 8) f8 fd8) (m8 : mg "row_of" = some (.ref f8))
    {f9 : Addr} {fd9 : FuncData} (F9 : Fun K "polynomial_of" "polynomial_of" (top 9) f9 fd9) (m9 : mg "polynomial_of" = some (.ref f9))
    {f10 : Addr} {fd10 : FuncData} (F10 : Fun K "powers_of" "powers_of" (top 10) f10 fd10) (m10 : mg "powers_of" = some (.ref f10))
    {f11 : Addr} {fd11 : FuncData} (F11 : Fun K "row_squeezed" "row_squeezed" (top 11) f11 fd11) (m11 : mg "row_squeezed" = some (.ref f11))
    {f12 : Addr} {fd12 : FuncData} (F12 : Fun K "end_row" "end_row" (top 12) f12 fd12) (m12 : mg "end_row" = some (.ref f12))
    {f13 : Addr} {fd13 : FuncData} (F13 : Fun K "row_shifted" "row_shifted" (top 13) f13 fd13) (m13 : mg "row_shifted" = some (.ref f13))
    {f14 : Addr} {fd14 : FuncData} (F14 : Fun K "rows_multiplied" "rows_multiplied" (top 14) f14 fd14) (m14 : mg "rows_multiplied" = some (.ref f14))
    {f15 : Addr} {fd15 : FuncData} (F15 : Fun K "plain_row" "plain_row" (top 15) f15 fd15) (m15 : mg "plain_row" = some (.ref f15))
    {f17 : Addr} {fd17 : FuncData} (F17 : Fun K "is_polynomial" "is_polynomial" (top 17) f17 fd17) (m17 : mg "is_polynomial" = some (.ref f17))
    {f18 : Addr} {fd18 : FuncData} (F18 : Fun K "multiplied" "multiplied" (top 18) f18 fd18) (m18 : mg "multiplied" = some (.ref f18))
    {f20 : Addr} {fd20 : FuncData} (F20 : Fun K "sign_holds" "sign_holds" (top 20) f20 fd20) (m20 : mg "sign_holds" = some (.ref f20))
    {f21 : Addr} {fd21 : FuncData} (F21 : Fun K "_is_item" "_is_item" (top 21) f21 fd21) (m21 : mg "_is_item" = some (.ref f21))
    {f22 : Addr} {fd22 : FuncData} (F22 : Fun K "_makes" "_makes" (top 22) f22 fd22) (m22 : mg "_makes" = some (.ref f22))
    {f24 : Addr} {fd24 : FuncData} (F24 : Fun K "_law_store" "_law_store" (top 24) f24 fd24) (m24 : mg "_law_store" = some (.ref f24))
    {f25 : Addr} {fd25 : FuncData} (F25 : Fun K "_law_draw" "_law_draw" (top 25) f25 fd25) (m25 : mg "_law_draw" = some (.ref f25))
    {f26 : Addr} {fd26 : FuncData} (F26 : Fun K "_law_pick" "_law_pick" (top 26) f26 fd26) (m26 : mg "_law_pick" = some (.ref f26))
    {f27 : Addr} {fd27 : FuncData} (F27 : Fun K "_law_cut" "_law_cut" (top 27) f27 fd27) (m27 : mg "_law_cut" = some (.ref f27))
    {f28 : Addr} {fd28 : FuncData} (F28 : Fun K "_law_cmp" "_law_cmp" (top 28) f28 fd28) (m28 : mg "_law_cmp" = some (.ref f28))
    {f29 : Addr} {fd29 : FuncData} (F29 : Fun K "_law_plus" "_law_plus" (top 29) f29 fd29) (m29 : mg "_law_plus" = some (.ref f29))
    {f30 : Addr} {fd30 : FuncData} (F30 : Fun K "_law_product" "_law_product" (top 30) f30 fd30) (m30 : mg "_law_product" = some (.ref f30))
    {f31 : Addr} {fd31 : FuncData} (F31 : Fun K "_law_bare" "_law_bare" (top 31) f31 fd31) (m31 : mg "_law_bare" = some (.ref f31))
    {f32 : Addr} {fd32 : FuncData} (F32 : Fun K "_law_total" "_law_total" (top 32) f32 fd32) (m32 : mg "_law_total" = some (.ref f32))
    {f33 : Addr} {fd33 : FuncData} (F33 : Fun K "_law_by" "_law_by" (top 33) f33 fd33) (m33 : mg "_law_by" = some (.ref f33))
    {f34 : Addr} {fd34 : FuncData} (F34 : Fun K "_law_told" "_law_told" (top 34) f34 fd34) (m34 : mg "_law_told" = some (.ref f34))
    {f35 : Addr} {fd35 : FuncData} (F35 : Fun K "_law_is_fraction" "_law_is_fraction" (top 35) f35 fd35) (m35 : mg "_law_is_fraction" = some (.ref f35))
    {f36 : Addr} {fd36 : FuncData} (F36 : Fun K "_law_is_polynomial" "_law_is_polynomial" (top 36) f36 fd36) (m36 : mg "_law_is_polynomial" = some (.ref f36))
    {f37 : Addr} {fd37 : FuncData} (F37 : Fun K "_law_ints" "_law_ints" (top 37) f37 fd37) (m37 : mg "_law_ints" = some (.ref f37))
    {f38 : Addr} {fd38 : FuncData} (F38 : Fun K "_law_is_item" "_law_is_item" (top 38) f38 fd38) (m38 : mg "_law_is_item" = some (.ref f38))
    {f39 : Addr} {fd39 : FuncData} (F39 : Fun K "_law_is_good" "_law_is_good" (top 39) f39 fd39) (m39 : mg "_law_is_good" = some (.ref f39))
    {f40 : Addr} {fd40 : FuncData} (F40 : Fun K "_law_is_paper" "_law_is_paper" (top 40) f40 fd40) (m40 : mg "_law_is_paper" = some (.ref f40))
    {f41 : Addr} {fd41 : FuncData} (F41 : Fun K "_law_known" "_law_known" (top 41) f41 fd41) (m41 : mg "_law_known" = some (.ref f41))
    {f42 : Addr} {fd42 : FuncData} (F42 : Fun K "_law_parted" "_law_parted" (top 42) f42 fd42) (m42 : mg "_law_parted" = some (.ref f42))
    {f43 : Addr} {fd43 : FuncData} (F43 : Fun K "_law_changed" "_law_changed" (top 43) f43 fd43) (m43 : mg "_law_changed" = some (.ref f43))
    {f44 : Addr} {fd44 : FuncData} (F44 : Fun K "_law_spoilt" "_law_spoilt" (top 44) f44 fd44) (m44 : mg "_law_spoilt" = some (.ref f44))
    {f45 : Addr} {fd45 : FuncData} (F45 : Fun K "_law_is_told" "_law_is_told" (top 45) f45 fd45) (m45 : mg "_law_is_told" = some (.ref f45))
    {f46 : Addr} {fd46 : FuncData} (F46 : Fun K "law" "law" (top 46) f46 fd46) (m46 : mg "law" = some (.ref f46)) : Fg P w K mg base CX0 8 f46 fd46 ["_law_script"] (spLaw K) := by
  have rreduced : Fi P w K mg base 1 "reduced" (top 4) ["top", "bottom"] Rreduced := fireduced F4 m4 T U 
  have rorder : Fi P w K mg base 1 "order" (top 6) ["f", "g"] Rorder := fiorder F6 m6 T U 
  have rless : Fi P w K mg base 2 "less" (top 5) ["f", "g"] Rless := filess F5 m5 T U rreduced
  have risint : Fi P w K mg base 1 "is_integer" (top 3) ["value"] Risint := fiisint F3 m3 T U 
  have risfr : Fi P w K mg base 2 "is_fraction" (top 2) ["value"] Risfr := fiisfr F2 m2 T U risint
  have rpolof : Fi P w K mg base 2 "polynomial_of" (top 9) ["row", "bottom"] Rpolof := fipolof F9 m9 T U rreduced
  have rpowers : Fi P w K mg base 1 "powers_of" (top 10) ["base", "many"] Rpowers := fipowers F10 m10 T U 
  have rrow : Fi P w K mg base 1 "row_of" (top 8) ["p"] Rrow := firow F8 m8 T U 
  have rshrow : Fi P w K mg base 1 "row_shifted" (top 13) ["row", "by"] Rshrow := fishrow F13 m13 T U 
  have rmrow : Fi P w K mg base 1 "rows_multiplied" (top 14) ["one", "other"] Rmrow := fimrow F14 m14 T U 
  have rispol : Fi P w K mg base 3 "is_polynomial" (top 17) ["value"] Rispol := fiispol F17 m17 T U risfr
  have rmult : Fi P w K mg base 3 "multiplied" (top 18) ["p", "q"] Rmult := fimult F18 m18 T U rrow rmrow rpolof
  have rplrow : Fi P w K mg base 1 "plain_row" (top 15) ["row"] Rplrow := fiplrow F15 m15 T U 
  have rsqz : Fi P w K mg base 2 "row_squeezed" (top 11) ["row", "low", "width"] Rsqz := fisqz F11 m11 T U rpowers rshrow rplrow
  have rendrow : Fi P w K mg base 2 "end_row" (top 12) ["row"] Rendrow := fiendrow F12 m12 T U rshrow
  have risitm : Fi P w K mg base 4 "_is_item" (top 21) ["value"] Risitm := fiisitm F21 m21 T U risfr rorder rispol
  have rmakes : Fi P w K mg base 4 "_makes" (top 22) ["s", "r", "polynomial"] Rmakes := fimakes F22 m22 T U rmult
  have rsh : Fi P w K mg base 6 "sign_holds" (top 20) ["polynomial", "low", "high", "value"] Rsh := fish F20 m20 T U risitm rmakes rendrow rsqz rrow rless
  have rcut : Fi P w K mg base 1 "_law_cut" (top 27) ["_law_top", "_law_bottom"] Rcut := ficut F27 m27 T U 
  have rcmp : Fi P w K mg base 1 "_law_cmp" (top 28) ["_law_left", "_law_right"] Rcmp := ficmp F28 m28 T U 
  have rlplus : Fi P w K mg base 2 "_law_plus" (top 29) ["_law_left", "_law_right"] Rlplus := filplus F29 m29 T U rcut
  have rlprod : Fi P w K mg base 1 "_law_product" (top 30) ["_law_left", "_law_right"] Rlprod := filprod F30 m30 T U 
  have rbare : Fi P w K mg base 1 "_law_bare" (top 31) ["_law_row"] Rbare := fibare F31 m31 T U 
  have rlby : Fi P w K mg base 1 "_law_by" (top 33) ["_law_row", "_law_much"] Rlby := filby F33 m33 T U 
  have rtold : Fi P w K mg base 2 "_law_told" (top 34) ["_law_row", "_law_down"] Rtold := fitold F34 m34 T U rbare rcut
  have rltot : Fi P w K mg base 2 "_law_total" (top 32) ["_law_left", "_law_right"] Rltot := filtot F32 m32 T U rbare
  have rlisfr : Fi P w K mg base 2 "_law_is_fraction" (top 35) ["_law_thing"] Rlisfr := filisfr F35 m35 T U rcut
  have rlispol : Fi P w K mg base 3 "_law_is_polynomial" (top 36) ["_law_thing"] Rlispol := filispol F36 m36 T U rlisfr
  have rlisitm : Fi P w K mg base 4 "_law_is_item" (top 38) ["_law_thing"] Rlisitm := filisitm F38 m38 T U rlisfr rcmp rlispol
  have rlints : Fi P w K mg base 1 "_law_ints" (top 37) ["_law_poly"] Rlints := filints F37 m37 T U 
  have rgood : Fi P w K mg base 3 "_law_is_good" (top 39) ["_law_row", "_law_begin", "_law_end"] Rgood := figood F39 m39 T U rltot rlprod rlby
  have rlpaper : Fi P w K mg base 5 "_law_is_paper" (top 40) ["_law_goal", "_law_begin", "_law_end", "_law_thing"] Rlpaper := filpaper F40 m40 T U rlisitm rlints rlprod rlby rgood
  have rdraw : Fi P w K mg base 1 "_law_draw" (top 25) ["_law_store_here", "_law_many"] Rdraw := fidraw F25 m25 T U 
  have rpick : Fi P w K mg base 2 "_law_pick" (top 26) ["_law_store_here", "_law_items"] Rpick := fipick F26 m26 T U rdraw
  have rknown : Fi P w K mg base 3 "_law_known" (top 41) ["_law_store_here"] Rknown := fiknown F41 m41 T U rdraw rlprod rltot rbare rcut
  have rchanged : Fi P w K mg base 3 "_law_changed" (top 43) ["_law_poly"] Rchanged := fichanged F43 m43 T U rlplus
  have ristold : Fi P w K mg base 7 "_law_is_told" (top 45) ["_law_poly", "_law_goal", "_law_span", "_law_things"] Ristold := fiistold F45 m45 T U rsh rlpaper
  have rparted : Fi P w K mg base 3 "_law_parted" (top 42) ["_law_store_here", "_law_known_here"] Rparted := fiparted F42 m42 T U rdraw rcut rpick rtold rlby
  have rspoilt : Fi P w K mg base 4 "_law_spoilt" (top 44) ["_law_store_here", "_law_paper"] Rspoilt := fispoilt F44 m44 T U rdraw rpick rlplus rchanged
  exact fgLaw F46 T U F24 m24 rknown rlprod rtold rparted rspoilt ristold rsh rlplus rpick rltot rlpaper

theorem txt_mk {K : PySem.W.Frag} {h : Heap} {mg : Str → Option Value} (X : K.In h) (G : h.Ns mainGlobals mg) (z0 : PySem.W.nsIn K mainGlobals "gcd" = some (some (.builtin "math.gcd")))
    (z_abs : PySem.W.nsIn K mainGlobals "abs" = some none)
    (z_len : PySem.W.nsIn K mainGlobals "len" = some none)
    (z_int : PySem.W.nsIn K mainGlobals "int" = some none)
    (z_bool : PySem.W.nsIn K mainGlobals "bool" = some none)
    (z_tuple : PySem.W.nsIn K mainGlobals "tuple" = some none)
    (z_list : PySem.W.nsIn K mainGlobals "list" = some none)
    (z_range : PySem.W.nsIn K mainGlobals "range" = some none)
    (z_repr : PySem.W.nsIn K mainGlobals "repr" = some none)
    (z_reversed : PySem.W.nsIn K mainGlobals "reversed" = some none)
    (z_divmod : PySem.W.nsIn K mainGlobals "divmod" = some none)
    (z_isinstance : PySem.W.nsIn K mainGlobals "isinstance" = some none) : Txt mg where
  gcd := PySem.W.mg_of X G z0
  abs := PySem.W.mg_none_of X G z_abs
  len := PySem.W.mg_none_of X G z_len
  int := PySem.W.mg_none_of X G z_int
  bool := PySem.W.mg_none_of X G z_bool
  tuple := PySem.W.mg_none_of X G z_tuple
  list := PySem.W.mg_none_of X G z_list
  range := PySem.W.mg_none_of X G z_range
  repr := PySem.W.mg_none_of X G z_repr
  reversed := PySem.W.mg_none_of X G z_reversed
  divmod := PySem.W.mg_none_of X G z_divmod
  isinstance := PySem.W.mg_none_of X G z_isinstance
theorem txl_mk {K : PySem.W.Frag} {h : Heap} {mg : Str → Option Value} (X : K.In h) (G : h.Ns mainGlobals mg) (zl : PySem.W.nsIn K mainGlobals "lcm" = some (some (.builtin "math.lcm")))
    (z_zip : PySem.W.nsIn K mainGlobals "zip" = some none)
    (z_enumerate : PySem.W.nsIn K mainGlobals "enumerate" = some none)
    (z_max : PySem.W.nsIn K mainGlobals "max" = some none)
    (z_min : PySem.W.nsIn K mainGlobals "min" = some none)
    (z_sum : PySem.W.nsIn K mainGlobals "sum" = some none)
    (z_any : PySem.W.nsIn K mainGlobals "any" = some none)
    (z_all : PySem.W.nsIn K mainGlobals "all" = some none)
    (z_set : PySem.W.nsIn K mainGlobals "set" = some none)
    (z_sorted : PySem.W.nsIn K mainGlobals "sorted" = some none)
    (z_str : PySem.W.nsIn K mainGlobals "str" = some none) : TxL mg where
  lcm := PySem.W.mg_of X G zl
  zip := PySem.W.mg_none_of X G z_zip
  enumerate := PySem.W.mg_none_of X G z_enumerate
  max := PySem.W.mg_none_of X G z_max
  min := PySem.W.mg_none_of X G z_min
  sum := PySem.W.mg_none_of X G z_sum
  any := PySem.W.mg_none_of X G z_any
  all := PySem.W.mg_none_of X G z_all
  set := PySem.W.mg_none_of X G z_set
  sorted := PySem.W.mg_none_of X G z_sorted
  str := PySem.W.mg_none_of X G z_str
theorem law_fin {P : Program} {w : World} {K : PySem.W.Frag} {mg : Str → Option Value} {fa fl : Addr} {kV dc pm cd ct : Value} {an : Option Addr} (hfa : mg "law" = some (.ref fa)) (ml : mg "law" = some (.ref fl))
    (go : ∀ base : Heap, Fg P w K mg base CX0 8 fl (PySem.W.fnOf "law" "law" (defArgs (top 46)) (defBody (top 46)) (defScope (top 46)) .none kV dc pm an cd ct) ["_law_script"] (spLaw K)) :
    ∃ fD : FuncData, (∀ (s : Shared) (u : Value), BindsTo s fD ⟨[u], []⟩ [("_law_script", u)]) ∧ ∀ b0 : Heap, Fg P w K mg b0 CX0 8 fa fD ["_law_script"] (spLaw K) := by
  have e := hfa.symm.trans ml
  cases e
  exact ⟨_, fun s u => .of_eq rfl, go⟩
end KP
open PySem PySem.W PyProof.Rows
set_option maxRecDepth 100000 in
set_option maxHeartbeats 0 in
theorem PySem.Challenge.cw_unsureworks_k36_what_is_a_sign_paper_holds : PySem.Challenge.rw_unsureworks_k36_what_is_a_sign_paper.Holds := by
  w_on; o_law; k_head; (case hw => w_witness2)
  k_fill
  refine Vw.walk_g (l := PySem.Challenge.rw_unsureworks_k36_what_is_a_sign_paper) (n := 63) (lv := 8) (nm := "_law_script") (pr := KP.spLaw) rfl (by decide) rfl ⟨⟨rfl, by decide, by decide⟩, rfl⟩ (fun w h Y => PySem.W.kIn_of Y) ?F (fun _ _ a ns hl hS => ⟨a, ns, rfl, hl, hS, fun _ => rfl⟩)
  case F =>
    intro w mg fa h KX G hmg
    have T : Vw.Txt mg := by
      refine' KP.txt_mk KX G ?z0 ?z_abs ?z_len ?z_int ?z_bool ?z_tuple ?z_list ?z_range ?z_repr ?z_reversed ?z_divmod ?z_isinstance
      all_goals k_is
    have U : Vw.TxL mg := by
      refine' KP.txl_mk KX G ?zl0 ?z_zip ?z_enumerate ?z_max ?z_min ?z_sum ?z_any ?z_all ?z_set ?z_sorted ?z_str
      all_goals k_is
    refine' KP.dkc (x := "is_fraction") (st := KP.top 2) KX G ?a ?l ?c ?k (fun F2 m2 => ?_)
    (case a => k_is); (case l => k_is); (case c => k_is); (case k => k_is)
    refine' KP.dkc (x := "is_integer") (st := KP.top 3) KX G ?a ?l ?c ?k (fun F3 m3 => ?_)
    (case a => k_is); (case l => k_is); (case c => k_is); (case k => k_is)
    refine' KP.dkc (x := "reduced") (st := KP.top 4) KX G ?a ?l ?c ?k (fun F4 m4 => ?_)
    (case a => k_is); (case l => k_is); (case c => k_is); (case k => k_is)
    refine' KP.dkc (x := "less") (st := KP.top 5) KX G ?a ?l ?c ?k (fun F5 m5 => ?_)
    (case a => k_is); (case l => k_is); (case c => k_is); (case k => k_is)
    refine' KP.dkc (x := "order") (st := KP.top 6) KX G ?a ?l ?c ?k (fun F6 m6 => ?_)
    (case a => k_is); (case l => k_is); (case c => k_is); (case k => k_is)
    refine' KP.dkc (x := "row_of") (st := KP.top 8) KX G ?a ?l ?c ?k (fun F8 m8 => ?_)
    (case a => k_is); (case l => k_is); (case c => k_is); (case k => k_is)
    refine' KP.dkc (x := "polynomial_of") (st := KP.top 9) KX G ?a ?l ?c ?k (fun F9 m9 => ?_)
    (case a => k_is); (case l => k_is); (case c => k_is); (case k => k_is)
    refine' KP.dkc (x := "powers_of") (st := KP.top 10) KX G ?a ?l ?c ?k (fun F10 m10 => ?_)
    (case a => k_is); (case l => k_is); (case c => k_is); (case k => k_is)
    refine' KP.dkc (x := "row_squeezed") (st := KP.top 11) KX G ?a ?l ?c ?k (fun F11 m11 => ?_)
    (case a => k_is); (case l => k_is); (case c => k_is); (case k => k_is)
    refine' KP.dkc (x := "end_row") (st := KP.top 12) KX G ?a ?l ?c ?k (fun F12 m12 => ?_)
    (case a => k_is); (case l => k_is); (case c => k_is); (case k => k_is)
    refine' KP.dkc (x := "row_shifted") (st := KP.top 13) KX G ?a ?l ?c ?k (fun F13 m13 => ?_)
    (case a => k_is); (case l => k_is); (case c => k_is); (case k => k_is)
    refine' KP.dkc (x := "rows_multiplied") (st := KP.top 14) KX G ?a ?l ?c ?k (fun F14 m14 => ?_)
    (case a => k_is); (case l => k_is); (case c => k_is); (case k => k_is)
    refine' KP.dkc (x := "plain_row") (st := KP.top 15) KX G ?a ?l ?c ?k (fun F15 m15 => ?_)
    (case a => k_is); (case l => k_is); (case c => k_is); (case k => k_is)
    refine' KP.dkc (x := "is_polynomial") (st := KP.top 17) KX G ?a ?l ?c ?k (fun F17 m17 => ?_)
    (case a => k_is); (case l => k_is); (case c => k_is); (case k => k_is)
    refine' KP.dkc (x := "multiplied") (st := KP.top 18) KX G ?a ?l ?c ?k (fun F18 m18 => ?_)
    (case a => k_is); (case l => k_is); (case c => k_is); (case k => k_is)
    refine' KP.dkc (x := "sign_holds") (st := KP.top 20) KX G ?a ?l ?c ?k (fun F20 m20 => ?_)
    (case a => k_is); (case l => k_is); (case c => k_is); (case k => k_is)
    refine' KP.dkc (x := "_is_item") (st := KP.top 21) KX G ?a ?l ?c ?k (fun F21 m21 => ?_)
    (case a => k_is); (case l => k_is); (case c => k_is); (case k => k_is)
    refine' KP.dkc (x := "_makes") (st := KP.top 22) KX G ?a ?l ?c ?k (fun F22 m22 => ?_)
    (case a => k_is); (case l => k_is); (case c => k_is); (case k => k_is)
    refine' KP.dkc (x := "_law_store") (st := KP.top 24) KX G ?a ?l ?c ?k (fun F24 m24 => ?_)
    (case a => k_is); (case l => k_is); (case c => k_is); (case k => k_is)
    refine' KP.dkc (x := "_law_draw") (st := KP.top 25) KX G ?a ?l ?c ?k (fun F25 m25 => ?_)
    (case a => k_is); (case l => k_is); (case c => k_is); (case k => k_is)
    refine' KP.dkc (x := "_law_pick") (st := KP.top 26) KX G ?a ?l ?c ?k (fun F26 m26 => ?_)
    (case a => k_is); (case l => k_is); (case c => k_is); (case k => k_is)
    refine' KP.dkc (x := "_law_cut") (st := KP.top 27) KX G ?a ?l ?c ?k (fun F27 m27 => ?_)
    (case a => k_is); (case l => k_is); (case c => k_is); (case k => k_is)
    refine' KP.dkc (x := "_law_cmp") (st := KP.top 28) KX G ?a ?l ?c ?k (fun F28 m28 => ?_)
    (case a => k_is); (case l => k_is); (case c => k_is); (case k => k_is)
    refine' KP.dkc (x := "_law_plus") (st := KP.top 29) KX G ?a ?l ?c ?k (fun F29 m29 => ?_)
    (case a => k_is); (case l => k_is); (case c => k_is); (case k => k_is)
    refine' KP.dkc (x := "_law_product") (st := KP.top 30) KX G ?a ?l ?c ?k (fun F30 m30 => ?_)
    (case a => k_is); (case l => k_is); (case c => k_is); (case k => k_is)
    refine' KP.dkc (x := "_law_bare") (st := KP.top 31) KX G ?a ?l ?c ?k (fun F31 m31 => ?_)
    (case a => k_is); (case l => k_is); (case c => k_is); (case k => k_is)
    refine' KP.dkc (x := "_law_total") (st := KP.top 32) KX G ?a ?l ?c ?k (fun F32 m32 => ?_)
    (case a => k_is); (case l => k_is); (case c => k_is); (case k => k_is)
    refine' KP.dkc (x := "_law_by") (st := KP.top 33) KX G ?a ?l ?c ?k (fun F33 m33 => ?_)
    (case a => k_is); (case l => k_is); (case c => k_is); (case k => k_is)
    refine' KP.dkc (x := "_law_told") (st := KP.top 34) KX G ?a ?l ?c ?k (fun F34 m34 => ?_)
    (case a => k_is); (case l => k_is); (case c => k_is); (case k => k_is)
    refine' KP.dkc (x := "_law_is_fraction") (st := KP.top 35) KX G ?a ?l ?c ?k (fun F35 m35 => ?_)
    (case a => k_is); (case l => k_is); (case c => k_is); (case k => k_is)
    refine' KP.dkc (x := "_law_is_polynomial") (st := KP.top 36) KX G ?a ?l ?c ?k (fun F36 m36 => ?_)
    (case a => k_is); (case l => k_is); (case c => k_is); (case k => k_is)
    refine' KP.dkc (x := "_law_ints") (st := KP.top 37) KX G ?a ?l ?c ?k (fun F37 m37 => ?_)
    (case a => k_is); (case l => k_is); (case c => k_is); (case k => k_is)
    refine' KP.dkc (x := "_law_is_item") (st := KP.top 38) KX G ?a ?l ?c ?k (fun F38 m38 => ?_)
    (case a => k_is); (case l => k_is); (case c => k_is); (case k => k_is)
    refine' KP.dkc (x := "_law_is_good") (st := KP.top 39) KX G ?a ?l ?c ?k (fun F39 m39 => ?_)
    (case a => k_is); (case l => k_is); (case c => k_is); (case k => k_is)
    refine' KP.dkc (x := "_law_is_paper") (st := KP.top 40) KX G ?a ?l ?c ?k (fun F40 m40 => ?_)
    (case a => k_is); (case l => k_is); (case c => k_is); (case k => k_is)
    refine' KP.dkc (x := "_law_known") (st := KP.top 41) KX G ?a ?l ?c ?k (fun F41 m41 => ?_)
    (case a => k_is); (case l => k_is); (case c => k_is); (case k => k_is)
    refine' KP.dkc (x := "_law_parted") (st := KP.top 42) KX G ?a ?l ?c ?k (fun F42 m42 => ?_)
    (case a => k_is); (case l => k_is); (case c => k_is); (case k => k_is)
    refine' KP.dkc (x := "_law_changed") (st := KP.top 43) KX G ?a ?l ?c ?k (fun F43 m43 => ?_)
    (case a => k_is); (case l => k_is); (case c => k_is); (case k => k_is)
    refine' KP.dkc (x := "_law_spoilt") (st := KP.top 44) KX G ?a ?l ?c ?k (fun F44 m44 => ?_)
    (case a => k_is); (case l => k_is); (case c => k_is); (case k => k_is)
    refine' KP.dkc (x := "_law_is_told") (st := KP.top 45) KX G ?a ?l ?c ?k (fun F45 m45 => ?_)
    (case a => k_is); (case l => k_is); (case c => k_is); (case k => k_is)
    refine' KP.dkc (x := "law") (st := KP.top 46) KX G ?a ?l ?c ?k (fun F46 m46 => ?_)
    (case a => k_is); (case l => k_is); (case c => k_is); (case k => k_is)
    exact KP.law_fin hmg m46 (fun base => KP.law_all T U F2 m2 F3 m3 F4 m4 F5 m5 F6 m6 F8 m8 F9 m9 F10 m10 F11 m11 F12 m12 F13 m13 F14 m14 F15 m15 F17 m17 F18 m18 F20 m20 F21 m21 F22 m22 F24 m24 F25 m25 F26 m26 F27 m27 F28 m28 F29 m29 F30 m30 F31 m31 F32 m32 F33 m33 F34 m34 F35 m35 F36 m36 F37 m37 F38 m38 F39 m39 F40 m40 F41 m41 F42 m42 F43 m43 F44 m44 F45 m45 F46 m46)
