import PyProof.Rows.All
import Wide.All
import OpenK.AllK
import Wide.FinOn
import HandS.ForMost
import HandS.Evl
import HandS.Deep
import HandS.IsInst
import HandS.WideBits
import HandS.Exc
import HandS.ExcOwn
import HandS.ExcInit
import HandS.WordsExc
import HandS.TryOnly
import HandS.Iter
import HandS.SortRule
import HandS.Conv
import HandS.TupAny
import HandS.SortInts
import HandS.ExcField
import HandS.TryMany
import KE.DatumOrd
import HandS.Text
import HandS.HeadHook4
import HandS.HeadEnd
import HandS.Head2
import KE.SortData
import KE.KDictDisplayH
import HandS.ExcValue
import KE.KDictSum
import HandS.Zip
import HandS.DictComp
import KE.GoesEnum
import HandS.SortKw
import HandS.TupLe
import HandS.TupLen
import HandS.SetBool
import HandS.TupSets
import HandS.Strs
import PySem.Challenge.RW_ordersbehind_k10_whole_triangle_step
set_option Elab.async false
set_option linter.all false
set_option maxRecDepth 100000
set_option maxHeartbeats 4000000
namespace OB
open PySem PySem.Spec PyProof.Rows L2
abbrev Ex := Evl.Ex

/-! ### data -/
inductive D where
  | non | bl (b : Bool) | int (i : Int) | str (x : PySem.Str)
  | lst (l : List D) | tup (l : List D)
  | ins (C : Addr) (fs : List (PySem.Str × D))
  | drw
  | dct (m : List (List Key × D))
  | dck (m : List (Key × D))
  | rng (lo hi : Int)
  | tpk (l : List D)

/-- the list of draws, whatever its ints -/
def drawsHO (a : Addr) : HO := .ext fun h => ∃ (ns : List Int) (its : List Value) (n : Nat), Vals (ns.map V.int) its ∧ ns.length ≤ sizeLine ∧ h.get? a = some { cls := .type "list", data := .seq its.toArray n }

mutual
inductive Is (K : PySem.W.Frag) (B : Hp) : V → D → Prop
  | non : Is K B .non .non
  | bl (b : Bool) : Is K B (.bl b) (.bl b)
  | int (i : Int) : Is K B (.int i) (.int i)
  | str (x : PySem.Str) : Is K B (.str x) (.str x)
  | lst {a : Addr} {xs : List V} {l : List D} : B a = some (.lst xs) → IsAll K B xs l → Is K B (.ref a) (.lst l)
  | tup {a : Addr} {xs : List V} {l : List D} : B a = some (.tup xs) → IsAll K B xs l → Is K B (.ref a) (.tup l)
  | ins {a C dx : Addr} {vs : List (PySem.Str × V)} {fs : List (PySem.Str × D)} : B a = some (.ins C dx vs) → IsFs K B vs fs → Is K B (.ref a) (.ins C fs)
  | drw {a : Addr} : B a = some (drawsHO a) → Is K B (.ref a) .drw
  | dct {a : Addr} {kvs : List (List Key × V)} {m : List (List Key × D)} : B a = some (.dT kvs) → IsKs K B kvs m → Is K B (.ref a) (.dct m)
  | dck {a : Addr} {kvs : List (Key × V)} {m : List (Key × D)} : B a = some (.dK kvs) → IsKk K B kvs m → Is K B (.ref a) (.dck m)
  | rng {a : Addr} {lo hi : Int} : B a = some (.rng lo hi) → Is K B (.ref a) (.rng lo hi)
  | tpk {a : Addr} {o : Obj} {its : Array Value} {n : Nat} {xs : List V} {l : List D} : K.lookup a = some o → o.cls = .type "tuple" → o.data = .seq its n → its.size ≤ sizeLine → Vals xs its.toList → IsAll K B xs l → Is K B (.ref a) (.tpk l)
inductive IsAll (K : PySem.W.Frag) (B : Hp) : List V → List D → Prop
  | nil : IsAll K B [] []
  | cons {v : V} {vs : List V} {d : D} {ds : List D} : Is K B v d → IsAll K B vs ds → IsAll K B (v :: vs) (d :: ds)
inductive IsFs (K : PySem.W.Frag) (B : Hp) : List (PySem.Str × V) → List (PySem.Str × D) → Prop
  | nil : IsFs K B [] []
  | cons {f : PySem.Str} {v : V} {vs : List (PySem.Str × V)} {d : D} {fs : List (PySem.Str × D)} : Is K B v d → IsFs K B vs fs → IsFs K B ((f, v) :: vs) ((f, d) :: fs)
inductive IsKs (K : PySem.W.Frag) (B : Hp) : List (List Key × V) → List (List Key × D) → Prop
  | nil : IsKs K B [] []
  | cons {k : List Key} {v : V} {vs : List (List Key × V)} {d : D} {m : List (List Key × D)} : Is K B v d → IsKs K B vs m → IsKs K B ((k, v) :: vs) ((k, d) :: m)
inductive IsKk (K : PySem.W.Frag) (B : Hp) : List (Key × V) → List (Key × D) → Prop
  | nil : IsKk K B [] []
  | cons {k : Key} {v : V} {vs : List (Key × V)} {d : D} {m : List (Key × D)} : Is K B v d → IsKk K B vs m → IsKk K B ((k, v) :: vs) ((k, d) :: m)
end
section
variable {K : PySem.W.Frag} {B B' : Hp}
mutual
theorem Is.mono (e : Ex B B') : ∀ (d : D) (v : V), Is K B v d → Is K B' v d
  | .non, _, h => by cases h; exact .non
  | .bl b, _, h => by cases h; exact .bl b
  | .int b, _, h => by cases h; exact .int b
  | .str b, _, h => by cases h; exact .str b
  | .lst l, _, h => by
    cases h with
    | lst hs ha => exact .lst (e _ _ hs) (IsAll.mono e l _ ha)
  | .tup l, _, h => by
    cases h with
    | tup hs ha => exact .tup (e _ _ hs) (IsAll.mono e l _ ha)
  | .ins C fs, _, h => by
    cases h with
    | ins hs ha => exact .ins (e _ _ hs) (IsFs.mono e fs _ ha)
  | .drw, _, h => by
    cases h with
    | drw hs => exact .drw (e _ _ hs)
  | .dct m, _, h => by
    cases h with
    | dct hs ha => exact .dct (e _ _ hs) (IsKs.mono e m _ ha)
  | .dck m, _, h => by
    cases h with
    | dck hs ha => exact .dck (e _ _ hs) (IsKk.mono e m _ ha)
  | .rng lo hi, _, h => by
    cases h with
    | rng hs => exact .rng (e _ _ hs)
  | .tpk l, _, h => by
    cases h with
    | tpk h1 h2 h3 h4 h5 ha => exact .tpk h1 h2 h3 h4 h5 (IsAll.mono e l _ ha)
theorem IsAll.mono (e : Ex B B') : ∀ (ds : List D) (vs : List V), IsAll K B vs ds → IsAll K B' vs ds
  | [], _, h => by cases h; exact .nil
  | d :: ds, _, h => by
    cases h with
    | cons h1 h2 => exact .cons (Is.mono e d _ h1) (IsAll.mono e ds _ h2)
theorem IsFs.mono (e : Ex B B') : ∀ (fs : List (PySem.Str × D)) (vs : List (PySem.Str × V)), IsFs K B vs fs → IsFs K B' vs fs
  | [], _, h => by cases h; exact .nil
  | (f, d) :: fs, _, h => by
    cases h with
    | cons h1 h2 => exact .cons (Is.mono e d _ h1) (IsFs.mono e fs _ h2)
theorem IsKs.mono (e : Ex B B') : ∀ (fs : List (List Key × D)) (vs : List (List Key × V)), IsKs K B vs fs → IsKs K B' vs fs
  | [], _, h => by cases h; exact .nil
  | (f, d) :: fs, _, h => by
    cases h with
    | cons h1 h2 => exact .cons (Is.mono e d _ h1) (IsKs.mono e fs _ h2)
theorem IsKk.mono (e : Ex B B') : ∀ (fs : List (Key × D)) (vs : List (Key × V)), IsKk K B vs fs → IsKk K B' vs fs
  | [], _, h => by cases h; exact .nil
  | (f, d) :: fs, _, h => by
    cases h with
    | cons h1 h2 => exact .cons (Is.mono e d _ h1) (IsKk.mono e fs _ h2)
end
theorem IsAll.len : ∀ {ds : List D} {vs : List V}, IsAll K B vs ds → vs.length = ds.length
  | [], _, h => by cases h; rfl
  | d :: ds, _, h => by
    cases h with
    | cons h1 h2 => rw [List.length_cons, List.length_cons, IsAll.len h2]
theorem IsAll.get : ∀ {ds : List D} {vs : List V} {i : Nat} {d : D}, IsAll K B vs ds → ds[i]? = some d → ∃ v, vs[i]? = some v ∧ Is K B v d
  | [], _, i, d, h, e => by simp at e
  | d0 :: ds, _, 0, d, h, e => by
    cases h with
    | cons h1 h2 => simp at e; subst e; exact ⟨_, rfl, h1⟩
  | d0 :: ds, _, i + 1, d, h, e => by
    cases h with
    | cons h1 h2 => obtain ⟨v, q1, q2⟩ := IsAll.get (i := i) h2 (by simpa using e); exact ⟨v, by simpa using q1, q2⟩
theorem IsAll.got : ∀ {ds : List D} {vs : List V} {i : Nat} {v : V}, IsAll K B vs ds → vs[i]? = some v → ∃ d, ds[i]? = some d ∧ Is K B v d
  | [], _, i, d, h, e => by cases h; simp at e
  | d0 :: ds, _, 0, d, h, e => by
    cases h with
    | cons h1 h2 => simp at e; subst e; exact ⟨_, rfl, h1⟩
  | d0 :: ds, _, i + 1, d, h, e => by
    cases h with
    | cons h1 h2 => obtain ⟨v, q1, q2⟩ := IsAll.got (i := i) h2 (by simpa using e); exact ⟨v, by simpa using q1, q2⟩
theorem IsAll.app : ∀ {ds es : List D} {vs ws : List V}, IsAll K B vs ds → IsAll K B ws es → IsAll K B (vs ++ ws) (ds ++ es)
  | [], _, _, _, h, h' => by cases h; exact h'
  | d :: ds, _, _, _, h, h' => by
    cases h with
    | cons h1 h2 => exact .cons h1 (IsAll.app h2 h')
theorem IsAll.set : ∀ {ds : List D} {vs : List V} {i : Nat} {d : D} {v : V}, IsAll K B vs ds → Is K B v d → IsAll K B (vs.set i v) (ds.set i d)
  | [], _, i, d, v, h, e => by cases h; exact .nil
  | d0 :: ds, _, 0, d, v, h, e => by
    cases h with
    | cons h1 h2 => exact .cons e h2
  | d0 :: ds, _, i + 1, d, v, h, e => by
    cases h with
    | cons h1 h2 => exact .cons h1 (IsAll.set h2 e)
theorem IsFs.look : ∀ {fs : List (PySem.Str × D)} {vs : List (PySem.Str × V)} {f : PySem.Str} {d : D}, IsFs K B vs fs → fs.lookup f = some d → ∃ v, vs.lookup f = some v ∧ Is K B v d
  | [], _, f, d, h, e => by simp at e
  | (g, d0) :: fs, _, f, d, h, e => by
    cases h with
    | cons h1 h2 =>
      rw [List.lookup_cons] at e ⊢
      cases hb : f == g with
      | true => rw [hb] at e; simp at e; subst e; exact ⟨_, rfl, h1⟩
      | false => rw [hb] at e; exact IsFs.look h2 e
theorem IsFs.none_of : ∀ {fs : List (PySem.Str × D)} {vs : List (PySem.Str × V)} {f : PySem.Str}, IsFs K B vs fs → fs.lookup f = none → vs.lookup f = none
  | [], _, f, h, e => by cases h; rfl
  | (g, d0) :: fs, _, f, h, e => by
    cases h with
    | cons h1 h2 =>
      rw [List.lookup_cons] at e ⊢
      cases hb : f == g with
      | true => rw [hb] at e; simp at e
      | false => rw [hb] at e; exact IsFs.none_of h2 e
theorem IsFs.len : ∀ {ds : List (PySem.Str × D)} {vs : List (PySem.Str × V)}, IsFs K B vs ds → vs.length = ds.length
  | [], _, h => by cases h; rfl
  | d :: ds, _, h => by
    cases h with
    | cons h1 h2 => rw [List.length_cons, List.length_cons, IsFs.len h2]
end

/-! ### how the two heaps grow -/
/-- free, or a tuple (a key of a dict) -/
def Nw (H : Hp) (a : Addr) : Prop := H a = none ∨ ∃ xs, H a = some (.tup xs)
theorem Nw.back {H H' : Hp} {a : Addr} (e : Ex H H') (h : Nw H' a) : Nw H a := by
  cases q : H a with
  | none => exact .inl q
  | some o =>
    rcases h with z | ⟨xs, z⟩
    · rw [e _ _ q] at z; cases z
    · rw [e _ _ q] at z; exact .inr ⟨xs, by rw [q]; exact z⟩
structure Grow (B H B' H' : Hp) : Prop where
  b : Ex B B'
  h : Ex H H'
  bh : Ex B' H'
  fr : ∀ a, B' a ≠ none → B a ≠ none ∨ Nw H a
section
variable {B H B' H' B'' H'' : Hp} {a : Addr}
theorem Grow.refl (e : Ex B H) : Grow B H B H := ⟨Evl.Ex.refl _, Evl.Ex.refl _, e, fun _ h => .inl h⟩
theorem Grow.trans (x : Grow B H B' H') (y : Grow B' H' B'' H'') : Grow B H B'' H'' := ⟨x.b.trans y.b, x.h.trans y.h, y.bh, fun a h => by
  rcases y.fr a h with q | q
  · exact x.fr a q
  · exact .inr (q.back x.h)⟩
/-- what is not the base's but stands in the heap stays so -/
theorem Grow.out (x : Grow B H B' H') {o : HO} (h1 : B a = none) (h2 : H a = some o) (ht : ∀ xs, o ≠ .tup xs := by intro xs z; exact nomatch z) : B' a = none := by
  cases q : B' a with
  | none => rfl
  | some u =>
    rcases x.fr a (by rw [q]; exact fun z => nomatch z) with z | z
    · exact absurd h1 z
    · rcases z with z | ⟨xs, z⟩
      · rw [h2] at z; cases z
      · rw [h2] at z; exact (ht xs (Option.some.inj z)).elim
theorem Grow.up (e : Ex B H) (x : Ex H H') : Grow B H B H' := ⟨Evl.Ex.refl _, x, e.trans x, fun _ h => .inl h⟩
/-- a new object of the base -/
theorem Grow.new {p : Addr} {o : HO} (e : Ex B H) (hp : H p = none) : Grow B H (upd B p o) (upd H p o) := by
  have bp : B p = none := Evl.fresh_back e hp
  refine ⟨Evl.Ex.new bp, Evl.Ex.new hp, fun b u q => ?_, fun b q => ?_⟩
  · by_cases hb : b = p
    · subst hb; rw [upd_same] at q ⊢; exact q
    · rw [upd_ne hb] at q ⊢; exact e _ _ q
  · by_cases hb : b = p
    · subst hb; exact .inr (.inl hp)
    · rw [upd_ne hb] at q; exact .inl q
end
/-- an owned object becomes the base's -/
theorem ex_join {B H : Hp} {p : Addr} {o : HO} (e : Ex B H) (hp : H p = some o) : Ex (upd B p o) H := fun b u q => by
  by_cases hb : b = p
  · subst hb; rw [upd_same] at q; rw [hp]; exact q
  · rw [upd_ne hb] at q; exact e _ _ q

/-! ### the state: slots and owned objects -/
inductive OV where
  | lst (l : List D)
  | dct (m : List (List Key × D))
  | dck (m : List (Key × D))
  | ins (C dx : Addr) (fs : List (PySem.Str × D))
  | mat (rs : List Addr) (M : List (List D))
def fpt : Addr × OV → List Addr
  | (p, .lst _) => [p]
  | (p, .dct _) => [p]
  | (p, .dck _) => [p]
  | (p, .ins _ _ _) => [p]
  | (p, .mat rs _) => p :: rs
inductive Rows (K : PySem.W.Frag) (B H : Hp) : List Addr → List (List D) → Prop
  | nil : Rows K B H [] []
  | cons {r : Addr} {rs : List Addr} {xs : List V} {l : List D} {M : List (List D)} : H r = some (.lst xs) → IsAll K B xs l → Rows K B H rs M → Rows K B H (r :: rs) (l :: M)
def Own (K : PySem.W.Frag) (B H : Hp) : Addr × OV → Prop
  | (p, .lst l) => ∃ xs, H p = some (.lst xs) ∧ IsAll K B xs l
  | (p, .dct m) => ∃ kvs, H p = some (.dT kvs) ∧ IsKs K B kvs m
  | (p, .dck m) => ∃ kvs, H p = some (.dK kvs) ∧ IsKk K B kvs m
  | (p, .ins C dx fs) => ∃ vs, H p = some (.ins C dx vs) ∧ IsFs K B vs fs
  | (p, .mat rs M) => H p = some (.lst (rs.map V.ref)) ∧ Rows K B H rs M
theorem Rows.mono {K : PySem.W.Frag} {B H B' H' : Hp} (e : Ex B B') (e' : Ex H H') : ∀ {rs : List Addr} {M : List (List D)}, Rows K B H rs M → Rows K B' H' rs M
  | _, _, .nil => .nil
  | _, _, .cons h1 h2 h3 => .cons (e' _ _ h1) (IsAll.mono e _ _ h2) (Rows.mono e e' h3)
theorem Own.mono {K : PySem.W.Frag} {B H B' H' : Hp} (e : Ex B B') (e' : Ex H H') : ∀ {o : Addr × OV}, Own K B H o → Own K B' H' o
  | (p, .lst l), ⟨xs, h1, h2⟩ => ⟨xs, e' _ _ h1, IsAll.mono e _ _ h2⟩
  | (p, .dct m), ⟨xs, h1, h2⟩ => ⟨xs, e' _ _ h1, IsKs.mono e _ _ h2⟩
  | (p, .dck m), ⟨xs, h1, h2⟩ => ⟨xs, e' _ _ h1, IsKk.mono e _ _ h2⟩
  | (p, .ins C dx fs), ⟨xs, h1, h2⟩ => ⟨xs, e' _ _ h1, IsFs.mono e _ _ h2⟩
  | (p, .mat rs M), ⟨h1, h2⟩ => ⟨e' _ _ h1, h2.mono e e'⟩
theorem Rows.at {K : PySem.W.Frag} {B H : Hp} {a : Addr} : ∀ {rs : List Addr} {M : List (List D)}, Rows K B H rs M → a ∈ rs → ∃ o, H a = some o ∧ ∀ xs, o ≠ .tup xs
  | _, _, .nil, h => by cases h
  | _, _, .cons h1 h2 h3, h => by
    rcases List.mem_cons.mp h with e | h
    · subst e; exact ⟨_, h1, fun _ z => nomatch z⟩
    · exact h3.at h
theorem Own.at {K : PySem.W.Frag} {B H : Hp} {a : Addr} : ∀ {o : Addr × OV}, Own K B H o → a ∈ fpt o → ∃ u, H a = some u ∧ ∀ xs, u ≠ .tup xs
  | (p, .lst l), ⟨xs, h1, h2⟩, h => by
    have e : a = p := by simpa [fpt] using h
    subst e; exact ⟨_, h1, fun _ z => nomatch z⟩
  | (p, .dck m), ⟨xs, h1, h2⟩, h => by
    have e : a = p := by simpa [fpt] using h
    subst e; exact ⟨_, h1, fun _ z => nomatch z⟩
  | (p, .dct m), ⟨xs, h1, h2⟩, h => by
    have e : a = p := by simpa [fpt] using h
    subst e; exact ⟨_, h1, fun _ z => nomatch z⟩
  | (p, .ins C dx fs), ⟨xs, h1, h2⟩, h => by
    have e : a = p := by simpa [fpt] using h
    subst e; exact ⟨_, h1, fun _ z => nomatch z⟩
  | (p, .mat rs M), ⟨h1, h2⟩, h => by
    rcases List.mem_cons.mp (show a ∈ p :: rs from h) with e | h
    · subst e; exact ⟨_, h1, fun _ z => nomatch z⟩
    · exact h2.at h

inductive SD where
  | un
  | d (d : D)
  | v (x : V)
def SlotOk (K : PySem.W.Frag) (B : Hp) : Option (Option V) → SD → Prop
  | _, .un => True
  | o, .d d => ∃ v, o = some (some v) ∧ Is K B v d
  | o, .v x => o = some (some x)
structure Slots (K : PySem.W.Frag) (B : Hp) (σ : L2.St) (sds : List SD) : Prop where
  len : σ.length = sds.length
  at' : ∀ (i : Nat) (sd : SD), sds[i]? = some sd → SlotOk K B σ[i]? sd
theorem SlotOk.mono {K : PySem.W.Frag} {B B' : Hp} (e : Ex B B') {o : Option (Option V)} : ∀ {sd : SD}, SlotOk K B o sd → SlotOk K B' o sd
  | .un, _ => trivial
  | .d d, ⟨v, h1, h2⟩ => ⟨v, h1, h2.mono e⟩
  | .v x, h => h
theorem Slots.mono {K : PySem.W.Frag} {B B' : Hp} {σ : L2.St} {sds : List SD} (e : Ex B B') (h : Slots K B σ sds) : Slots K B' σ sds := ⟨h.len, fun i sd q => (h.at' i sd q).mono e⟩
theorem Slots.set {K : PySem.W.Frag} {B : Hp} {σ : L2.St} {sds : List SD} (h : Slots K B σ sds) {i : Nat} {v : V} {sd : SD} (hs : SlotOk K B (some (some v)) sd) : Slots K B (σ.set i (some v)) (sds.set i sd) := by
  refine ⟨by rw [List.length_set, List.length_set, h.len], fun j s q => ?_⟩
  by_cases hj : i = j
  · subst hj
    have hl : i < sds.length := by
      have := (List.getElem?_eq_some_iff.mp q).1
      rwa [List.length_set] at this
    rw [List.getElem?_set_self hl] at q
    cases q
    rw [List.getElem?_set_self (by rw [h.len]; exact hl)]
    exact hs
  · rw [List.getElem?_set_ne hj] at q ⊢
    exact h.at' j s q
/-- a slot is forgotten -/
theorem Slots.forget {K : PySem.W.Frag} {B : Hp} {σ : L2.St} {sds : List SD} (h : Slots K B σ sds) {i : Nat} {o : Option V} : Slots K B (σ.set i o) (sds.set i .un) := by
  refine ⟨by rw [List.length_set, List.length_set, h.len], fun j s q => ?_⟩
  by_cases hj : i = j
  · subst hj
    have hl : i < sds.length := by
      have := (List.getElem?_eq_some_iff.mp q).1
      rwa [List.length_set] at this
    rw [List.getElem?_set_self hl] at q
    cases q
    trivial
  · rw [List.getElem?_set_ne hj] at q ⊢
    exact h.at' j s q

structure St (K : PySem.W.Frag) (B0 H0 B H : Hp) (σ : L2.St) (sds : List SD) (os : List (Addr × OV)) : Prop where
  g : Grow B0 H0 B H
  sl : Slots K B σ sds
  ow : ∀ e ∈ os, Own K B H e
  fr : ∀ a ∈ os.flatMap fpt, B a = none ∧ H0 a = none
  nd : (os.flatMap fpt).Nodup
section
variable {K : PySem.W.Frag} {B0 H0 B H B' H' : Hp} {σ : L2.St} {sds : List SD} {os : List (Addr × OV)}
theorem St.grow (s : St K B0 H0 B H σ sds os) (x : Grow B H B' H') : St K B0 H0 B' H' σ sds os := by
  refine ⟨s.g.trans x, s.sl.mono x.b, fun e he => (s.ow e he).mono x.b x.h, fun a ha => ⟨?_, (s.fr a ha).2⟩, s.nd⟩
  obtain ⟨e, he, hm⟩ := List.mem_flatMap.mp ha
  obtain ⟨u, hu⟩ := (s.ow e he).at hm
  exact x.out (s.fr a ha).1 hu.1 hu.2
theorem St.set (s : St K B0 H0 B H σ sds os) {i : Nat} {v : V} {d : D} (h : Is K B v d) : St K B0 H0 B H (σ.set i (some v)) (sds.set i (.d d)) os := ⟨s.g, s.sl.set ⟨v, rfl, h⟩, s.ow, s.fr, s.nd⟩
theorem St.var (s : St K B0 H0 B H σ sds os) {i : Nat} {d : D} (h : sds[i]? = some (.d d)) : ∃ v, σ[i]? = some (some v) ∧ Is K B v d := s.sl.at' i _ h
theorem St.varV (s : St K B0 H0 B H σ sds os) {i : Nat} {x : V} (h : sds[i]? = some (.v x)) : σ[i]? = some (some x) := s.sl.at' i _ h
end

/-! ### runs as readings -/
section
variable (X : Cx)
structure wE (e : Expr) (σ : L2.St) (H : Hp) (Q : VK) : Prop where
  run : ∀ (pins : List (Addr × Obj)) (s : Shared), Inv X pins σ H s → wpAny (model X.prog X.w) X.A (eval e X.env) (EP X pins σ Q) X.xe s
structure wT (e : Expr) (σ : L2.St) (H : Hp) (Q : Bool → Hp → Prop) : Prop where
  run : ∀ (pins : List (Addr × Obj)) (s : Shared), Inv X pins σ H s → wpAny (model X.prog X.w) X.A (isTrue e X.env (eval e X.env)) (TP X pins σ Q) X.xe s
structure wW (e : Expr) (σ : L2.St) (H : Hp) (Q : Bool → Hp → Prop) : Prop where
  run : ∀ (whole : Sem Value) (pins : List (Addr × Obj)) (s : Shared), Inv X pins σ H s → wpAny (model X.prog X.w) X.A (isTrue e X.env whole) (TP X pins σ Q) X.xe s
structure wA (es : List Expr) (σ : L2.St) (H : Hp) (Q : List V → Hp → Prop) : Prop where
  run : ∀ (pos : Pos) (pins : List (Addr × Obj)) (s : Shared), Inv X pins σ H s → wpAny (model X.prog X.w) X.A (spliced (backTo pos (starEach es X.env))) (AP X pins σ Q) X.xe s
structure wS (st : Stmt) (D : Ends) (σ : L2.St) (H : Hp) : Prop where
  run : ∀ (pins : List (Addr × Obj)) (s : Shared), Inv X pins σ H s → wpAny (model X.prog X.w) X.A (exec st X.env) (SP X pins D) X.xe s
structure wSs (st : List Stmt) (D : Ends) (σ : L2.St) (H : Hp) : Prop where
  run : ∀ (pins : List (Addr × Obj)) (s : Shared), Inv X pins σ H s → wpAny (model X.prog X.w) X.A (execs st X.env) (SP X pins D) X.xe s
end
section
variable {X : Cx} {e : Expr} {es : List Expr} {st : Stmt} {sts : List Stmt} {σ : L2.St} {H : Hp}
theorem pe_w : PE X e (wE X e) := ⟨fun pins s _ _ _ I h => h.run pins s I⟩
theorem pt_w : PT X e (wT X e) := ⟨fun pins s _ _ _ I h => h.run pins s I⟩
theorem pw_w : PW X e (wW X e) := ⟨fun wh pins s _ _ _ I h => h.run wh pins s I⟩
theorem pa_w : PA X es (wA X es) := ⟨fun pos pins s _ _ _ I h => h.run pos pins s I⟩
theorem ps_w : PS X st (wS X st) := ⟨fun pins s _ _ _ I h => h.run pins s I⟩
theorem pss_w : PSs X sts (wSs X sts) := ⟨fun pins s _ _ _ I h => h.run pins s I⟩
theorem PE.to {t : TE} (h : PE X e t) {Q : VK} (q : t σ H Q) : wE X e σ H Q := ⟨fun pins s I => h.run pins s σ H Q I q⟩
theorem PT.to {t : TT} (h : PT X e t) {Q : Bool → Hp → Prop} (q : t σ H Q) : wT X e σ H Q := ⟨fun pins s I => h.run pins s σ H Q I q⟩
theorem PW.to {t : TT} (h : PW X e t) {Q : Bool → Hp → Prop} (q : t σ H Q) : wW X e σ H Q := ⟨fun wh pins s I => h.run wh pins s σ H Q I q⟩
theorem PA.to {t : TA} (h : PA X es t) {Q : List V → Hp → Prop} (q : t σ H Q) : wA X es σ H Q := ⟨fun pos pins s I => h.run pos pins s σ H Q I q⟩
theorem PS.to {t : TS} (h : PS X st t) {D : Ends} (q : t D σ H) : wS X st D σ H := ⟨fun pins s I => h.run pins s σ H D I q⟩
theorem PSs.to {t : TS} (h : PSs X sts t) {D : Ends} (q : t D σ H) : wSs X sts D σ H := ⟨fun pins s I => h.run pins s σ H D I q⟩
theorem wE.imp {Q Q' : VK} (h : wE X e σ H Q) (i : ∀ v H', Q v H' → Q' v H') : wE X e σ H Q' := ⟨fun pins s I => thn (h.run pins s I) fun _ _ ⟨v, H', I', r, q⟩ => ⟨v, H', I', r, i v H' q⟩⟩
theorem wT.imp {Q Q' : Bool → Hp → Prop} (h : wT X e σ H Q) (i : ∀ v H', Q v H' → Q' v H') : wT X e σ H Q' := ⟨fun pins s I => thn (h.run pins s I) fun _ _ ⟨H', I', q⟩ => ⟨H', I', i _ H' q⟩⟩
end

/-! ### data-level judgements -/
section
variable (X : Cx) (B0 H0 : Hp) (sds : List SD) (os : List (Addr × OV))
def EX (e : Expr) (P : D → Prop) : Prop := ∀ B H σ, St X.K B0 H0 B H σ sds os → ∀ Q : VK, (∀ v B' H' d, Grow B H B' H' → Is X.K B' v d → P d → Q v H') → wE X e σ H Q
/-- a new list -/
def EL (e : Expr) (P : List D → Prop) : Prop := ∀ B H σ, St X.K B0 H0 B H σ sds os → ∀ Q : VK, (∀ p xs B' H' l, Grow B H B' H' → H p = none → B' p = none → H' p = some (.lst xs) → IsAll X.K B' xs l → P l → Q (.ref p) H') → wE X e σ H Q
def TX (e : Expr) (P : Bool → Prop) : Prop := ∀ B H σ, St X.K B0 H0 B H σ sds os → ∀ Q : Bool → Hp → Prop, (∀ b B' H', Grow B H B' H' → P b → Q b H') → wT X e σ H Q
/-- a test within and, or -/
def WX (e : Expr) (P : Bool → Prop) : Prop := ∀ B H σ, St X.K B0 H0 B H σ sds os → ∀ Q : Bool → Hp → Prop, (∀ b B' H', Grow B H B' H' → P b → Q b H') → wW X e σ H Q
def EA (es : List Expr) (P : List D → Prop) : Prop := ∀ B H σ, St X.K B0 H0 B H σ sds os → ∀ Q : List V → Hp → Prop, (∀ vs B' H' ds, Grow B H B' H' → IsAll X.K B' vs ds → P ds → Q vs H') → wA X es σ H Q
end
structure DE where
  nx : List SD → List (Addr × OV) → Prop := fun _ _ => False
  rt : D → Prop := fun _ => False
  bk : List SD → List (Addr × OV) → Prop := fun _ _ => False
  ct : List SD → List (Addr × OV) → Prop := fun _ _ => False
def DE.ends (K : PySem.W.Frag) (B0 H0 A : Hp) (E : DE) : Ends where
  nx := fun σ H => ∃ B sds os, Ex A B ∧ St K B0 H0 B H σ sds os ∧ E.nx sds os
  rt := fun v H => ∃ B d, Ex A B ∧ Grow B0 H0 B H ∧ Is K B v d ∧ E.rt d
  bk := fun σ H => ∃ B sds os, Ex A B ∧ St K B0 H0 B H σ sds os ∧ E.bk sds os
  ct := fun σ H => ∃ B sds os, Ex A B ∧ St K B0 H0 B H σ sds os ∧ E.ct sds os
/-- the block run from such a state comes to such ends; A: what of the base is to be kept -/
def Go (X : Cx) (B0 H0 : Hp) (sds : List SD) (os : List (Addr × OV)) (E : DE) (sts : List Stmt) : Prop :=
  ∀ A B H σ, Ex A B → St X.K B0 H0 B H σ sds os → wSs X sts (E.ends X.K B0 H0 A) σ H
/-- one statement -/
def Go1 (X : Cx) (B0 H0 : Hp) (sds : List SD) (os : List (Addr × OV)) (E : DE) (st : Stmt) : Prop :=
  ∀ A B H σ, Ex A B → St X.K B0 H0 B H σ sds os → wS X st (E.ends X.K B0 H0 A) σ H

/-! ### the context: the names by slot, the scope -/
structure Ctx (X : Cx) (N : List PySem.Str) (S : Scope) : Prop where
  hN : X.N = N
  hS : X.env.scope = S
  nd : N.Nodup
  calm : X.calm = true
structure CtxD (X : Cx) (N : List PySem.Str) (S : Scope) : Prop extends Ctx X N S where
  fn : ∀ x, X.fn x = true
def visB (S : Scope) (x : PySem.Str) : Bool := match S.names.lookup x with
  | some .local => true
  | some .cell => true
  | some .free => true
  | _ => false
def locB (S : Scope) (x : PySem.Str) : Bool := match S.names.lookup x with
  | some .local => true
  | some .cell => true
  | _ => false
def glB (S : Scope) (x : PySem.Str) : Bool := match S.names.lookup x with
  | some .globalImplicit => true
  | _ => false
section
variable {X : Cx} {N : List PySem.Str} {S : Scope} {x : PySem.Str}
theorem Ctx.vis (c : Ctx X N S) (h : visB S x = true) : Vis X.env.scope x := by
  unfold visB at h
  rw [c.hS]
  unfold Vis
  split at h <;> first | (rename_i e; rw [e]; simp) | cases h
theorem Ctx.loc (c : Ctx X N S) (h : locB S x = true) : L2.Loc X.env.scope x := by
  unfold locB at h
  rw [c.hS]
  unfold L2.Loc
  split at h <;> first | (rename_i e; rw [e]; simp) | cases h
theorem CtxD.locf (c : CtxD X N S) : X.fn x = true ∨ X.env.scope.names.lookup x = some .local := .inl (c.fn x)
theorem Ctx.gl (c : Ctx X N S) (h : glB S x = true) : Gl X x := by
  unfold glB at h
  unfold Gl Env.kindOf
  rw [c.hS]
  split at h <;> first | (rename_i e; rw [e]) | cases h
end

/-! ### rules: expressions -/
section
variable {X : Cx} {N : List PySem.Str} {S : Scope} {B0 H0 : Hp} {sds : List SD} {os : List (Addr × OV)} {P : D → Prop} {pos : Pos}
theorem EX.imp {e : Expr} {P' : D → Prop} (h : EX X B0 H0 sds os e P) (i : ∀ d, P d → P' d) : EX X B0 H0 sds os e P' := fun B H σ s Q q => h B H σ s Q fun v B' H' d g hv hp => q v B' H' d g hv (i d hp)
theorem ex_var (c : Ctx X N S) (i : Nat) {x : PySem.Str} {d : D} (p : P d) (hs : sds[i]? = some (.d d) := by rfl) (hN : N[i]? = some x := by rfl) (hv : visB S x = true := by decide +kernel)
    (hd : (x == ("__debug__" : PySem.Str)) = false := by decide +kernel) (hcd : (x == ("__classdict__" : PySem.Str)) = false := by decide +kernel) : EX X B0 H0 sds os (.Name x pos) P := fun B H σ s Q q => by
  obtain ⟨v, e1, hi⟩ := s.var hs
  exact PE.to (pe_var (i := i) (by rw [c.hN]; exact hN) (c.vis hv) hd hcd) ⟨v, e1, q v B H d (Grow.refl s.g.bh) hi p⟩
theorem ex_int {i : Int} {j pos} (p : P (.int i)) : EX X B0 H0 sds os (.Constant (.int i) j pos) P := fun B H σ s Q q => PE.to pe_int (q _ B H _ (Grow.refl s.g.bh) (.int i) p)
theorem ex_bl {i : Bool} {j pos} (p : P (.bl i)) : EX X B0 H0 sds os (.Constant (.bool i) j pos) P := fun B H σ s Q q => PE.to pe_bl (q _ B H _ (Grow.refl s.g.bh) (.bl i) p)
theorem ex_str {i : PySem.Str} {j pos} (p : P (.str i)) : EX X B0 H0 sds os (.Constant (.str i) j pos) P := fun B H σ s Q q => PE.to pe_str (q _ B H _ (Grow.refl s.g.bh) (.str i) p)
theorem ex_non {j pos} (p : P .non) : EX X B0 H0 sds os (.Constant .none j pos) P := fun B H σ s Q q => PE.to pe_non (q _ B H _ (Grow.refl s.g.bh) .non p)
/-- what an operation on values makes of data -/
def OpD (K : PySem.W.Frag) (r : R2) (a b : D) (P : D → Prop) : Prop := ∀ B H v w, Ex B H → Is K B v a → Is K B w b → ∀ Q : VK, (∀ u B' H' d, Grow B H B' H' → Is K B' u d → P d → Q u H') → r v w H Q
theorem ex_bin {a b : Expr} {op : Operator} {r : R2} (ho : OpR X (binaryOp op) r) (h : EX X B0 H0 sds os a fun da => EX X B0 H0 sds os b fun db => OpD X.K r da db P) : EX X B0 H0 sds os (.BinOp a op b pos) P := fun B H σ s Q q =>
  PE.to (pe_op ho pe_w pe_w) (h B H σ s _ fun v B1 H1 d g1 i1 k => k B1 H1 σ (s.grow g1) _ fun w B2 H2 d' g2 i2 k2 => k2 B2 H2 v w g2.bh (i1.mono g2.b) i2 Q fun u B3 H3 d3 g3 i3 p3 => q u B3 H3 d3 ((g1.trans g2).trans g3) i3 p3)
theorem ex_cmp {a b : Expr} {op : CmpOp} {r : R2} (ho : OpR X (compareOp op) r) (hm : behindInMarks op b = false) (h : EX X B0 H0 sds os a fun da => EX X B0 H0 sds os b fun db => OpD X.K r da db P) : EX X B0 H0 sds os (.Compare a [op] [b] pos) P := fun B H σ s Q q =>
  PE.to (pe_cmpR ho pe_w pe_w hm) (h B H σ s _ fun v B1 H1 d g1 i1 k => k B1 H1 σ (s.grow g1) _ fun w B2 H2 d' g2 i2 k2 => k2 B2 H2 v w g2.bh (i1.mono g2.b) i2 Q fun u B3 H3 d3 g3 i3 p3 => q u B3 H3 d3 ((g1.trans g2).trans g3) i3 p3)
theorem opd_I0 {K : PySem.W.Frag} {g : Int → Int → V} {f : Int → Int → D} {i j : Int} (hg : ∀ B i j, Is K B (g i j) (f i j)) (p : P (f i j)) : OpD K (rI0 g) (.int i) (.int j) P := fun B H v w e h1 h2 Q q => by
  cases h1; cases h2
  exact ⟨i, j, rfl, rfl, q _ B H _ (Grow.refl e) (hg B i j) p⟩
theorem opd_I {K : PySem.W.Frag} {C : Int → Int → Prop} {g : Int → Int → V} {f : Int → Int → D} {i j : Int} (hg : ∀ B i j, Is K B (g i j) (f i j)) (c : C i j) (p : P (f i j)) : OpD K (rI C g) (.int i) (.int j) P := fun B H v w e h1 h2 Q q => by
  cases h1; cases h2
  exact ⟨i, j, rfl, rfl, c, q _ B H _ (Grow.refl e) (hg B i j) p⟩
end
end OB
set_option Elab.async false
set_option linter.all false
set_option maxRecDepth 100000
set_option maxHeartbeats 4000000
namespace OB
open PySem PySem.Spec PyProof.Rows L2
section
variable {X : Cx} {N : List PySem.Str} {S : Scope} {B0 H0 : Hp} {sds : List SD} {os : List (Addr × OV)} {P : D → Prop} {pos : Pos} {a b e : Expr} {es rest : List Expr}

/-! ### ints -/
theorem ex_addI (h : EX X B0 H0 sds os a fun da => ∃ i, da = .int i ∧ EX X B0 H0 sds os b fun db => ∃ j, db = .int j ∧ P (.int (i + j))) : EX X B0 H0 sds os (.BinOp a .Add b pos) P :=
  ex_bin op_add (h.imp fun _ ⟨i, e, k⟩ => k.imp fun _ ⟨j, e', p⟩ => by subst e; subst e'; exact opd_I0 (fun _ _ _ => .int _) p)
theorem ex_subI (h : EX X B0 H0 sds os a fun da => ∃ i, da = .int i ∧ EX X B0 H0 sds os b fun db => ∃ j, db = .int j ∧ P (.int (i - j))) : EX X B0 H0 sds os (.BinOp a .Sub b pos) P :=
  ex_bin op_sub (h.imp fun _ ⟨i, e, k⟩ => k.imp fun _ ⟨j, e', p⟩ => by subst e; subst e'; exact opd_I0 (fun _ _ _ => .int _) p)
theorem ex_mulI (h : EX X B0 H0 sds os a fun da => ∃ i, da = .int i ∧ EX X B0 H0 sds os b fun db => ∃ j, db = .int j ∧ CMul i j ∧ P (.int (i * j))) : EX X B0 H0 sds os (.BinOp a .Mult b pos) P :=
  ex_bin op_mul (h.imp fun _ ⟨i, e, k⟩ => k.imp fun _ ⟨j, e', c, p⟩ => by subst e; subst e'; exact opd_I (fun _ _ _ => .int _) c p)
theorem ex_modI (h : EX X B0 H0 sds os a fun da => ∃ i, da = .int i ∧ EX X B0 H0 sds os b fun db => ∃ j, db = .int j ∧ 0 < j ∧ P (.int (i % j))) : EX X B0 H0 sds os (.BinOp a .Mod b pos) P :=
  ex_bin op_mod (h.imp fun _ ⟨i, e, k⟩ => k.imp fun _ ⟨j, e', c, p⟩ => by subst e; subst e'; exact opd_I (fun _ _ _ => .int _) c p)
theorem ex_divI (h : EX X B0 H0 sds os a fun da => ∃ i, da = .int i ∧ EX X B0 H0 sds os b fun db => ∃ j, db = .int j ∧ CDiv i j ∧ P (.int (i / j))) : EX X B0 H0 sds os (.BinOp a .FloorDiv b pos) P :=
  ex_bin op_fdiv (h.imp fun _ ⟨i, e, k⟩ => k.imp fun _ ⟨j, e', c, p⟩ => by subst e; subst e'; exact opd_I (fun _ _ _ => .int _) c p)
theorem ex_shl (h : EX X B0 H0 sds os a fun da => ∃ i, da = .int i ∧ EX X B0 H0 sds os b fun db => ∃ j, db = .int j ∧ CPow i j ∧ P (.int (i * 2 ^ j.toNat))) : EX X B0 H0 sds os (.BinOp a .LShift b pos) P :=
  ex_bin op_shl (h.imp fun _ ⟨i, e, k⟩ => k.imp fun _ ⟨j, e', c, p⟩ => by subst e; subst e'; exact opd_I (fun _ _ _ => .int _) c p)
theorem ex_shr (h : EX X B0 H0 sds os a fun da => ∃ i, da = .int i ∧ EX X B0 H0 sds os b fun db => ∃ j, db = .int j ∧ 0 ≤ j ∧ P (.int (i / 2 ^ j.toNat))) : EX X B0 H0 sds os (.BinOp a .RShift b pos) P :=
  ex_bin op_shr (h.imp fun _ ⟨i, e, k⟩ => k.imp fun _ ⟨j, e', c, p⟩ => by subst e; subst e'; exact opd_I (fun _ _ _ => .int _) c p)
theorem ex_andI (h : EX X B0 H0 sds os a fun da => ∃ i, da = .int i ∧ EX X B0 H0 sds os b fun db => ∃ j, db = .int j ∧ P (.int (Builtin.bitAnd i j))) : EX X B0 H0 sds os (.BinOp a .BitAnd b pos) P :=
  ex_bin op_and (h.imp fun _ ⟨i, e, k⟩ => k.imp fun _ ⟨j, e', p⟩ => by subst e; subst e'; exact opd_I0 (fun _ _ _ => .int _) p)
theorem ex_orI (h : EX X B0 H0 sds os a fun da => ∃ i, da = .int i ∧ EX X B0 H0 sds os b fun db => ∃ j, db = .int j ∧ P (.int (Builtin.bitOr i j))) : EX X B0 H0 sds os (.BinOp a .BitOr b pos) P :=
  ex_bin op_or (h.imp fun _ ⟨i, e, k⟩ => k.imp fun _ ⟨j, e', p⟩ => by subst e; subst e'; exact opd_I0 (fun _ _ _ => .int _) p)
theorem ex_unI {op : UnaryOp} {g : Int → Int} (ho : UnR X (unaryOp op) (rU fun i => .int (g i))) (h : EX X B0 H0 sds os a fun da => ∃ i, da = .int i ∧ P (.int (g i))) : EX X B0 H0 sds os (.UnaryOp op a pos) P := fun B H σ s Q q =>
  PE.to (pe_un ho pe_w) (h B H σ s _ fun v B1 H1 d g1 i1 ⟨i, e, p⟩ => by
    subst e; cases i1
    exact ⟨i, rfl, q _ B1 H1 _ g1 (.int _) p⟩)
theorem ex_neg (h : EX X B0 H0 sds os a fun da => ∃ i, da = .int i ∧ P (.int (-i))) : EX X B0 H0 sds os (.UnaryOp .USub a pos) P := ex_unI un_neg h
theorem ex_inv (h : EX X B0 H0 sds os a fun da => ∃ i, da = .int i ∧ P (.int (Builtin.bitNot i))) : EX X B0 H0 sds os (.UnaryOp .Invert a pos) P := ex_unI un_inv h

/-! ### comparisons as values, as tests -/
/-- the answer of a comparison -/
def CmpD (K : PySem.W.Frag) (r : R2) (da db : D) (P : Bool → Prop) : Prop := OpD K r da db fun d => ∃ k, d = .bl k ∧ P k
theorem ex_cmpB {op : CmpOp} {r : R2} (ho : OpR X (compareOp op) r) (hm : behindInMarks op b = false) (h : EX X B0 H0 sds os a fun da => EX X B0 H0 sds os b fun db => CmpD X.K r da db fun k => P (.bl k)) : EX X B0 H0 sds os (.Compare a [op] [b] pos) P :=
  ex_cmp ho hm (h.imp fun _ k => k.imp fun _ c => fun B H v w e h1 h2 Q q => c B H v w e h1 h2 Q fun u B' H' d g i ⟨k, e', p⟩ => q u B' H' d g i (by subst e'; exact p))
theorem tx_cmp {op : CmpOp} {r : R2} {P : Bool → Prop} (ho : OpR X (compareOp op) r) (hm : behindInMarks op b = false) (h : EX X B0 H0 sds os a fun da => EX X B0 H0 sds os b fun db => CmpD X.K r da db P) : TX X B0 H0 sds os (.Compare a [op] [b] pos) P := fun B H σ s Q q =>
  PT.to (pt_cmpR ho pe_w pe_w hm) (h B H σ s _ fun v B1 H1 d g1 i1 k => k B1 H1 σ (s.grow g1) _ fun w B2 H2 d' g2 i2 k2 => k2 B2 H2 v w g2.bh (i1.mono g2.b) i2 _ fun u B3 H3 d3 g3 i3 ⟨c, e, p3⟩ => by
    subst e; cases i3
    exact ⟨c, rfl, q c B3 H3 ((g1.trans g2).trans g3) p3⟩)
theorem cmp_I0 {K : PySem.W.Frag} {g : Int → Int → Bool} {i j : Int} {P : Bool → Prop} (p : P (g i j)) : CmpD K (rI0 fun i j => .bl (g i j)) (.int i) (.int j) P := opd_I0 (fun _ _ _ => .bl _) ⟨_, rfl, p⟩
theorem cmp_eqI {K : PySem.W.Frag} {i j : Int} {P : Bool → Prop} (p : P (decide (i = j))) : CmpD K rEq (.int i) (.int j) P := fun B H v w e h1 h2 Q q => by
  cases h1; cases h2
  have e' : decide (V.int i = V.int j) = decide (i = j) := by rw [dec_int]; exact Bool.eq_iff_iff.mpr (by simp)
  exact ⟨rfl, by rw [e']; exact q _ B H _ (Grow.refl e) (.bl _) ⟨_, rfl, p⟩⟩
theorem cmp_neI {K : PySem.W.Frag} {i j : Int} {P : Bool → Prop} (p : P (!decide (i = j))) : CmpD K rNe (.int i) (.int j) P := fun B H v w e h1 h2 Q q => by
  cases h1; cases h2
  have e' : decide (V.int i = V.int j) = decide (i = j) := by rw [dec_int]; exact Bool.eq_iff_iff.mpr (by simp)
  exact ⟨rfl, by rw [e']; exact q _ B H _ (Grow.refl e) (.bl _) ⟨_, rfl, p⟩⟩
theorem cmp_eqB {K : PySem.W.Frag} {i j : Bool} {P : Bool → Prop} (p : P (decide (i = j))) : CmpD K rEq (.bl i) (.bl j) P := fun B H v w e h1 h2 Q q => by
  cases h1; cases h2
  have e' : decide (V.bl i = V.bl j) = decide (i = j) := by rw [dec_bl]; exact Bool.eq_iff_iff.mpr (by simp)
  exact ⟨rfl, by rw [e']; exact q _ B H _ (Grow.refl e) (.bl _) ⟨_, rfl, p⟩⟩
theorem cmp_neB {K : PySem.W.Frag} {i j : Bool} {P : Bool → Prop} (p : P (!decide (i = j))) : CmpD K rNe (.bl i) (.bl j) P := fun B H v w e h1 h2 Q q => by
  cases h1; cases h2
  have e' : decide (V.bl i = V.bl j) = decide (i = j) := by rw [dec_bl]; exact Bool.eq_iff_iff.mpr (by simp)
  exact ⟨rfl, by rw [e']; exact q _ B H _ (Grow.refl e) (.bl _) ⟨_, rfl, p⟩⟩
theorem ex_eqI (h : EX X B0 H0 sds os a fun da => ∃ i, da = .int i ∧ EX X B0 H0 sds os b fun db => ∃ j, db = .int j ∧ P (.bl (decide (i = j)))) : EX X B0 H0 sds os (.Compare a [.Eq] [b] pos) P :=
  ex_cmpB op_eq (nomark _) (h.imp fun _ ⟨i, e, k⟩ => k.imp fun _ ⟨j, e', p⟩ => by subst e; subst e'; exact cmp_eqI p)
theorem ex_neI (h : EX X B0 H0 sds os a fun da => ∃ i, da = .int i ∧ EX X B0 H0 sds os b fun db => ∃ j, db = .int j ∧ P (.bl (!decide (i = j)))) : EX X B0 H0 sds os (.Compare a [.NotEq] [b] pos) P :=
  ex_cmpB op_ne (nomark _) (h.imp fun _ ⟨i, e, k⟩ => k.imp fun _ ⟨j, e', p⟩ => by subst e; subst e'; exact cmp_neI p)
theorem ex_ltI (h : EX X B0 H0 sds os a fun da => ∃ i, da = .int i ∧ EX X B0 H0 sds os b fun db => ∃ j, db = .int j ∧ P (.bl (decide (i < j)))) : EX X B0 H0 sds os (.Compare a [.Lt] [b] pos) P :=
  ex_cmpB op_lt (nomark _) (h.imp fun _ ⟨i, e, k⟩ => k.imp fun _ ⟨j, e', p⟩ => by subst e; subst e'; exact cmp_I0 p)
theorem ex_leI (h : EX X B0 H0 sds os a fun da => ∃ i, da = .int i ∧ EX X B0 H0 sds os b fun db => ∃ j, db = .int j ∧ P (.bl (decide (i ≤ j)))) : EX X B0 H0 sds os (.Compare a [.LtE] [b] pos) P :=
  ex_cmpB op_le (nomark _) (h.imp fun _ ⟨i, e, k⟩ => k.imp fun _ ⟨j, e', p⟩ => by subst e; subst e'; exact cmp_I0 p)
theorem tx_eqI {P : Bool → Prop} (h : EX X B0 H0 sds os a fun da => ∃ i, da = .int i ∧ EX X B0 H0 sds os b fun db => ∃ j, db = .int j ∧ P (decide (i = j))) : TX X B0 H0 sds os (.Compare a [.Eq] [b] pos) P :=
  tx_cmp op_eq (nomark _) (h.imp fun _ ⟨i, e, k⟩ => k.imp fun _ ⟨j, e', p⟩ => by subst e; subst e'; exact cmp_eqI p)
theorem tx_neI {P : Bool → Prop} (h : EX X B0 H0 sds os a fun da => ∃ i, da = .int i ∧ EX X B0 H0 sds os b fun db => ∃ j, db = .int j ∧ P (!decide (i = j))) : TX X B0 H0 sds os (.Compare a [.NotEq] [b] pos) P :=
  tx_cmp op_ne (nomark _) (h.imp fun _ ⟨i, e, k⟩ => k.imp fun _ ⟨j, e', p⟩ => by subst e; subst e'; exact cmp_neI p)
theorem tx_ltI {P : Bool → Prop} (h : EX X B0 H0 sds os a fun da => ∃ i, da = .int i ∧ EX X B0 H0 sds os b fun db => ∃ j, db = .int j ∧ P (decide (i < j))) : TX X B0 H0 sds os (.Compare a [.Lt] [b] pos) P :=
  tx_cmp op_lt (nomark _) (h.imp fun _ ⟨i, e, k⟩ => k.imp fun _ ⟨j, e', p⟩ => by subst e; subst e'; exact cmp_I0 p)
theorem tx_leI {P : Bool → Prop} (h : EX X B0 H0 sds os a fun da => ∃ i, da = .int i ∧ EX X B0 H0 sds os b fun db => ∃ j, db = .int j ∧ P (decide (i ≤ j))) : TX X B0 H0 sds os (.Compare a [.LtE] [b] pos) P :=
  tx_cmp op_le (nomark _) (h.imp fun _ ⟨i, e, k⟩ => k.imp fun _ ⟨j, e', p⟩ => by subst e; subst e'; exact cmp_I0 p)
theorem tx_gtI {P : Bool → Prop} (h : EX X B0 H0 sds os a fun da => ∃ i, da = .int i ∧ EX X B0 H0 sds os b fun db => ∃ j, db = .int j ∧ P (decide (j < i))) : TX X B0 H0 sds os (.Compare a [.Gt] [b] pos) P :=
  tx_cmp op_gt (nomark _) (h.imp fun _ ⟨i, e, k⟩ => k.imp fun _ ⟨j, e', p⟩ => by subst e; subst e'; exact cmp_I0 p)
theorem tx_geI {P : Bool → Prop} (h : EX X B0 H0 sds os a fun da => ∃ i, da = .int i ∧ EX X B0 H0 sds os b fun db => ∃ j, db = .int j ∧ P (decide (j ≤ i))) : TX X B0 H0 sds os (.Compare a [.GtE] [b] pos) P :=
  tx_cmp op_ge (nomark _) (h.imp fun _ ⟨i, e, k⟩ => k.imp fun _ ⟨j, e', p⟩ => by subst e; subst e'; exact cmp_I0 p)
theorem ex_gtI (h : EX X B0 H0 sds os a fun da => ∃ i, da = .int i ∧ EX X B0 H0 sds os b fun db => ∃ j, db = .int j ∧ P (.bl (decide (j < i)))) : EX X B0 H0 sds os (.Compare a [.Gt] [b] pos) P :=
  ex_cmpB op_gt (nomark _) (h.imp fun _ ⟨i, e, k⟩ => k.imp fun _ ⟨j, e', p⟩ => by subst e; subst e'; exact cmp_I0 p)
theorem ex_geI (h : EX X B0 H0 sds os a fun da => ∃ i, da = .int i ∧ EX X B0 H0 sds os b fun db => ∃ j, db = .int j ∧ P (.bl (decide (j ≤ i)))) : EX X B0 H0 sds os (.Compare a [.GtE] [b] pos) P :=
  ex_cmpB op_ge (nomark _) (h.imp fun _ ⟨i, e, k⟩ => k.imp fun _ ⟨j, e', p⟩ => by subst e; subst e'; exact cmp_I0 p)
/-- a < b < c on ints, as a value; the operators by their answers -/
theorem ex_chainI {c : Expr} {op op' : CmpOp} {g g' : Int → Int → Bool} (ho : OpR X (compareOp op) (rI0 fun i j => .bl (g i j))) (ho' : OpR X (compareOp op') (rI0 fun i j => .bl (g' i j)))
    (h : EX X B0 H0 sds os a fun da => ∃ i, da = .int i ∧ EX X B0 H0 sds os b fun db => ∃ j, db = .int j ∧ (g i j = true → EX X B0 H0 sds os c fun dc => ∃ k, dc = .int k ∧ P (.bl (g' j k))) ∧ (g i j = false → P (.bl false)))
    (hm : lastMarks [op, op'] [b, c] = false := by with_unfolding_all rfl) : EX X B0 H0 sds os (.Compare a [op, op'] [b, c] pos) P := fun B H σ s Q q =>
  PE.to (pe_chain ho ho' pe_w pe_w pe_w hm) (h B H σ s _ fun v B1 H1 d g1 i1 ⟨i, e1, k⟩ => k B1 H1 σ (s.grow g1) _ fun w B2 H2 d' g2 i2 ⟨j, e2, k1, k2⟩ => by
    subst e1; subst e2; cases i1; cases i2
    refine ⟨i, j, rfl, rfl, g i j, rfl, ?_⟩
    cases hg : g i j with
    | true =>
      rw [if_pos rfl]
      refine k1 hg B2 H2 σ ((s.grow g1).grow g2) _ fun z B3 H3 d3 g3 i3 ⟨k, e3, p⟩ => ?_
      subst e3; cases i3
      exact ⟨j, k, rfl, rfl, q _ B3 H3 _ ((g1.trans g2).trans g3) (.bl _) p⟩
    | false =>
      rw [if_neg Bool.false_ne_true]
      exact q _ B2 H2 _ (g1.trans g2) (.bl _) (k2 hg))

/-! ### tests -/
theorem TX.imp {P P' : Bool → Prop} (h : TX X B0 H0 sds os e P) (i : ∀ d, P d → P' d) : TX X B0 H0 sds os e P' := fun B H σ s Q q => h B H σ s Q fun b B' H' g p => q b B' H' g (i b p)
theorem tx_val {P : Bool → Prop} (h : EX X B0 H0 sds os e fun d => ∃ k, d = .bl k ∧ P k) (he : ∀ whole, isTrue e X.env whole = (do let v ← whole; standAt e.pos; holding [v] (truthy v)) := by intro _; rfl) : TX X B0 H0 sds os e P := fun B H σ s Q q =>
  PT.to (pt_val pe_w he) (h B H σ s _ fun v B1 H1 d g1 i1 ⟨k, e1, p⟩ => by
    subst e1; cases i1
    exact ⟨k, rfl, q k B1 H1 g1 p⟩)
theorem tx_not {P : Bool → Prop} (h : TX X B0 H0 sds os e fun k => P (!k)) : TX X B0 H0 sds os (.UnaryOp .Not e pos) P := fun B H σ s Q q =>
  PT.to (pt_not pt_w) (h B H σ s _ fun k B1 H1 g1 p => q _ B1 H1 g1 p)
/-- truth of a value -/
def TruD : D → Bool → Prop
  | .non, k => k = false
  | .bl b, k => k = b
  | .int i, k => k = (i != 0)
  | .lst l, k => k = !l.isEmpty
  | .tup l, k => k = !l.isEmpty
  | .tpk l, k => k = !l.isEmpty
  | _, _ => False
theorem isEmpty_all {K : PySem.W.Frag} {B : Hp} {l : List D} {xs : List V} (h : IsAll K B xs l) : xs.isEmpty = l.isEmpty := by
  cases h <;> rfl
theorem tx_tru {P : Bool → Prop} (h : EX X B0 H0 sds os e fun d => ∃ k, TruD d k ∧ P k) (he : ∀ whole, isTrue e X.env whole = (do let v ← whole; standAt e.pos; holding [v] (truthy v)) := by intro _; rfl) : TX X B0 H0 sds os e P := fun B H σ s Q q =>
  PT.to (pt_truth pe_w he) (h B H σ s _ fun v B1 H1 d g1 i1 ⟨k, t, p⟩ => by
    refine ⟨k, ?_, q k B1 H1 g1 p⟩
    cases i1 with
    | non => exact t
    | bl b => exact t
    | int i => exact t
    | str x => exact t.elim
    | lst hs ha => exact .inl ⟨_, SqL.of (g1.bh _ _ hs), by rw [isEmpty_all ha]; exact t⟩
    | tup hs ha => exact .inr (.inl ⟨_, SqT.of (g1.bh _ _ hs), by rw [isEmpty_all ha]; exact t⟩)
    | ins hs ha => exact t.elim
    | drw hs => exact t.elim
    | dct _ _ => exact t.elim
    | dck _ _ => exact t.elim
    | rng _ => exact t.elim
    | tpk h1 h2 h3 h4 h5 ha => exact .inr (.inl ⟨_, .inr ⟨_, _, _, h1, h2, h3, h4, h5⟩, by rw [isEmpty_all ha]; exact t⟩))
theorem tx_and {P : Bool → Prop} (h : TX X B0 H0 sds os a fun k => (k = true → WX X B0 H0 sds os (.BoolOp .And (b :: rest) pos) P) ∧ (k = false → P false)) : WX X B0 H0 sds os (.BoolOp .And (a :: b :: rest) pos) P := fun B H σ s Q q =>
  PW.to (pw_and pt_w pw_w) (h B H σ s _ fun k B1 H1 g1 ⟨p1, p2⟩ => by
    cases k with
    | true => rw [if_pos rfl]; exact p1 rfl B1 H1 σ (s.grow g1) Q fun k2 B2 H2 g2 p => q k2 B2 H2 (g1.trans g2) p
    | false => rw [if_neg Bool.false_ne_true]; exact q _ B1 H1 g1 (p2 rfl))
theorem tx_and1 {P : Bool → Prop} (h : TX X B0 H0 sds os a P) : WX X B0 H0 sds os (.BoolOp .And [a] pos) P := fun B H σ s Q q => PW.to (pw_and1 pt_w) (h B H σ s _ q)
theorem tx_or {P : Bool → Prop} (h : TX X B0 H0 sds os a fun k => (k = false → WX X B0 H0 sds os (.BoolOp .Or (b :: rest) pos) P) ∧ (k = true → P true)) : WX X B0 H0 sds os (.BoolOp .Or (a :: b :: rest) pos) P := fun B H σ s Q q =>
  PW.to (pw_or pt_w pw_w) (h B H σ s _ fun k B1 H1 g1 ⟨p1, p2⟩ => by
    cases k with
    | false => rw [if_neg Bool.false_ne_true]; exact p1 rfl B1 H1 σ (s.grow g1) Q fun k2 B2 H2 g2 p => q k2 B2 H2 (g1.trans g2) p
    | true => rw [if_pos rfl]; exact q _ B1 H1 g1 (p2 rfl))
theorem tx_or1 {P : Bool → Prop} (h : TX X B0 H0 sds os a P) : WX X B0 H0 sds os (.BoolOp .Or [a] pos) P := fun B H σ s Q q => PW.to (pw_or1 pt_w) (h B H σ s _ q)
theorem tx_w {P : Bool → Prop} (h : WX X B0 H0 sds os e P) : TX X B0 H0 sds os e P := fun B H σ s Q q => PT.to (PW.pt pw_w) (h B H σ s _ q)
/-- the same told by the answers -/
theorem wx_and {P : Bool → Prop} {k1 k2 : Bool} (h1 : TX X B0 H0 sds os a (· = k1)) (h2 : k1 = true → WX X B0 H0 sds os (.BoolOp .And (b :: rest) pos) (· = k2)) (p : P (k1 && k2)) : WX X B0 H0 sds os (.BoolOp .And (a :: b :: rest) pos) P :=
  tx_and (h1.imp fun k e => by
    subst e
    refine ⟨fun e => ?_, fun e => ?_⟩
    · intro B H σ s Q q
      refine h2 e B H σ s Q fun k3 B' H' g e3 => q k3 B' H' g ?_
      rw [e, Bool.true_and] at p
      rw [e3]; exact p
    · rw [e, Bool.false_and] at p; exact p)
theorem wx_or {P : Bool → Prop} {k1 k2 : Bool} (h1 : TX X B0 H0 sds os a (· = k1)) (h2 : k1 = false → WX X B0 H0 sds os (.BoolOp .Or (b :: rest) pos) (· = k2)) (p : P (k1 || k2)) : WX X B0 H0 sds os (.BoolOp .Or (a :: b :: rest) pos) P :=
  tx_or (h1.imp fun k e => by
    subst e
    refine ⟨fun e => ?_, fun e => ?_⟩
    · intro B H σ s Q q
      refine h2 e B H σ s Q fun k3 B' H' g e3 => q k3 B' H' g ?_
      rw [e, Bool.false_or] at p
      rw [e3]; exact p
    · rw [e, Bool.true_or] at p; exact p)
/-- and, or, not as values -/
theorem ex_and (h : EX X B0 H0 sds os a fun d => ∃ k, d = .bl k ∧ (k = true → EX X B0 H0 sds os (.BoolOp .And (b :: rest) pos) P) ∧ (k = false → P (.bl false))) : EX X B0 H0 sds os (.BoolOp .And (a :: b :: rest) pos) P := fun B H σ s Q q =>
  PE.to (pe_and pe_w pe_w) (h B H σ s _ fun v B1 H1 d g1 i1 ⟨k, e, p1, p2⟩ => by
    subst e; cases i1
    refine ⟨k, rfl, ?_⟩
    cases k with
    | true => rw [if_pos rfl]; exact p1 rfl B1 H1 σ (s.grow g1) Q fun v2 B2 H2 d2 g2 i2 p => q v2 B2 H2 d2 (g1.trans g2) i2 p
    | false => rw [if_neg Bool.false_ne_true]; exact q _ B1 H1 _ g1 (.bl _) (p2 rfl))
theorem ex_or (h : EX X B0 H0 sds os a fun d => ∃ k, d = .bl k ∧ (k = false → EX X B0 H0 sds os (.BoolOp .Or (b :: rest) pos) P) ∧ (k = true → P (.bl true))) : EX X B0 H0 sds os (.BoolOp .Or (a :: b :: rest) pos) P := fun B H σ s Q q =>
  PE.to (pe_or pe_w pe_w) (h B H σ s _ fun v B1 H1 d g1 i1 ⟨k, e, p1, p2⟩ => by
    subst e; cases i1
    refine ⟨k, rfl, ?_⟩
    cases k with
    | false => rw [if_neg Bool.false_ne_true]; exact p1 rfl B1 H1 σ (s.grow g1) Q fun v2 B2 H2 d2 g2 i2 p => q v2 B2 H2 d2 (g1.trans g2) i2 p
    | true => rw [if_pos rfl]; exact q _ B1 H1 _ g1 (.bl _) (p2 rfl))
theorem ex_one {op : BoolOp} (h : EX X B0 H0 sds os a P) : EX X B0 H0 sds os (.BoolOp op [a] pos) P := fun B H σ s Q q => PE.to (pe_one pe_w) (h B H σ s Q q)
theorem ex_not (h : EX X B0 H0 sds os a fun d => ∃ k, d = .bl k ∧ P (.bl (!k))) : EX X B0 H0 sds os (.UnaryOp .Not a pos) P := fun B H σ s Q q =>
  PE.to (pe_not pe_w) (h B H σ s _ fun v B1 H1 d g1 i1 ⟨k, e, p⟩ => by
    subst e; cases i1
    exact ⟨k, rfl, q _ B1 H1 _ g1 (.bl _) p⟩)
theorem ex_andV {k1 k2 : Bool} (h1 : EX X B0 H0 sds os a (· = .bl k1)) (h2 : k1 = true → EX X B0 H0 sds os (.BoolOp .And (b :: rest) pos) (· = .bl k2)) (p : P (.bl (k1 && k2))) : EX X B0 H0 sds os (.BoolOp .And (a :: b :: rest) pos) P :=
  ex_and (h1.imp fun d e => ⟨k1, e, fun e1 => (h2 e1).imp fun d2 e2 => by subst e2; rw [e1, Bool.true_and] at p; exact p, fun e1 => by rw [e1, Bool.false_and] at p; exact p⟩)
theorem ex_orV {k1 k2 : Bool} (h1 : EX X B0 H0 sds os a (· = .bl k1)) (h2 : k1 = false → EX X B0 H0 sds os (.BoolOp .Or (b :: rest) pos) (· = .bl k2)) (p : P (.bl (k1 || k2))) : EX X B0 H0 sds os (.BoolOp .Or (a :: b :: rest) pos) P :=
  ex_or (h1.imp fun d e => ⟨k1, e, fun e1 => (h2 e1).imp fun d2 e2 => by subst e2; rw [e1, Bool.false_or] at p; exact p, fun e1 => by rw [e1, Bool.true_or] at p; exact p⟩)
theorem ex_ifExp {c : Expr} (h : TX X B0 H0 sds os c fun k => (k = true → EX X B0 H0 sds os a P) ∧ (k = false → EX X B0 H0 sds os b P)) : EX X B0 H0 sds os (.IfExp c a b pos) P := fun B H σ s Q q =>
  PE.to (pe_ifExp pt_w pe_w pe_w) (h B H σ s _ fun k B1 H1 g1 ⟨p1, p2⟩ => by
    cases k with
    | true => rw [if_pos rfl]; exact p1 rfl B1 H1 σ (s.grow g1) Q fun v2 B2 H2 d2 g2 i2 p => q v2 B2 H2 d2 (g1.trans g2) i2 p
    | false => rw [if_neg Bool.false_ne_true]; exact p2 rfl B1 H1 σ (s.grow g1) Q fun v2 B2 H2 d2 g2 i2 p => q v2 B2 H2 d2 (g1.trans g2) i2 p)

/-! ### argument lists, displays -/
theorem EA.imp {P P' : List D → Prop} (h : EA X B0 H0 sds os es P) (i : ∀ d, P d → P' d) : EA X B0 H0 sds os es P' := fun B H σ s Q q => h B H σ s Q fun v B' H' d g hv hp => q v B' H' d g hv (i d hp)
theorem ea_nil {P : List D → Prop} (p : P []) : EA X B0 H0 sds os [] P := fun B H σ s Q q => PA.to pa_nil (q [] B H [] (Grow.refl s.g.bh) .nil p)
theorem ea_cons {P : List D → Prop} (h : EX X B0 H0 sds os e fun d => EA X B0 H0 sds os es fun ds => P (d :: ds)) (hs : starEach (e :: es) X.env = (false, eval e X.env) :: starEach es X.env := by rfl) : EA X B0 H0 sds os (e :: es) P := fun B H σ s Q q =>
  PA.to (pa_cons pe_w pa_w hs) (h B H σ s _ fun v B1 H1 d g1 i1 k => k B1 H1 σ (s.grow g1) _ fun vs B2 H2 ds g2 i2 p => q (v :: vs) B2 H2 (d :: ds) (g1.trans g2) (.cons (i1.mono g2.b) i2) p)
theorem lenOk {K : PySem.W.Frag} {B : Hp} {vs : List V} {ds : List D} (h : IsAll K B vs ds) (l : ds.length ≤ 100000) : vs.length ≤ sizeLine := by rw [h.len]; exact Nat.le_trans l (by decide)
theorem ex_tup {x1} (h : EA X B0 H0 sds os es fun ds => ds.length ≤ 100000 ∧ P (.tup ds)) : EX X B0 H0 sds os (.Tuple es x1 pos) P := fun B H σ s Q q =>
  PE.to (pe_tup pa_w) (h B H σ s _ fun vs B1 H1 ds g1 i1 ⟨l, p⟩ => ⟨lenOk i1 l, fun p' hp => by
    have g2 := Grow.new (o := .tup vs) g1.bh hp
    exact q _ _ _ (.tup ds) (g1.trans g2) (.tup upd_same (IsAll.mono g2.b _ _ i1)) p⟩)
theorem el_lst {P : List D → Prop} (h : EA X B0 H0 sds os es fun ds => ds.length ≤ 100000 ∧ P ds) : EL X B0 H0 sds os (.List es pos) P := fun B H σ s Q q =>
  PE.to (pe_lst pa_w) (h B H σ s _ fun vs B1 H1 ds g1 i1 ⟨l, p⟩ => ⟨lenOk i1 l, fun p' hp => by
    exact q p' vs B1 _ ds ⟨g1.b, g1.h.trans (Evl.Ex.new hp), g1.bh.trans (Evl.Ex.new hp), g1.fr⟩ (Evl.fresh_back g1.h hp) (Evl.fresh_back g1.bh hp) upd_same i1 p⟩)
/-- a new list, not owned -/
theorem ex_ofL (h : EL X B0 H0 sds os e fun l => P (.lst l)) : EX X B0 H0 sds os e P := fun B H σ s Q q => h B H σ s Q fun p xs B1 H1 l g1 hp bp h1 i1 pl => by
  have e1 : Ex B1 (upd B1 p (.lst xs)) := Evl.Ex.new bp
  refine q _ (upd B1 p (.lst xs)) H1 _ ⟨g1.b.trans e1, g1.h, ex_join g1.bh h1, fun a ha => ?_⟩ (.lst upd_same (IsAll.mono e1 _ _ i1)) pl
  by_cases hb : a = p
  · subst hb; exact .inr (.inl hp)
  · rw [upd_ne hb] at ha; exact g1.fr a ha
theorem EL.imp {P P' : List D → Prop} (h : EL X B0 H0 sds os e P) (i : ∀ d, P d → P' d) : EL X B0 H0 sds os e P' := fun B H σ s Q q => h B H σ s Q fun p xs B' H' l g h1 h2 h3 h4 pl => q p xs B' H' l g h1 h2 h3 h4 (i l pl)

/-! ### items -/
def IxD (d : D) (i : Int) (P : D → Prop) : Prop := match d with
  | .lst l => ∃ (j : Nat) (x : D), i = (j : Int) ∧ l[j]? = some x ∧ P x
  | .tup l => ∃ (j : Nat) (x : D), i = (j : Int) ∧ l[j]? = some x ∧ P x
  | .tpk l => ∃ (j : Nat) (x : D), i = (j : Int) ∧ l[j]? = some x ∧ P x
  | _ => False
theorem ex_ix (h : EX X B0 H0 sds os a fun d => EX X B0 H0 sds os b fun db => ∃ i, db = .int i ∧ IxD d i P) (hs : PlainIx b := by exact fun _ _ => rfl) : EX X B0 H0 sds os (.Subscript a b pos) P := fun B H σ s Q q =>
  PE.to (pe_ix ix_seq pe_w pe_w hs) (h B H σ s _ fun v B1 H1 d g1 i1 k => k B1 H1 σ (s.grow g1) _ fun w B2 H2 d' g2 i2 ⟨i, e, kx⟩ => by
    subst e; cases i2
    cases i1 with
    | lst hs ha =>
      obtain ⟨j, x, rfl, hj, p⟩ := kx
      obtain ⟨y, hy, iy⟩ := ha.get hj
      exact .inl ⟨_, _, _, y, rfl, rfl, SqL.of (g2.bh _ _ (g2.b _ _ hs)), atI_nat hy, q y B2 H2 x (g1.trans g2) (iy.mono g2.b) p⟩
    | tup hs ha =>
      obtain ⟨j, x, rfl, hj, p⟩ := kx
      obtain ⟨y, hy, iy⟩ := ha.get hj
      exact .inr (.inl ⟨_, _, _, y, rfl, rfl, SqT.of (g2.bh _ _ (g2.b _ _ hs)), atI_nat hy, q y B2 H2 x (g1.trans g2) (iy.mono g2.b) p⟩)
    | non => exact kx.elim
    | bl _ => exact kx.elim
    | int _ => exact kx.elim
    | str _ => exact kx.elim
    | ins _ _ => exact kx.elim
    | drw _ => exact kx.elim
    | dct _ _ => exact kx.elim
    | dck _ _ => exact kx.elim
    | rng _ => exact kx.elim
    | tpk h1 h2 h3 h4 h5 ha =>
      obtain ⟨j, x, rfl, hj, p⟩ := kx
      obtain ⟨y, hy, iy⟩ := ha.get hj
      exact .inr (.inl ⟨_, _, _, y, rfl, rfl, .inr ⟨_, _, _, h1, h2, h3, h4, h5⟩, atI_nat hy, q y B2 H2 x (g1.trans g2) (iy.mono g2.b) p⟩))
/-! ### attributes -/
theorem ex_fld {f : PySem.Str} (h : EX X B0 H0 sds os a fun d => ∃ C fs x, d = .ins C fs ∧ Cls X.K C ∧ NoAttr X.K C f ∧ fs.lookup f = some x ∧ P x) (hb : attributeBase a f X.env (eval a X.env) = eval a X.env := by rfl) : EX X B0 H0 sds os (.Attribute a f pos) P := fun B H σ s Q q =>
  PE.to (pe_fld pe_w hb) (h B H σ s _ fun v B1 H1 d g1 i1 ⟨C, fs, x, e, c, na, hl, p⟩ => by
    subst e
    cases i1 with
    | ins hs ha =>
      obtain ⟨y, hy, iy⟩ := ha.look hl
      exact ⟨_, C, _, _, y, rfl, g1.bh _ _ hs, c, na, hy, q y B1 H1 x g1 iy p⟩)
end
end OB
set_option Elab.async false
set_option linter.all false
set_option maxRecDepth 100000
set_option maxHeartbeats 4000000
namespace OB
open PySem PySem.Spec PyProof.Rows L2
/-! ### statements -/
theorem SP.imp {X : Cx} {pins : List (Addr × Obj)} {D D' : Ends} {f : Flow} {s : Shared} (h : SP X pins D f s) (h1 : ∀ σ H, D.nx σ H → D'.nx σ H) (h2 : ∀ v H, D.rt v H → D'.rt v H) (h3 : ∀ σ H, D.bk σ H → D'.bk σ H) (h4 : ∀ σ H, D.ct σ H → D'.ct σ H) : SP X pins D' f s := by
  cases f with
  | next => obtain ⟨σ, H, I, q⟩ := h; exact ⟨σ, H, I, h1 σ H q⟩
  | brk => obtain ⟨σ, H, I, q⟩ := h; exact ⟨σ, H, I, h3 σ H q⟩
  | cont => obtain ⟨σ, H, I, q⟩ := h; exact ⟨σ, H, I, h4 σ H q⟩
  | ret u => obtain ⟨v, σ, H, I, r, q⟩ := h; exact ⟨v, σ, H, I, r, h2 v H q⟩
theorem wS.imp {X : Cx} {st : Stmt} {D D' : Ends} {σ : L2.St} {H : Hp} (h : wS X st D σ H) (h1 : ∀ σ H, D.nx σ H → D'.nx σ H) (h2 : ∀ v H, D.rt v H → D'.rt v H) (h3 : ∀ σ H, D.bk σ H → D'.bk σ H) (h4 : ∀ σ H, D.ct σ H → D'.ct σ H) : wS X st D' σ H :=
  ⟨fun pins s I => thn (h.run pins s I) fun _ _ q => SP.imp q h1 h2 h3 h4⟩
theorem wSs.imp {X : Cx} {st : List Stmt} {D D' : Ends} {σ : L2.St} {H : Hp} (h : wSs X st D σ H) (h1 : ∀ σ H, D.nx σ H → D'.nx σ H) (h2 : ∀ v H, D.rt v H → D'.rt v H) (h3 : ∀ σ H, D.bk σ H → D'.bk σ H) (h4 : ∀ σ H, D.ct σ H → D'.ct σ H) : wSs X st D' σ H :=
  ⟨fun pins s I => thn (h.run pins s I) fun _ _ q => SP.imp q h1 h2 h3 h4⟩
section
variable {X : Cx} {N : List PySem.Str} {S : Scope} {B0 H0 : Hp} {sds : List SD} {os : List (Addr × OV)} {E : DE} {pos : Pos} {a b e : Expr} {es : List Expr} {st : Stmt} {rest body : List Stmt}
theorem go_nil (h : E.nx sds os) : Go X B0 H0 sds os E [] := fun A B H σ ea s => PSs.to pss_nil ⟨B, sds, os, ea, s, h⟩
theorem go_cons (h : Go1 X B0 H0 sds os { E with nx := fun sds' os' => Go X B0 H0 sds' os' E rest } st) : Go X B0 H0 sds os E (st :: rest) := fun A B H σ ea s => by
  refine PSs.to (pss_cons ps_w pss_w) ?_
  refine wS.imp (h A B H σ ea s) (fun σ' H' ⟨B', sds', os', ea', s', k⟩ => k A B' H' σ' ea' s') (fun v H' q => q) (fun σ' H' q => q) (fun σ' H' q => q)
/-- a word between two statements: what follows is shown once -/
theorem go_cut (M : List SD → List (Addr × OV) → Prop) (h : Go1 X B0 H0 sds os { E with nx := M } st) (k : ∀ sds' os', M sds' os' → Go X B0 H0 sds' os' E rest) : Go X B0 H0 sds os E (st :: rest) := fun A B H σ ea s => by
  refine PSs.to (pss_cons ps_w pss_w) ?_
  refine wS.imp (h A B H σ ea s) (fun σ' H' ⟨B', sds', os', ea', s', m⟩ => k sds' os' m A B' H' σ' ea' s') (fun v H' q => q) (fun σ' H' q => q) (fun σ' H' q => q)
theorem Go1.imp {E' : DE} (h : Go1 X B0 H0 sds os E st) (h1 : ∀ s o, E.nx s o → E'.nx s o) (h2 : ∀ d, E.rt d → E'.rt d) (h3 : ∀ s o, E.bk s o → E'.bk s o) (h4 : ∀ s o, E.ct s o → E'.ct s o) : Go1 X B0 H0 sds os E' st := fun A B H σ ea s =>
  wS.imp (h A B H σ ea s) (fun _ _ ⟨B, s, o, e, t, q⟩ => ⟨B, s, o, e, t, h1 s o q⟩) (fun _ _ ⟨B, d, e, t, i, q⟩ => ⟨B, d, e, t, i, h2 d q⟩) (fun _ _ ⟨B, s, o, e, t, q⟩ => ⟨B, s, o, e, t, h3 s o q⟩) (fun _ _ ⟨B, s, o, e, t, q⟩ => ⟨B, s, o, e, t, h4 s o q⟩)
theorem Go.imp {E' : DE} {sts : List Stmt} (h : Go X B0 H0 sds os E sts) (h1 : ∀ s o, E.nx s o → E'.nx s o) (h2 : ∀ d, E.rt d → E'.rt d) (h3 : ∀ s o, E.bk s o → E'.bk s o) (h4 : ∀ s o, E.ct s o → E'.ct s o) : Go X B0 H0 sds os E' sts := fun A B H σ ea s =>
  wSs.imp (h A B H σ ea s) (fun _ _ ⟨B, s, o, e, t, q⟩ => ⟨B, s, o, e, t, h1 s o q⟩) (fun _ _ ⟨B, d, e, t, i, q⟩ => ⟨B, d, e, t, i, h2 d q⟩) (fun _ _ ⟨B, s, o, e, t, q⟩ => ⟨B, s, o, e, t, h3 s o q⟩) (fun _ _ ⟨B, s, o, e, t, q⟩ => ⟨B, s, o, e, t, h4 s o q⟩)
theorem g1_ret (h : EX X B0 H0 sds os e E.rt) : Go1 X B0 H0 sds os E (.Return (some e) pos) := fun A B H σ ea s =>
  PS.to (ps_ret pe_w) (h B H σ s _ fun v B1 H1 d g1 i1 p => ⟨B1, d, ea.trans g1.b, (s.grow g1).g, i1, p⟩)
theorem g1_retN (h : E.rt .non) : Go1 X B0 H0 sds os E (.Return none pos) := fun A B H σ ea s =>
  PS.to ps_retN ⟨B, .non, ea, s.g, .non, h⟩
theorem g1_pass (h : E.nx sds os) : Go1 X B0 H0 sds os E (.Pass pos) := fun A B H σ ea s => PS.to ps_pass ⟨B, sds, os, ea, s, h⟩
theorem g1_break (h : E.bk sds os) : Go1 X B0 H0 sds os E (.Break pos) := fun A B H σ ea s => PS.to ps_break ⟨B, sds, os, ea, s, h⟩
theorem g1_cont (h : E.ct sds os) : Go1 X B0 H0 sds os E (.Continue pos) := fun A B H σ ea s => PS.to ps_continue ⟨B, sds, os, ea, s, h⟩
theorem g1_expr (h : EX X B0 H0 sds os e fun _ => E.nx sds os) (hs : swapsWith e none pos.line X.env = pure false := by rfl) : Go1 X B0 H0 sds os E (.Expr e pos) := fun A B H σ ea s =>
  PS.to (ps_expr pe_w hs) (h B H σ s _ fun v B1 H1 d g1 i1 p => ⟨B1, sds, os, ea.trans g1.b, s.grow g1, p⟩)
theorem g1_if {c : Expr} {t f : List Stmt} (h : TX X B0 H0 sds os c fun k => (k = true → Go X B0 H0 sds os E t) ∧ (k = false → Go X B0 H0 sds os E f)) : Go1 X B0 H0 sds os E (.If c t f pos) := fun A B H σ ea s =>
  PS.to (ps_if pt_w pss_w pss_w) (h B H σ s _ fun k B1 H1 g1 ⟨p1, p2⟩ => by
    cases k with
    | true => rw [if_pos rfl]; exact p1 rfl A B1 H1 σ (ea.trans g1.b) (s.grow g1)
    | false => rw [if_neg Bool.false_ne_true]; exact p2 rfl A B1 H1 σ (ea.trans g1.b) (s.grow g1))
theorem g1_asg (c : CtxD X N S) (i : Nat) {x : PySem.Str} {pos' : Pos} (h : EX X B0 H0 sds os e fun d => E.nx (sds.set i (.d d)) os) (hN : N[i]? = some x := by rfl) (hv : locB S x = true := by decide +kernel)
    (hs : swapsWith e (some (.Name x pos')) pos.line X.env = pure false := by rfl) : Go1 X B0 H0 sds os E (.Assign [.Name x pos'] e pos) := fun A B H σ ea s =>
  PS.to (ps_set (i := i) (by rw [c.hN]; exact c.nd) (by rw [c.hN]; exact hN) (c.toCtx.loc hv) pe_w hs c.locf) (h B H σ s _ fun v B1 H1 d g1 i1 p => ⟨B1, _, _, ea.trans g1.b, (s.grow g1).set i1, p⟩)
theorem St.add {K : PySem.W.Frag} {B H : Hp} {σ : L2.St} (s : St K B0 H0 B H σ sds os) {p : Addr} {ov : OV} (bp : B p = none) (hp : H0 p = none) (hf : fpt (p, ov) = [p]) (hn : p ∉ os.flatMap fpt) (ho : Own K B H (p, ov)) {i : Nat} : St K B0 H0 B H (σ.set i (some (.ref p))) (sds.set i (.v (.ref p))) ((p, ov) :: os) := by
  refine ⟨s.g, s.sl.set rfl, fun e he => ?_, fun a ha => ?_, ?_⟩
  · rcases List.mem_cons.mp he with z | z
    · subst z; exact ho
    · exact s.ow e z
  · rw [List.flatMap_cons, hf] at ha
    rcases List.mem_append.mp ha with z | z
    · have z := List.mem_singleton.mp z
      subst z; exact ⟨bp, hp⟩
    · exact s.fr a z
  · rw [List.flatMap_cons, hf]
    exact List.nodup_cons.mpr ⟨hn, s.nd⟩
theorem St.notin {K : PySem.W.Frag} {B H : Hp} {σ : L2.St} (s : St K B0 H0 B H σ sds os) {p : Addr} (hp : H p = none) : p ∉ os.flatMap fpt := fun ha => by
  obtain ⟨e, he, hm⟩ := List.mem_flatMap.mp ha
  obtain ⟨u, hu⟩ := (s.ow e he).at hm
  rw [hp] at hu; cases hu.1
/-- a new list that we own -/
theorem g1_asgO (c : CtxD X N S) (i : Nat) {x : PySem.Str} {pos' : Pos} (h : EL X B0 H0 sds os e fun l => ∀ p, E.nx (sds.set i (.v (.ref p))) ((p, .lst l) :: os)) (hN : N[i]? = some x := by rfl) (hv : locB S x = true := by decide +kernel)
    (hs : swapsWith e (some (.Name x pos')) pos.line X.env = pure false := by rfl) : Go1 X B0 H0 sds os E (.Assign [.Name x pos'] e pos) := fun A B H σ ea s =>
  PS.to (ps_set (i := i) (by rw [c.hN]; exact c.nd) (by rw [c.hN]; exact hN) (c.toCtx.loc hv) pe_w hs c.locf) (h B H σ s _ fun p xs B1 H1 l g1 hp bp h1 i1 k =>
    ⟨B1, _, _, ea.trans g1.b, (s.grow g1).add (ov := .lst l) bp (Evl.fresh_back s.g.h hp) rfl (s.notin hp) ⟨xs, h1, i1⟩, k p⟩)
/-- a, b = a pair -/
theorem g1_asg2 (c : CtxD X N S) (i j : Nat) {x y : PySem.Str} {p1 p2 pt : Pos} {kk} (h : EX X B0 H0 sds os e fun d => ∃ u v, d = .tup [u, v] ∧ E.nx ((sds.set i (.d u)).set j (.d v)) os) (hN : N[i]? = some x := by rfl) (hv : locB S x = true := by decide +kernel) (hN2 : N[j]? = some y := by rfl) (hv2 : locB S y = true := by decide +kernel)
    (hs : swapsWithSole [.Tuple [.Name x p1, .Name y p2] kk pt] e pos.line X.env = pure false := by rfl) (hw : swappedStores [.Tuple [.Name x p1, .Name y p2] kk pt] e X.env = pure none := by rfl)
    (h1 : (assignEach [.Tuple [.Name x p1, .Name y p2] kk pt] X.env).map (·.2) = [assign (.Tuple [.Name x p1, .Name y p2] kk pt) X.env] := by rfl) : Go1 X B0 H0 sds os E (.Assign [.Tuple [.Name x p1, .Name y p2] kk pt] e pos) := fun A B H σ ea s => by
  have nd : X.N.Nodup := by rw [c.hN]; exact c.nd
  refine PS.to (ps_asg pe_w (pg_tup c.calm (pgs_cons (pg_name (i := i) nd (by rw [c.hN]; exact hN) (c.toCtx.loc hv) c.locf) (pgs_cons (pg_name (i := j) nd (by rw [c.hN]; exact hN2) (c.toCtx.loc hv2) c.locf) pgs_nil))) hs hw h1) ?_
  refine h B H σ s _ fun w B1 H1 d g1 i1 ⟨u, v, e1, k⟩ => ?_
  subst e1
  cases i1 with
  | tup hs ha =>
    cases ha with
    | cons q1 r =>
      cases r with
      | cons q2 r =>
        cases r
        refine ⟨_, _, rfl, SqT.of (g1.bh _ _ hs), rfl, _, _, rfl, _, _, rfl, rfl, ?_⟩
        exact ⟨B1, _, _, ea.trans g1.b, ((s.grow g1).set q1).set q2, k⟩
/-- the list that we own becomes the base's -/
theorem St.freeze {K : PySem.W.Frag} {B H : Hp} {σ : L2.St} {p : Addr} {l : List D} {os1 os2 : List (Addr × OV)} (s : St K B0 H0 B H σ sds (os1 ++ (p, .lst l) :: os2)) {i : Nat} (hi : sds[i]? = some (.v (.ref p))) :
    ∃ B', Ex B B' ∧ St K B0 H0 B' H σ (sds.set i (.d (.lst l))) (os1 ++ os2) := by
  obtain ⟨xs, hp, ha⟩ := s.ow (p, .lst l) (by simp)
  have fp := s.fr p (by simp [fpt])
  have e1 : Ex B (upd B p (.lst xs)) := Evl.Ex.new fp.1
  have nd := s.nd
  rw [List.flatMap_append, List.flatMap_cons, show fpt (p, OV.lst l) = [p] from rfl] at nd
  have nd2 := List.nodup_append.mp nd
  have np : p ∉ (os1 ++ os2).flatMap fpt := fun hm => by
    rw [List.flatMap_append] at hm
    rcases List.mem_append.mp hm with z | z
    · exact nd2.2.2 p z p (by simp) rfl
    · exact (List.nodup_cons.mp nd2.2.1).1 z
  refine ⟨_, e1, ⟨s.g.b.trans e1, s.g.h, ex_join s.g.bh hp, fun a h => ?_⟩, ⟨by rw [List.length_set]; exact s.sl.len, fun j sd q => ?_⟩, fun e he => ?_, fun a ha => ?_, ?_⟩
  · by_cases hb : a = p
    · subst hb; exact .inr (.inl fp.2)
    · rw [upd_ne hb] at h; exact s.g.fr a h
  · by_cases hj : i = j
    · subst hj
      have hl : i < sds.length := (List.getElem?_eq_some_iff.mp hi).1
      rw [List.getElem?_set_self hl] at q
      cases q
      exact ⟨.ref p, s.varV hi, .lst upd_same (IsAll.mono e1 _ _ ha)⟩
    · rw [List.getElem?_set_ne hj] at q
      exact (s.sl.at' j sd q).mono e1
  · refine (s.ow e ?_).mono e1 (Evl.Ex.refl _)
    rcases List.mem_append.mp he with z | z
    · exact List.mem_append_left _ z
    · exact List.mem_append_right _ (List.mem_cons_of_mem _ z)
  · have hap : a ≠ p := fun z => np (z ▸ ha)
    rw [upd_ne hap]
    refine s.fr a ?_
    rw [List.flatMap_append] at ha ⊢
    rw [List.flatMap_cons]
    rcases List.mem_append.mp ha with z | z
    · exact List.mem_append_left _ z
    · exact List.mem_append_right _ (List.mem_append_right _ z)
  · rw [List.flatMap_append]
    refine List.nodup_append.mpr ⟨nd2.1, (List.nodup_cons.mp nd2.2.1).2, fun x hx y hy => nd2.2.2 x hx y (List.mem_cons_of_mem _ hy)⟩
theorem split_at {α : Type} : ∀ {l : List α} {j : Nat} {x : α}, l[j]? = some x → l = l.take j ++ x :: l.drop (j + 1)
  | [], _, _, h => by simp at h
  | a :: l, 0, x, h => by simp at h; subst h; simp
  | a :: l, j + 1, x, h => by
    have ih := split_at (l := l) (j := j) (x := x) (by simpa using h)
    show a :: l = a :: (l.take j ++ x :: l.drop (j + 1))
    rw [← ih]
theorem erase_at {α : Type} : ∀ {l : List α} {j : Nat}, l.eraseIdx j = l.take j ++ l.drop (j + 1)
  | [], _ => by simp
  | a :: l, 0 => by simp
  | a :: l, j + 1 => by
    show a :: l.eraseIdx j = a :: (l.take j ++ l.drop (j + 1))
    rw [erase_at]
theorem set_at {α : Type} {y : α} : ∀ {l : List α} {j : Nat} {x : α}, l[j]? = some x → l.set j y = l.take j ++ y :: l.drop (j + 1)
  | [], _, _, h => by simp at h
  | a :: l, 0, x, h => by simp
  | a :: l, j + 1, x, h => by
    show a :: l.set j y = a :: (l.take j ++ y :: l.drop (j + 1))
    rw [set_at (x := x) (by simpa using h)]
theorem St.freezeAt {K : PySem.W.Frag} {B H : Hp} {σ : L2.St} {p : Addr} {l : List D} (s : St K B0 H0 B H σ sds os) {i j : Nat} (hj : os[j]? = some (p, .lst l)) (hi : sds[i]? = some (.v (.ref p))) :
    ∃ B', Ex B B' ∧ St K B0 H0 B' H σ (sds.set i (.d (.lst l))) (os.eraseIdx j) := by
  rw [split_at hj] at s
  rw [erase_at]
  exact s.freeze hi
theorem go_freeze (i j : Nat) {p : Addr} {l : List D} {sts : List Stmt} (h : Go X B0 H0 (sds.set i (.d (.lst l))) (os.eraseIdx j) E sts) (hj : os[j]? = some (p, .lst l) := by rfl) (hi : sds[i]? = some (.v (.ref p)) := by rfl) : Go X B0 H0 sds os E sts := fun A B H σ ea s => by
  obtain ⟨B', e1, s'⟩ := s.freezeAt hj hi
  exact h A B' H σ (ea.trans e1) s'
/-- an owned list read in an expression whose value is plain -/
def plain : D → Bool
  | .non => true | .bl _ => true | .int _ => true | .str _ => true
  | _ => false
theorem Is.plain {K : PySem.W.Frag} {B B' : Hp} {v : V} {d : D} (h : Is K B v d) (p : plain d = true) : Is K B' v d := by
  cases h with
  | non => exact .non
  | bl b => exact .bl b
  | int b => exact .int b
  | str b => exact .str b
  | lst _ _ => cases p
  | tup _ _ => cases p
  | ins _ _ => cases p
  | drw _ => cases p
  | dct _ _ => cases p
  | dck _ _ => cases p
  | rng _ => cases p
  | tpk _ _ _ _ _ _ => cases p
theorem ex_borrow (i j : Nat) {p : Addr} {l : List D} {P : D → Prop} (h : EX X B0 H0 (sds.set i (.d (.lst l))) (os.eraseIdx j) e fun d => plain d = true ∧ P d) (hj : os[j]? = some (p, .lst l) := by rfl) (hi : sds[i]? = some (.v (.ref p)) := by rfl) : EX X B0 H0 sds os e P := fun B H σ s Q q => by
  obtain ⟨B', e1, s'⟩ := s.freezeAt hj hi
  refine h B' H σ s' Q fun v B2 H2 d g2 i2 ⟨pl, pp⟩ => ?_
  exact q v B H2 d (Grow.up s.g.bh g2.h) (i2.plain pl) pp
theorem tx_borrow (i j : Nat) {p : Addr} {l : List D} {P : Bool → Prop} (h : TX X B0 H0 (sds.set i (.d (.lst l))) (os.eraseIdx j) e P) (hj : os[j]? = some (p, .lst l) := by rfl) (hi : sds[i]? = some (.v (.ref p)) := by rfl) : TX X B0 H0 sds os e P := fun B H σ s Q q => by
  obtain ⟨B', e1, s'⟩ := s.freezeAt hj hi
  refine h B' H σ s' Q fun v B2 H2 g2 pp => q v B H2 (Grow.up s.g.bh g2.h) pp
/-- an owned list's object is changed -/
theorem St.put {K : PySem.W.Frag} {B H : Hp} {σ : L2.St} {p : Addr} {l l' : List D} {os1 os2 : List (Addr × OV)} (s : St K B0 H0 B H σ sds (os1 ++ (p, .lst l) :: os2)) {xs : List V} (ha : IsAll K B xs l') : St K B0 H0 B (upd H p (.lst xs)) σ sds (os1 ++ (p, .lst l') :: os2) := by
  have fp := s.fr p (by simp [fpt])
  have nd := s.nd
  rw [List.flatMap_append, List.flatMap_cons, show fpt (p, OV.lst l) = [p] from rfl] at nd
  have nd2 := List.nodup_append.mp nd
  have np : ∀ e ∈ os1 ++ os2, p ∉ fpt e := fun e he hm => by
    rcases List.mem_append.mp he with z | z
    · exact nd2.2.2 p (List.mem_flatMap.mpr ⟨e, z, hm⟩) p (by simp) rfl
    · exact (List.nodup_cons.mp nd2.2.1).1 (List.mem_flatMap.mpr ⟨e, z, hm⟩)
  have keep : ∀ a o, a ≠ p → H a = some o → upd H p (.lst xs) a = some o := fun a o hn q => by rw [upd_ne hn]; exact q
  have rows : ∀ {rs : List Addr} {M : List (List D)}, Rows K B H rs M → (∀ a ∈ rs, a ≠ p) → Rows K B (upd H p (.lst xs)) rs M := by
    intro rs M h
    induction h with
    | nil => intro _; exact .nil
    | cons h1 h2 h3 ih => intro hn; exact .cons (keep _ _ (hn _ (by simp)) h1) h2 (ih fun a ha => hn a (List.mem_cons_of_mem _ ha))
  have other : ∀ e ∈ os1 ++ os2, Own K B (upd H p (.lst xs)) e := fun e he => by
    have hn := np e he
    have ho := s.ow e (by
      rcases List.mem_append.mp he with z | z
      · exact List.mem_append_left _ z
      · exact List.mem_append_right _ (List.mem_cons_of_mem _ z))
    obtain ⟨q, ov⟩ := e
    cases ov with
    | lst l => obtain ⟨ys, h1, h2⟩ := ho; exact ⟨ys, keep _ _ (fun z => hn (by simp [fpt, z])) h1, h2⟩
    | dct l => obtain ⟨ys, h1, h2⟩ := ho; exact ⟨ys, keep _ _ (fun z => hn (by simp [fpt, z])) h1, h2⟩
    | dck l => obtain ⟨ys, h1, h2⟩ := ho; exact ⟨ys, keep _ _ (fun z => hn (by simp [fpt, z])) h1, h2⟩
    | ins C dx fs => obtain ⟨ys, h1, h2⟩ := ho; exact ⟨ys, keep _ _ (fun z => hn (by simp [fpt, z])) h1, h2⟩
    | mat rs M => obtain ⟨h1, h2⟩ := ho; exact ⟨keep _ _ (fun z => hn (by simp [fpt, z])) h1, rows h2 fun a ha z => hn (by rw [← z]; simp [fpt, ha])⟩
  have fl : (os1 ++ (p, OV.lst l') :: os2).flatMap fpt = (os1 ++ (p, OV.lst l) :: os2).flatMap fpt := by
    rw [List.flatMap_append, List.flatMap_append, List.flatMap_cons, List.flatMap_cons] <;> rfl
  refine ⟨⟨s.g.b, s.g.h.mut fp.2, Evl.Ex.mut s.g.bh fp.1, s.g.fr⟩, s.sl, fun e he => ?_, fun a ha => s.fr a (fl ▸ ha), fl ▸ s.nd⟩
  rcases List.mem_append.mp he with z | z
  · exact other e (List.mem_append_left _ z)
  · rcases List.mem_cons.mp z with z | z
    · subst z; exact ⟨xs, upd_same, ha⟩
    · exact other e (List.mem_append_right _ z)
theorem St.putAt {K : PySem.W.Frag} {B H : Hp} {σ : L2.St} {p : Addr} {l l' : List D} {j : Nat} (s : St K B0 H0 B H σ sds os) (hj : os[j]? = some (p, .lst l)) {xs : List V} (ha : IsAll K B xs l') : St K B0 H0 B (upd H p (.lst xs)) σ sds (os.set j (p, .lst l')) := by
  rw [set_at hj]
  rw [split_at hj] at s
  exact s.put ha
theorem St.ownAt {K : PySem.W.Frag} {B H : Hp} {σ : L2.St} {p : Addr} {l : List D} {j : Nat} (s : St K B0 H0 B H σ sds os) (hj : os[j]? = some (p, .lst l)) : ∃ xs, H p = some (.lst xs) ∧ IsAll K B xs l := s.ow (p, .lst l) (List.mem_of_getElem? hj)
/-- xs.append(e) of an owned list -/
theorem g1_append (c : Ctx X N S) (i j : Nat) {x : PySem.Str} {p : Addr} {l : List D} {px pa pc : Pos} (h : EX X B0 H0 sds os e fun d => l.length < 100000 ∧ E.nx sds (os.set j (p, .lst (l ++ [d])))) (hj : os[j]? = some (p, .lst l) := by rfl) (hi : sds[i]? = some (.v (.ref p)) := by rfl)
    (hN : N[i]? = some x := by rfl) (hv : visB S x = true := by decide +kernel) (hd : (x == ("__debug__" : PySem.Str)) = false := by decide +kernel) (hcd : (x == ("__classdict__" : PySem.Str)) = false := by decide +kernel)
    (hs : swapsWith (.Call (.Attribute (.Name x px) "append" pa) [e] [] pc) none pos.line X.env = pure false := by rfl)
    (hbase : attributeBase (.Name x px) "append" X.env (eval (.Name x px) X.env) = eval (.Name x px) X.env := by rfl)
    (hfew : ((backTo pc (starEach [e] X.env)).all (fun x => !x.1) && (backToKw pc (keywordEach [] X.env)).all (fun x => x.1.isSome)
      && decide ([e].length + ([] : List Keyword).length + (if ([] : List Keyword).isEmpty then 0 else 1) < 30)) = true := by rfl)
    (hline : (pa.endLine == pc.line) = true := by rfl) (hst : starEach [e] X.env = [(false, eval e X.env)] := by rfl) :
    Go1 X B0 H0 sds os E (.Expr (.Call (.Attribute (.Name x px) "append" pa) [e] [] pc) pos) := fun A B H σ ea s => by
  refine PS.to (ps_expr (pe_bm PySem.F.plainAttrs_list PySem.F.slot_list_append PySem.F.type_list_append mt_append (pe_var (i := i) (by rw [c.hN]; exact hN) (c.vis hv) hd hcd) (pa_cons pe_w pa_nil hst) hbase hfew hline hst rfl) hs) ?_
  obtain ⟨xs, hp, ha⟩ := s.ownAt hj
  refine ⟨.ref p, s.varV hi, .inl ⟨rfl, _, SqL.of hp⟩, ?_⟩
  refine h B H σ s _ fun v B1 H1 d g1 i1 ⟨hl, k⟩ => ?_
  have s1 := s.grow g1
  have ha1 := IsAll.mono g1.b _ _ ha
  refine ⟨p, xs, v, rfl, rfl, g1.h _ _ hp, by rw [ha.len]; exact Nat.lt_of_lt_of_le hl (by decide), ?_⟩
  exact ⟨B1, _, _, ea.trans g1.b, s1.putAt hj (ha1.app (.cons i1 .nil)), k⟩
/-- xs[k] = e of an owned list -/
theorem g1_setO (c : Ctx X N S) (i j : Nat) {x : PySem.Str} {p : Addr} {l : List D} {px ps : Pos} (h : EX X B0 H0 sds os e fun d => EX X B0 H0 sds os b fun di => ∃ k : Nat, di = .int (k : Int) ∧ k < l.length ∧ E.nx sds (os.set j (p, .lst (l.set k d)))) (hj : os[j]? = some (p, .lst l) := by rfl) (hi : sds[i]? = some (.v (.ref p)) := by rfl)
    (hN : N[i]? = some x := by rfl) (hv : visB S x = true := by decide +kernel) (hd : (x == ("__debug__" : PySem.Str)) = false := by decide +kernel) (hcd : (x == ("__classdict__" : PySem.Str)) = false := by decide +kernel)
    (ha : ∀ v, assign (.Subscript (.Name x px) b ps) X.env v = (do
      let ov ← holding [v] (eval (.Name x px) X.env)
      let iv ← holding [v, ov] (eval b X.env)
      standAt ps
      holding [v, ov, iv] (setItem ov iv v)
      release [v, ov, iv] []) := by intro _; rfl)
    (hs : swapsWithSole [.Subscript (.Name x px) b ps] e pos.line X.env = pure false := by rfl) (hw : swappedStores [.Subscript (.Name x px) b ps] e X.env = pure none := by rfl)
    (h1 : (assignEach [.Subscript (.Name x px) b ps] X.env).map (·.2) = [assign (.Subscript (.Name x px) b ps) X.env] := by rfl) :
    Go1 X B0 H0 sds os E (.Assign [.Subscript (.Name x px) b ps] e pos) := fun A B H σ ea s => by
  refine PS.to (ps_asg pe_w (pg_sub (pe_var (i := i) (by rw [c.hN]; exact hN) (c.vis hv) hd hcd) pe_w set_list ha) hs hw h1) ?_
  obtain ⟨xs, hp, hxs⟩ := s.ownAt hj
  refine h B H σ s _ fun v B1 H1 d g1 i1 k1 => ?_
  refine ⟨.ref p, s.varV hi, ?_⟩
  refine k1 B1 H1 σ (s.grow g1) _ fun w B2 H2 di g2 i2 ⟨k, e2, hk, kk⟩ => ?_
  subst e2; cases i2
  have s2 := (s.grow g1).grow g2
  have ha2 := IsAll.mono g2.b _ _ (IsAll.mono g1.b _ _ hxs)
  refine ⟨p, xs, _, k, rfl, rfl, g2.h _ _ (g1.h _ _ hp), Evl.ixN_nat (by rw [hxs.len]; exact hk), ?_⟩
  exact ⟨B2, _, _, (ea.trans g1.b).trans g2.b, s2.putAt hj (ha2.set (i1.mono g2.b)), kk⟩
end
end OB
set_option Elab.async false
set_option linter.all false
set_option maxRecDepth 100000
set_option maxHeartbeats 4000000
namespace OB
open PySem PySem.Spec PyProof.Rows L2

/-! ### targets -/
inductive Tg where
  | nm (i : Nat)
  | tp (is : List Nat)
  | sq (is : List Nat)
def setMany : List SD → List Nat → List D → List SD
  | sds, i :: is, u :: us => setMany (sds.set i (.d u)) is us
  | sds, _, _ => sds
def Tg.put : Tg → D → List SD → (List SD → Prop) → Prop
  | .nm i, d, sds, k => k (sds.set i (.d d))
  | .tp is, d, sds, k => ∃ us, d = .tup us ∧ us.length = is.length ∧ k (setMany sds is us)
  | .sq is, d, sds, k => ∃ us, (d = .tup us ∨ d = .lst us) ∧ us.length = is.length ∧ k (setMany sds is us)
def gNames : List Nat → TGs
  | [] => gNil
  | i :: is => gCons (gName i) (gNames is)
/-- of a tuple or of a list -/
def gSq (K : PySem.W.Frag) (n : Nat) (t : TGs) : TG := fun v σ H Q => gTup K n t v σ H Q ∨ gLst K n t v σ H Q
def Tg.r (K : PySem.W.Frag) : Tg → TG
  | .nm i => gName i
  | .tp is => gTup K is.length (gNames is)
  | .sq is => gSq K is.length (gNames is)
section
variable {K : PySem.W.Frag} {B0 H0 B H : Hp} {sds : List SD} {os : List (Addr × OV)} {Q : L2.St → Hp → Prop}
theorem names_run : ∀ (is : List Nat) (us : List D) (vs : List V) (σ : L2.St) (sds : List SD), St K B0 H0 B H σ sds os → IsAll K B vs us → us.length = is.length → (∀ σ', St K B0 H0 B H σ' (setMany sds is us) os → Q σ' H) → gNames is vs σ H Q
  | [], us, vs, σ, sds, s, h, hl, k => by
    have e : us = [] := List.length_eq_zero_iff.mp hl
    subst e
    cases h
    exact ⟨rfl, k σ s⟩
  | i :: is, [], vs, σ, sds, s, h, hl, k => by cases hl
  | i :: is, u :: us, vs, σ, sds, s, h, hl, k => by
    cases h with
    | cons h1 h2 => exact ⟨_, _, rfl, names_run is us _ _ _ (s.set h1) h2 (by simpa using hl) k⟩
theorem Tg.run {t : Tg} {v : V} {d : D} {σ : L2.St} {k : List SD → Prop} (s : St K B0 H0 B H σ sds os) (h : Is K B v d) (hp : t.put d sds k) (hq : ∀ σ' sds', St K B0 H0 B H σ' sds' os → k sds' → Q σ' H) : t.r K v σ H Q := by
  cases t with
  | nm i => exact hq _ _ (s.set h) hp
  | tp is =>
    obtain ⟨us, e, hl, kk⟩ := hp
    subst e
    cases h with
    | tup hs ha => exact ⟨_, _, rfl, SqT.of (s.g.bh _ _ hs), by rw [ha.len]; exact hl, names_run is us _ _ _ s ha hl fun σ' s' => hq σ' _ s' kk⟩
  | sq is =>
    obtain ⟨us, e, hl, kk⟩ := hp
    rcases e with e | e
    · subst e
      cases h with
      | tup hs ha => exact .inl ⟨_, _, rfl, SqT.of (s.g.bh _ _ hs), by rw [ha.len]; exact hl, names_run is us _ _ _ s ha hl fun σ' s' => hq σ' _ s' kk⟩
    · subst e
      cases h with
      | lst hs ha => exact .inr ⟨_, _, rfl, SqL.of (s.g.bh _ _ hs), by rw [ha.len]; exact hl, names_run is us _ _ _ s ha hl fun σ' s' => hq σ' _ s' kk⟩
end
section
variable {X : Cx} {N : List PySem.Str} {S : Scope} {x : PySem.Str} {px pos : Pos}
theorem tg_nm (c : CtxD X N S) (i : Nat) (hN : N[i]? = some x := by rfl) (hv : locB S x = true := by decide +kernel) : PG X (.Name x px) ((Tg.nm i).r X.K) :=
  pg_name (by rw [c.hN]; exact c.nd) (by rw [c.hN]; exact hN) (c.toCtx.loc hv) c.locf
theorem tgs_nil : PGs X [] (gNames []) := pgs_nil
theorem tgs_cons (c : CtxD X N S) {es : List Expr} {is : List Nat} (i : Nat) (h : PGs X es (gNames is)) (hN : N[i]? = some x := by rfl) (hv : locB S x = true := by decide +kernel) (hs : (assignEach (.Name x px :: es) X.env).map (·.2) = assign (.Name x px) X.env :: (assignEach es X.env).map (·.2) := by rfl) : PGs X (.Name x px :: es) (gNames (i :: is)) :=
  pgs_cons (pg_name (by rw [c.hN]; exact c.nd) (by rw [c.hN]; exact hN) (c.toCtx.loc hv) c.locf) h hs
theorem tg_tp (c : CtxD X N S) {es : List Expr} {kk : Nat} {is : List Nat} (h : PGs X es (gNames is)) (hn : (assignEach es X.env).length = is.length := by rfl) (hst : (assignEach es X.env).findIdx? (·.1) = none := by rfl) : PG X (.Tuple es kk pos) ((Tg.tp is).r X.K) := pg_tup c.calm h hn hst
/-- .. within a comprehension: the names are the block's locals -/
def lclB (S : Scope) (x : PySem.Str) : Bool := match S.names.lookup x with
  | some .local => true
  | _ => false
theorem Ctx.lcl (c : Ctx X N S) (h : lclB S x = true) : X.env.scope.names.lookup x = some .local := by
  unfold lclB at h
  rw [c.hS]
  split at h
  · rename_i e; exact e
  · cases h
theorem tb_nm (c : Ctx X N S) (i : Nat) (hN : N[i]? = some x := by rfl) (hv : lclB S x = true := by decide +kernel) : PG X (.Name x px) ((Tg.nm i).r X.K) :=
  pg_name (by rw [c.hN]; exact c.nd) (by rw [c.hN]; exact hN) (.inl (c.lcl hv)) (.inr (c.lcl hv))
theorem tbs_cons (c : Ctx X N S) {es : List Expr} {is : List Nat} (i : Nat) (h : PGs X es (gNames is)) (hN : N[i]? = some x := by rfl) (hv : lclB S x = true := by decide +kernel) (hs : (assignEach (.Name x px :: es) X.env).map (·.2) = assign (.Name x px) X.env :: (assignEach es X.env).map (·.2) := by rfl) : PGs X (.Name x px :: es) (gNames (i :: is)) :=
  pgs_cons (pg_name (by rw [c.hN]; exact c.nd) (by rw [c.hN]; exact hN) (.inl (c.lcl hv)) (.inr (c.lcl hv))) h hs
theorem tb_tp (c : Ctx X N S) {es : List Expr} {kk : Nat} {is : List Nat} (h : PGs X es (gNames is)) (hn : (assignEach es X.env).length = is.length := by rfl) (hst : (assignEach es X.env).findIdx? (·.1) = none := by rfl) : PG X (.Tuple es kk pos) ((Tg.tp is).r X.K) := pg_tup c.calm h hn hst
end

section
variable {X : Cx} {N : List PySem.Str} {S : Scope} {pos : Pos}
/-- names for the items of a tuple or of a list -/
theorem tg_sq (hc : X.calm = true) {es : List Expr} {kk : Nat} {is : List Nat} (h : PGs X es (gNames is)) (hn : (assignEach es X.env).length = is.length := by rfl) (hst : (assignEach es X.env).findIdx? (·.1) = none := by rfl) : PG X (.Tuple es kk pos) ((Tg.sq is).r X.K) :=
  ⟨fun pins s σ H v u Q I r hw => hw.elim (fun z => (pg_tup hc h hn hst).run pins s σ H v u Q I r z) fun z => (pg_lst hc h hn hst).run pins s σ H v u Q I r z⟩
end
/-! ### what is walked -/
structure Walk (K : PySem.W.Frag) (J : It) (B : Hp) (l : List D) : Prop where
  go : ∀ k H, Ex B H → k < l.length → J.go k H
  stop : ∀ k H, Ex B H → l.length ≤ k → J.stop k H
  yld : ∀ k B1 H1 v H2, Ex B B1 → Ex B1 H1 → k < l.length → J.yld k H1 v H2 → ∃ d B2, l[k]? = some d ∧ Grow B1 H1 B2 H2 ∧ Is K B2 v d
/-- e may be walked, its items are the data l -/
def IX (X : Cx) (B0 H0 : Hp) (sds : List SD) (os : List (Addr × OV)) (tg e : Expr) (P : List D → Prop) : Prop :=
  ∃ wi : TI, PI X tg e wi ∧ ∀ B H σ, St X.K B0 H0 B H σ sds os → ∀ R : It → Hp → Prop, (∀ J B' H' l, Grow B H B' H' → P l → Walk X.K J B' l → R J H') → wi σ H R
section
variable {X : Cx} {N : List PySem.Str} {S : Scope} {B0 H0 : Hp} {sds : List SD} {os : List (Addr × OV)} {E : DE} {pos : Pos} {a b e tg : Expr} {es : List Expr} {st : Stmt} {rest body : List Stmt} {P : List D → Prop}
theorem ix_list (h : EX X B0 H0 sds os e fun d => ∃ l, d = .lst l ∧ P l) : IX X B0 H0 sds os tg e P := ⟨_, pi_list pe_w, fun B H σ s R q => h B H σ s _ fun v B1 H1 d g1 i1 ⟨l, e1, p⟩ => by
  subst e1
  cases i1 with
  | @lst a xs _ hs ha =>
    refine ⟨a, rfl, ⟨xs, SqL.of (g1.bh _ _ hs)⟩, q _ B1 H1 l g1 p ⟨fun k H hb hk => ?_, fun k H hb hk => ?_, fun k B2 H2 v H3 hb hb2 hk hy => ?_⟩⟩
    · obtain ⟨v, hv, _⟩ := ha.get (List.getElem?_eq_getElem hk)
      exact ⟨xs, v, SqL.of (hb _ _ hs), hv⟩
    · exact ⟨xs, SqL.of (hb _ _ hs), by rw [ha.len]; exact hk⟩
    · obtain ⟨e, hy⟩ := hy
      subst e
      obtain ⟨d, hd, id⟩ := ha.got (hy xs (SqL.of (hb2 _ _ (hb _ _ hs))))
      exact ⟨d, B2, hd, Grow.refl hb2, id.mono hb⟩⟩
theorem ix_tup (h : EX X B0 H0 sds os e fun d => ∃ l, d = .tup l ∧ P l) : IX X B0 H0 sds os tg e P := ⟨_, pi_tup pe_w, fun B H σ s R q => h B H σ s _ fun v B1 H1 d g1 i1 ⟨l, e1, p⟩ => by
  subst e1
  cases i1 with
  | @tup a xs _ hs ha =>
    refine ⟨a, rfl, ⟨xs, SqT.of (g1.bh _ _ hs)⟩, q _ B1 H1 l g1 p ⟨fun k H hb hk => ?_, fun k H hb hk => ?_, fun k B2 H2 v H3 hb hb2 hk hy => ?_⟩⟩
    · obtain ⟨v, hv, _⟩ := ha.get (List.getElem?_eq_getElem hk)
      exact ⟨xs, v, SqT.of (hb _ _ hs), hv⟩
    · exact ⟨xs, SqT.of (hb _ _ hs), by rw [ha.len]; exact hk⟩
    · obtain ⟨e, hy⟩ := hy
      subst e
      obtain ⟨d, hd, id⟩ := ha.got (hy xs (SqT.of (hb2 _ _ (hb _ _ hs))))
      exact ⟨d, B2, hd, Grow.refl hb2, id.mono hb⟩⟩
/-- the ints of a range -/
def rngD (lo : Int) (n : Nat) : List D := (List.range n).map fun (i : Nat) => .int (lo + (i : Int))
theorem rngD_len (lo : Int) (n : Nat) : (rngD lo n).length = n := by simp [rngD]
theorem rngD_get {lo : Int} {n k : Nat} (h : k < n) : (rngD lo n)[k]? = some (.int (lo + (k : Int))) := by simp [rngD, h]
theorem walk_rng {K : PySem.W.Frag} {B : Hp} {lo : Int} {n : Nat} : Walk K (Itr lo n) B (rngD lo n) := ⟨fun k H _ hk => by rw [rngD_len] at hk; exact hk, fun k H _ hk => by rw [rngD_len] at hk; exact hk, fun k B1 H1 v H2 _ hb hk ⟨e1, e2⟩ => by
  subst e1; subst e2
  rw [rngD_len] at hk
  exact ⟨_, B1, rngD_get hk, Grow.refl hb, .int _⟩⟩
theorem ix_range1 (c : Ctx X N S) {p pos : Pos} (hm : X.mg "range" = none) (h : EX X B0 H0 sds os e fun d => ∃ n : Int, d = .int n ∧ -(2 ^ 62) ≤ n ∧ n < 2 ^ 62 ∧ P (rngD 0 n.toNat)) (hg : glB S "range" = true := by decide +kernel) (hs : starEach [e] X.env = [(false, eval e X.env)] := by rfl) : IX X B0 H0 sds os tg (.Call (.Name "range" p) [e] [] pos) P :=
  ⟨_, pi_range1 (c.gl hg) hm (pa_cons pe_w pa_nil hs) hs, fun B H σ s R q => h B H σ s _ fun v B1 H1 d g1 i1 ⟨n, e1, h1, h2, p⟩ => by
    subst e1; cases i1
    exact ⟨n, rfl, h1, h2, q _ B1 H1 _ g1 p walk_rng⟩⟩
theorem ix_range2 (c : Ctx X N S) {p pos : Pos} (hm : X.mg "range" = none) (h : EX X B0 H0 sds os a fun d => EX X B0 H0 sds os b fun d' => ∃ lo n : Int, d = .int lo ∧ d' = .int n ∧ (-(2 ^ 62) ≤ lo ∧ lo < 2 ^ 62 ∧ -(2 ^ 62) ≤ n ∧ n < 2 ^ 62) ∧ P (rngD lo (n - lo).toNat))
    (hg : glB S "range" = true := by decide +kernel) (hs : starEach [a, b] X.env = [(false, eval a X.env), (false, eval b X.env)] := by rfl) (hs2 : starEach [b] X.env = [(false, eval b X.env)] := by rfl) : IX X B0 H0 sds os tg (.Call (.Name "range" p) [a, b] [] pos) P :=
  ⟨_, pi_range2 (c.gl hg) hm (pa_cons pe_w (pa_cons pe_w pa_nil hs2) (by rw [hs, hs2])) hs hs2, fun B H σ s R q => h B H σ s _ fun v B1 H1 d g1 i1 k => k B1 H1 σ (s.grow g1) _ fun w B2 H2 d' g2 i2 ⟨lo, n, e1, e2, hb, p⟩ => by
    subst e1; subst e2; cases i1; cases i2
    exact ⟨lo, n, rfl, hb, q _ B2 H2 _ (g1.trans g2) p walk_rng⟩⟩
/-- enumerate of a list -/
def enumD (l : List D) : List D := (List.range l.length).map fun (i : Nat) => .tup [.int (i : Int), l.getD i .non]
theorem enumD_len (l : List D) : (enumD l).length = l.length := by simp [enumD]
theorem enumD_get {l : List D} {k : Nat} {d : D} (h : l[k]? = some d) : (enumD l)[k]? = some (.tup [.int (k : Int), d]) := by
  obtain ⟨hk, e⟩ := List.getElem?_eq_some_iff.mp h
  simp [enumD, hk, List.getD, h, e]
theorem ix_enum (c : Ctx X N S) {p pos tpos : Pos} {elts : List Expr} {kk : Nat} (hm : X.mg "enumerate" = none) (h : EX X B0 H0 sds os e fun d => ∃ l, d = .lst l ∧ P (enumD l)) (hg : glB S "enumerate" = true := by decide +kernel) (hs : starEach [e] X.env = [(false, eval e X.env)] := by rfl) :
    IX X B0 H0 sds os (.Tuple elts kk tpos) (.Call (.Name "enumerate" p) [e] [] pos) P :=
  ⟨_, pi_enum (c.gl hg) hm (pa_cons pe_w pa_nil hs) hs, fun B H σ s R q => h B H σ s _ fun v B1 H1 d g1 i1 ⟨l, e1, p⟩ => by
    subst e1
    cases i1 with
    | @lst a xs _ hs ha =>
      refine ⟨a, xs, rfl, SqL.of (g1.bh _ _ hs), q _ B1 H1 _ g1 p ⟨fun k H hb hk => ?_, fun k H hb hk => ?_, fun k B2 H2 v H3 hb hb2 hk hy => ?_⟩⟩
      · rw [enumD_len] at hk
        obtain ⟨v, hv, _⟩ := ha.get (List.getElem?_eq_getElem hk)
        exact ⟨xs, v, SqL.of (hb _ _ hs), hv⟩
      · rw [enumD_len] at hk
        exact ⟨xs, SqL.of (hb _ _ hs), by rw [ha.len]; exact hk⟩
      · obtain ⟨T, x, e1, hT, e2, hy⟩ := hy
        subst e1; subst e2
        obtain ⟨d, hd, id⟩ := ha.got (hy xs (SqL.of (hb2 _ _ (hb _ _ hs))))
        have g := Grow.new (o := .tup [.int (k : Nat), x]) hb2 hT
        exact ⟨_, _, enumD_get hd, g, .tup upd_same (.cons (.int _) (.cons (id.mono (hb.trans g.b)) .nil))⟩⟩

/-! ### for -/
abbrev LoopI := Nat → List SD → List (Addr × OV) → Prop
def ForOk (X : Cx) (B0 H0 : Hp) (sds : List SD) (os : List (Addr × OV)) (E : DE) (t : Tg) (body : List Stmt) (l : List D) : Prop :=
  ∃ I : LoopI, I 0 sds os ∧ (∀ k u sds' os', l[k]? = some u → I k sds' os' → t.put u sds' fun sds'' => Go X B0 H0 sds'' os' { E with nx := I (k + 1), ct := I (k + 1), bk := E.nx } body) ∧ ∀ sds' os', I l.length sds' os' → E.nx sds' os'
theorem g1_for {t : Tg} (hp : PassesOwn (model X.prog X.w) X.A X.env X.xe) (hc : X.calm = true) (hg : PG X tg (t.r X.K)) (hi : IX X B0 H0 sds os tg e (ForOk X B0 H0 sds os E t body))
    (hs : ∀ x, foldedSetIterable e X.env x = pure x := by intro _; rfl) : Go1 X B0 H0 sds os E (.For tg e body [] pos) := fun A B H σ ea s => by
  obtain ⟨wi, hpi, hw⟩ := hi
  refine PS.to (ps_for hp hc hpi hg pss_w hs) ?_
  refine hw B H σ s _ fun J B1 H1 l g1 ⟨I, h0, ht, hd⟩ wk => ?_
  have s1 := s.grow g1
  refine ⟨fun k m σ' H' => m = l.length - k ∧ k ≤ l.length ∧ ∃ B' sds' os', Ex B1 B' ∧ St X.K B0 H0 B' H' σ' sds' os' ∧ I k sds' os', ⟨l.length, by simp, Nat.zero_le _, B1, sds, os, Evl.Ex.refl _, s1, h0⟩, ?_⟩
  rintro k m σ' H' ⟨rfl, hk, B', sds', os', eb, s', hI⟩
  by_cases hlt : k < l.length
  · refine .inr ⟨wk.go k H' (eb.trans s'.g.bh) hlt, fun σ'' H'' => ∃ B'' sds'' os'', Ex B1 B'' ∧ St X.K B0 H0 B'' H'' σ'' sds'' os'' ∧ I (k + 1) sds'' os'', fun σ'' H'' ⟨B'', sds'', os'', e2, s2, i2⟩ => ⟨l.length - (k + 1), by omega, rfl, hlt, B'', sds'', os'', e2, s2, i2⟩, fun x H2 hy => ?_⟩
    obtain ⟨d, B2, hd2, g2, i2⟩ := wk.yld k B' H' x H2 eb s'.g.bh hlt hy
    have s2 := s'.grow g2
    refine Tg.run s2 i2 (ht k d sds' os' hd2 hI) fun σ3 sds3 s3 go => ?_
    refine wSs.imp (go B1 B2 H2 σ3 (eb.trans g2.b) s3) (fun σ4 H4 h4 => h4) (fun v H4 ⟨B4, d4, e4, g4, i4, r4⟩ => ⟨B4, d4, (ea.trans g1.b).trans e4, g4, i4, r4⟩) (fun σ4 H4 ⟨B4, s4, o4, e4, t4, n4⟩ => ⟨B4, s4, o4, (ea.trans g1.b).trans e4, t4, n4⟩) (fun σ4 H4 h4 => h4)
  · have e : k = l.length := by omega
    subst e
    exact .inl ⟨wk.stop _ H' (eb.trans s'.g.bh) (Nat.le_refl _), B', sds', os', (ea.trans g1.b).trans eb, s', hd _ _ hI⟩

/-! ### while -/
theorem g1_while (hp : PassesOwn (model X.prog X.w) X.A X.env X.xe) (I : LoopI) (m0 : Nat) (h0 : I m0 sds os)
    (ht : ∀ m sds' os', I m sds' os' → TX X B0 H0 sds' os' e fun k => (k = true → Go X B0 H0 sds' os' { E with nx := fun s o => ∃ m', m' < m ∧ I m' s o, ct := fun s o => ∃ m', m' < m ∧ I m' s o, bk := E.nx } body) ∧ (k = false → E.nx sds' os')) :
    Go1 X B0 H0 sds os E (.While e body [] pos) := fun A B H σ ea s => by
  refine PS.to (ps_while hp pt_w pss_w) ?_
  refine ⟨fun m σ' H' => ∃ B' sds' os', Ex A B' ∧ St X.K B0 H0 B' H' σ' sds' os' ∧ I m sds' os', ⟨m0, B, sds, os, ea, s, h0⟩, ?_⟩
  rintro m σ' H' ⟨B', sds', os', eb, s', hI⟩
  refine ht m sds' os' hI B' H' σ' s' _ fun k B1 H1 g1 ⟨p1, p2⟩ => ?_
  have s1 := s'.grow g1
  cases k with
  | true =>
    rw [if_pos rfl]
    refine ⟨fun σ2 H2 => ∃ B2 s2 o2, Ex A B2 ∧ St X.K B0 H0 B2 H2 σ2 s2 o2 ∧ ∃ m', m' < m ∧ I m' s2 o2, fun σ2 H2 ⟨B2, s2, o2, e2, t2, m', hm, i2⟩ => ⟨m', hm, B2, s2, o2, e2, t2, i2⟩, ?_⟩
    exact wSs.imp (p1 rfl A B1 H1 σ' (eb.trans g1.b) s1) (fun _ _ h => h) (fun _ _ h => h) (fun _ _ h => h) (fun _ _ h => h)
  | false =>
    rw [if_neg Bool.false_ne_true]
    exact ⟨B1, sds', os', eb.trans g1.b, s1, p2 rfl⟩
end
end OB
set_option Elab.async false
set_option linter.all false
set_option maxRecDepth 100000
set_option maxHeartbeats 4000000
namespace OB
open PySem PySem.Spec PyProof.Rows L2
/-! ### comprehensions -/
theorem wipe_get (σ : L2.St) : ∀ (vs : List Nat) (j : Nat), (wipe σ vs)[j]? = if j ∈ vs ∧ j < σ.length then some none else σ[j]?
  | [], j => by simp [wipe]
  | v :: vs, j => by
    show ((wipe σ vs).set v none)[j]? = _
    by_cases hj : v = j
    · subst hj
      by_cases hl : v < σ.length
      · rw [List.getElem?_set_self (by rw [wipe_length]; exact hl), if_pos ⟨by simp, hl⟩]
      · rw [List.getElem?_eq_none (by rw [List.length_set, wipe_length]; omega), if_neg (fun h => hl h.2), List.getElem?_eq_none (by omega)]
    · rw [List.getElem?_set_ne hj, wipe_get σ vs j]
      have e : (j ∈ v :: vs ∧ j < σ.length) ↔ (j ∈ vs ∧ j < σ.length) := by
        rw [List.mem_cons]
        exact ⟨fun ⟨h1, h2⟩ => ⟨h1.resolve_left fun z => hj z.symm, h2⟩, fun ⟨h1, h2⟩ => ⟨.inr h1, h2⟩⟩
      simp only [e]
theorem wipe_set {σ : L2.St} {vs : List Nat} {i : Nat} {y : Option V} (hi : i ∈ vs) : wipe (σ.set i y) vs = wipe σ vs := by
  apply List.ext_getElem?
  intro j
  rw [wipe_get, wipe_get, List.length_set]
  by_cases hj : j ∈ vs ∧ j < σ.length
  · rw [if_pos hj, if_pos hj]
  · rw [if_neg hj, if_neg hj]
    by_cases e : i = j
    · subst e
      rw [List.getElem?_eq_none (by rw [List.length_set]; exact Nat.le_of_not_lt fun h => hj ⟨hi, h⟩), List.getElem?_eq_none (Nat.le_of_not_lt fun h => hj ⟨hi, h⟩)]
    · rw [List.getElem?_set_ne e]
theorem wipe_wipe {σ : L2.St} {vs : List Nat} : wipe (wipe σ vs) vs = wipe σ vs := by
  apply List.ext_getElem?
  intro j
  rw [wipe_get, wipe_get, wipe_length]
  by_cases hj : j ∈ vs ∧ j < σ.length
  · rw [if_pos hj, if_pos hj]
  · rw [if_neg hj, if_neg hj]
def Tg.idx : Tg → List Nat
  | .nm i => [i]
  | .tp is => is
  | .sq is => is
def wipeS (sds : List SD) : List Nat → List SD
  | [] => sds
  | v :: vs => (wipeS sds vs).set v .un
section
variable {K : PySem.W.Frag} {B0 H0 B H : Hp} {sds : List SD} {os : List (Addr × OV)} {Q : L2.St → Hp → Prop}
theorem names_runW {vv : List Nat} : ∀ (is : List Nat) (us : List D) (vs : List V) (σ : L2.St) (sds : List SD), (∀ i ∈ is, i ∈ vv) → St K B0 H0 B H σ sds os → IsAll K B vs us → us.length = is.length → (∀ σ', wipe σ' vv = wipe σ vv → St K B0 H0 B H σ' (setMany sds is us) os → Q σ' H) → gNames is vs σ H Q
  | [], us, vs, σ, sds, hv, s, h, hl, k => by
    have e : us = [] := List.length_eq_zero_iff.mp hl
    subst e
    cases h
    exact ⟨rfl, k σ rfl s⟩
  | i :: is, [], vs, σ, sds, hv, s, h, hl, k => by cases hl
  | i :: is, u :: us, vs, σ, sds, hv, s, h, hl, k => by
    cases h with
    | cons h1 h2 => exact ⟨_, _, rfl, names_runW is us _ _ _ (fun j hj => hv j (List.mem_cons_of_mem _ hj)) (s.set h1) h2 (by simpa using hl) fun σ' e s' => k σ' (e.trans (wipe_set (hv i (by simp)))) s'⟩
theorem Tg.runW {vv : List Nat} {t : Tg} {v : V} {d : D} {σ : L2.St} {k : List SD → Prop} (hv : ∀ i ∈ t.idx, i ∈ vv) (s : St K B0 H0 B H σ sds os) (h : Is K B v d) (hp : t.put d sds k) (hq : ∀ σ' sds', wipe σ' vv = wipe σ vv → St K B0 H0 B H σ' sds' os → k sds' → Q σ' H) : t.r K v σ H Q := by
  cases t with
  | nm i => exact hq _ _ (wipe_set (hv i (by simp [Tg.idx]))) (s.set h) hp
  | tp is =>
    obtain ⟨us, e, hl, kk⟩ := hp
    subst e
    cases h with
    | tup hs ha => exact ⟨_, _, rfl, SqT.of (s.g.bh _ _ hs), by rw [ha.len]; exact hl, names_runW is us _ _ _ hv s ha hl fun σ' e s' => hq σ' _ e s' kk⟩
  | sq is =>
    obtain ⟨us, e, hl, kk⟩ := hp
    rcases e with e | e
    · subst e
      cases h with
      | tup hs ha => exact .inl ⟨_, _, rfl, SqT.of (s.g.bh _ _ hs), by rw [ha.len]; exact hl, names_runW is us _ _ _ hv s ha hl fun σ' e s' => hq σ' _ e s' kk⟩
    · subst e
      cases h with
      | lst hs ha => exact .inr ⟨_, _, rfl, SqL.of (s.g.bh _ _ hs), by rw [ha.len]; exact hl, names_runW is us _ _ _ hv s ha hl fun σ' e s' => hq σ' _ e s' kk⟩
theorem Slots.wipe {σ : L2.St} (h : Slots K B σ sds) : ∀ vs : List Nat, Slots K B (wipe σ vs) (wipeS sds vs)
  | [] => h
  | v :: vs => (Slots.wipe h vs).forget
theorem St.wipe {σ : L2.St} (s : St K B0 H0 B H σ sds os) (vs : List Nat) : St K B0 H0 B H (L2.wipe σ vs) (wipeS sds vs) os := ⟨s.g, s.sl.wipe vs, s.ow, s.fr, s.nd⟩
end
/-- X' is the context of the comprehension's block in X -/
def Blk (X : Cx) (scope : Scope) (X' : Cx) : Prop := ∃ (s : Shared) (H : Hp) (C : Addr) (cl : List (PySem.Str × Addr)) (fp : List Addr), X' = X.blk s H scope (compEnvC scope cl C X.env) fp
section
variable {X X' : Cx} {N : List PySem.Str} {S scope : Scope}
theorem Blk.ctx (b : Blk X scope X') (c : Ctx X N S) : Ctx X' N (relS scope S) := by
  obtain ⟨s, H, C, cl, fp, rfl⟩ := b
  exact ⟨c.hN, by show relS scope X.env.scope = _; rw [c.hS], c.nd, c.calm⟩
end
section
variable {X : Cx} {N : List PySem.Str} {S scope : Scope} {B0 H0 : Hp} {sds : List SD} {os : List (Addr × OV)} {E : DE} {pos : Pos} {a b e elt tg iter cond : Expr} {P : List D → Prop}
/-- what a comprehension asks of the data walked -/
def LcOk (X : Cx) (scope : Scope) (B0 H0 : Hp) (sds : List SD) (os : List (Addr × OV)) (t : Tg) (vs : List Nat) (T : List SD → Bool → Prop) (elt : Expr) (P : List D → Prop) (l : List D) : Prop :=
  ∃ (α : Type) (L : List α) (enc : α → D) (f : α → Bool) (g : α → D), l = L.map enc ∧ L.length ≤ 100000 ∧ (∀ x ∈ L, t.put (enc x) (wipeS sds vs) fun s' => T s' (f x) ∧ (f x = true → ∀ X', Blk X scope X' → EX X' B0 H0 s' os elt (· = g x))) ∧ P ((L.filter f).map g)
theorem filter_take {α : Type} {L : List α} {f : α → Bool} {g : α → D} {k : Nat} {x : α} (h : L[k]? = some x) : ((L.take (k + 1)).filter f).map g = ((L.take k).filter f).map g ++ (if f x = true then [g x] else []) := by
  have hk := (List.getElem?_eq_some_iff.mp h).1
  have e : L.take (k + 1) = L.take k ++ [x] := by
    rw [List.take_succ, h] <;> rfl
  rw [e, List.filter_append, List.map_append]
  cases hf : f x with
  | true => simp [List.filter_cons, hf]
  | false => simp [List.filter_cons, hf]
/-- the body of a comprehension, its test read by tt -/
theorem lc_run {t : Tg} {vs : List Nat} {wi : TI} {tt : TT} {T : List SD → Bool → Prop} (hv : ∀ i ∈ t.idx, i ∈ vs) (hT : ∀ B H σ sds' f, St X.K B0 H0 B H σ sds' os → T sds' f → ∀ Q : Bool → Hp → Prop, (∀ B' H', Grow B H B' H' → Q f H') → tt σ H Q)
    (hi : ∀ B H σ, St X.K B0 H0 B H σ sds os → ∀ R : It → Hp → Prop, (∀ J B' H' l, Grow B H B' H' → LcOk X scope B0 H0 sds os t vs T elt P l → Walk X.K J B' l → R J H') → wi σ H R)
    {B H : Hp} {σ : L2.St} (s : St X.K B0 H0 B H σ sds os) {Q : VK} (q : ∀ p xs B' H' l, Grow B H B' H' → H p = none → B' p = none → H' p = some (.lst xs) → IsAll X.K B' xs l → P l → Q (.ref p) H') :
    tLc wi (t.r X.K) tt (fun σ H Q => ∀ X', Blk X scope X' → wE X' elt σ H Q) vs σ H Q := by
  refine hi B H σ s _ fun J B1 H1 l g1 ⟨α, L, enc, f, g, hl, hz, ht, hp⟩ wk => ?_
  have s1 := s.grow g1
  intro Dl hD
  have bD : B1 Dl = none := Evl.fresh_back g1.bh hD
  have ll : l.length = L.length := by rw [hl, List.length_map]
  refine ⟨fun k m H' => m = L.length - k ∧ k ≤ L.length ∧ ∃ B' xs, Grow B1 H1 B' H' ∧ B' Dl = none ∧ H' Dl = some (.lst xs) ∧ IsAll X.K B' xs (((L.take k).filter f).map g), ⟨L.length, by simp, Nat.zero_le _, B1, [], ⟨Evl.Ex.refl _, Evl.Ex.new hD, g1.bh.trans (Evl.Ex.new hD), fun _ h => .inl h⟩, bD, upd_same, .nil⟩, ?_⟩
  rintro k m H' ⟨rfl, hk, B', xs, gr, b', h', al⟩
  by_cases hlt : k < L.length
  · refine .inr ⟨wk.go k H' (gr.b.trans gr.bh) (by rw [ll]; exact hlt), fun H2 => k + 1 ≤ L.length ∧ ∃ B2 ys, Grow B1 H1 B2 H2 ∧ B2 Dl = none ∧ H2 Dl = some (.lst ys) ∧ IsAll X.K B2 ys (((L.take (k + 1)).filter f).map g), fun H2 ⟨hk2, h2⟩ => ⟨L.length - (k + 1), by omega, rfl, hk2, h2⟩, fun x H2 hy => ?_⟩
    obtain ⟨d, B2, hd, g2, i2⟩ := wk.yld k B' H' x H2 gr.b gr.bh (by rw [ll]; exact hlt) hy
    obtain ⟨y, hy'⟩ : ∃ y, L[k]? = some y := ⟨_, List.getElem?_eq_getElem hlt⟩
    have ed : d = enc y := by
      rw [hl, List.getElem?_map, hy'] at hd
      exact (Option.some.inj hd).symm
    subst ed
    have ym : y ∈ L := List.mem_of_getElem? hy'
    have gr2 := gr.trans g2
    have s2 := (s1.grow gr2).wipe vs
    have h2 : H2 Dl = some (.lst xs) := g2.h _ _ h'
    have b2 : B2 Dl = none := g2.out b' h'
    refine Tg.runW (vv := vs) hv s2 i2 (ht y ym) fun σ3 sds3 we s3 kk => ⟨we.trans wipe_wipe, ?_⟩
    have al2 := IsAll.mono g2.b _ _ al
    refine hT B2 H2 σ3 sds3 (f y) s3 kk.1 _ fun B3 H3 g3 => ?_
    have gr3 := gr2.trans g3
    have h3 : H3 Dl = some (.lst xs) := g3.h _ _ h2
    have b3 : B3 Dl = none := g3.out b2 h2
    have al3 := IsAll.mono g3.b _ _ al2
    cases hf : f y with
    | true =>
      rw [if_pos rfl]
      intro X' bx
      have hk' : X'.K = X.K := by obtain ⟨_, _, _, _, _, rfl⟩ := bx; rfl
      have ex := kk.2 hf X' bx
      have s3' := s3.grow g3
      rw [← hk'] at s3'
      refine ex B3 H3 σ3 s3' _ fun w B4 H4 d4 g4 i4 e4 => ?_
      subst e4
      rw [hk'] at i4
      have gr4 := gr3.trans g4
      have h4 : H4 Dl = some (.lst xs) := g4.h _ _ h3
      have b4 : B4 Dl = none := g4.out b3 h3
      have al4 := IsAll.mono g4.b _ _ al3
      have len : xs.length ≤ 100000 := by
        rw [al4.len, List.length_map]
        refine Nat.le_trans (List.length_filter_le _ _) ?_
        rw [List.length_take]; omega
      refine ⟨xs, h4, Nat.lt_of_le_of_lt len (by decide), hlt, B4, xs ++ [w], ⟨gr4.b, gr4.h.mut hD, Evl.Ex.mut gr4.bh b4, gr4.fr⟩, b4, upd_same, ?_⟩
      rw [filter_take hy', if_pos hf]
      exact al4.app (.cons i4 .nil)
    | false =>
      rw [if_neg Bool.false_ne_true]
      refine ⟨hlt, B3, xs, gr3, b3, h3, ?_⟩
      rw [filter_take hy', if_neg (by rw [hf]; exact Bool.false_ne_true), List.append_nil]
      exact al3
  · have e : k = L.length := by omega
    subst e
    refine .inl ⟨wk.stop _ H' (gr.b.trans gr.bh) (by rw [ll]; exact Nat.le_refl _), ?_⟩
    rw [List.take_length] at al
    exact q Dl xs B' H' _ (g1.trans gr) (Evl.fresh_back g1.h hD) b' h' al hp
def LcOk0 (X : Cx) (scope : Scope) (B0 H0 : Hp) (sds : List SD) (os : List (Addr × OV)) (t : Tg) (vs : List Nat) (elt : Expr) (P : List D → Prop) (l : List D) : Prop :=
  ∃ (α : Type) (L : List α) (enc : α → D) (g : α → D), l = L.map enc ∧ L.length ≤ 100000 ∧ (∀ x ∈ L, t.put (enc x) (wipeS sds vs) fun s' => ∀ X', Blk X scope X' → EX X' B0 H0 s' os elt (· = g x)) ∧ P (L.map g)
def LcOk1 (X : Cx) (scope : Scope) (B0 H0 : Hp) (sds : List SD) (os : List (Addr × OV)) (t : Tg) (vs : List Nat) (cond elt : Expr) (P : List D → Prop) (l : List D) : Prop :=
  ∃ (α : Type) (L : List α) (enc : α → D) (f : α → Bool) (g : α → D), l = L.map enc ∧ L.length ≤ 100000 ∧ (∀ x ∈ L, t.put (enc x) (wipeS sds vs) fun s' => ∀ X', Blk X scope X' → TX X' B0 H0 s' os cond (· = f x) ∧ (f x = true → EX X' B0 H0 s' os elt (· = g x))) ∧ P ((L.filter f).map g)
theorem Tg.put_imp {t : Tg} {d : D} {s : List SD} {k k' : List SD → Prop} (h : t.put d s k) (i : ∀ s, k s → k' s) : t.put d s k' := by
  cases t with
  | nm j => exact i _ h
  | tp is => obtain ⟨us, e, l, q⟩ := h; exact ⟨us, e, l, i _ q⟩
  | sq is => obtain ⟨us, e, l, q⟩ := h; exact ⟨us, e, l, i _ q⟩
theorem IX.imp {P P' : List D → Prop} (h : IX X B0 H0 sds os tg iter P) (i : ∀ l, P l → P' l) : IX X B0 H0 sds os tg iter P' := by
  obtain ⟨wi, hp, hw⟩ := h
  exact ⟨wi, hp, fun B H σ s R q => hw B H σ s R fun J B' H' l g p w => q J B' H' l g (i l p) w⟩
/-- [elt for tg in iter] -/
theorem el_lc0 (c : Ctx X N S) (own : List (PySem.Str × Nat)) (t : Tg) (hg : ∀ X', Blk X scope X' → PG X' tg (t.r X'.K))
    (hi : IX X B0 H0 sds os tg iter (LcOk0 X scope B0 H0 sds os t (own.map (·.2)) elt P))
    (hb : blkC N S scope own = true := by decide +kernel) (hv : (t.idx.all fun i => decide (i ∈ own.map (·.2))) = true := by decide) (hs : ∀ x, foldedSetIterable iter X.env x = pure x := by intro _; rfl) :
    EL X B0 H0 sds os (.ListComp elt [⟨tg, iter, [], 0⟩] scope pos) P := fun B H σ s Q q => by
  obtain ⟨wi, hpi, hw⟩ := hi.imp (P' := LcOk X scope B0 H0 sds os t (own.map (·.2)) (fun _ b => b = true) elt P) fun l ⟨α, L, enc, g, h1, h2, h3, h4⟩ =>
    ⟨α, L, enc, fun _ => true, g, h1, h2, fun x hx => Tg.put_imp (h3 x hx) fun s k => ⟨rfl, fun _ => k⟩, by rw [List.filter_eq_self.mpr (fun _ _ => rfl)]; exact h4⟩
  have hv' : ∀ i ∈ t.idx, i ∈ own.map (·.2) := fun i h => of_decide_eq_true (List.all_eq_true.mp hv i h)
  refine PE.to (pe_lc (g := t.r X.K) (tt := tYes) (te := fun σ H Q => ∀ X', Blk X scope X' → wE X' elt σ H Q) c.calm (by rw [c.hN]; exact c.nd) hpi (blkOk_by (by rw [c.hN, c.hS]; exact hb)) (fun s H C cl fp => hg _ ⟨s, H, C, cl, fp, rfl⟩) (fun _ _ _ _ _ => pts_nil) (fun s H C cl fp => ⟨fun pins sh σ' H' Q' I h => (h _ ⟨s, H, C, cl, fp, rfl⟩).run pins sh I⟩) hs) ?_
  refine lc_run hv' (fun B H σ sds' f s' hT Q q => ?_) hw s q
  subst hT
  exact q B H (Grow.refl s'.g.bh)
/-- [elt for tg in iter if cond] -/
theorem el_lc1 (c : Ctx X N S) (own : List (PySem.Str × Nat)) (t : Tg) (hg : ∀ X', Blk X scope X' → PG X' tg (t.r X'.K))
    (hi : IX X B0 H0 sds os tg iter (LcOk1 X scope B0 H0 sds os t (own.map (·.2)) cond elt P))
    (hb : blkC N S scope own = true := by decide +kernel) (hv : (t.idx.all fun i => decide (i ∈ own.map (·.2))) = true := by decide) (hs : ∀ x, foldedSetIterable iter X.env x = pure x := by intro _; rfl) :
    EL X B0 H0 sds os (.ListComp elt [⟨tg, iter, [cond], 0⟩] scope pos) P := fun B H σ s Q q => by
  obtain ⟨wi, hpi, hw⟩ := hi.imp (P' := LcOk X scope B0 H0 sds os t (own.map (·.2)) (fun s' b => ∀ X', Blk X scope X' → TX X' B0 H0 s' os cond (· = b)) elt P) fun l ⟨α, L, enc, f, g, h1, h2, h3, h4⟩ =>
    ⟨α, L, enc, f, g, h1, h2, fun x hx => Tg.put_imp (h3 x hx) fun s k => ⟨fun X' b => (k X' b).1, fun hf X' b => (k X' b).2 hf⟩, h4⟩
  have hv' : ∀ i ∈ t.idx, i ∈ own.map (·.2) := fun i h => of_decide_eq_true (List.all_eq_true.mp hv i h)
  refine PE.to (pe_lc (g := t.r X.K) (tt := fun σ H Q => ∀ X', Blk X scope X' → wT X' cond σ H Q) (te := fun σ H Q => ∀ X', Blk X scope X' → wE X' elt σ H Q) c.calm (by rw [c.hN]; exact c.nd) hpi (blkOk_by (by rw [c.hN, c.hS]; exact hb)) (fun s H C cl fp => hg _ ⟨s, H, C, cl, fp, rfl⟩)
    (fun s H C cl fp => pts_one ⟨fun pins sh σ' H' Q' I h => (h _ ⟨s, H, C, cl, fp, rfl⟩).run pins sh I⟩) (fun s H C cl fp => ⟨fun pins sh σ' H' Q' I h => (h _ ⟨s, H, C, cl, fp, rfl⟩).run pins sh I⟩) hs) ?_
  refine lc_run hv' (fun B H σ sds' f s' hT Q q => ?_) hw s q
  intro X' bx
  have hk' : X'.K = X.K := by obtain ⟨_, _, _, _, _, rfl⟩ := bx; rfl
  rw [← hk'] at s'
  exact hT X' bx B H σ s' Q fun b B' H' g e => by subst e; exact q B' H' g
end
end OB
set_option Elab.async false
set_option linter.all false
set_option maxRecDepth 100000
set_option maxHeartbeats 4000000
namespace OB
open PySem PySem.Spec PyProof.Rows L2
/-! ### functions of the text -/
abbrev SpD := List D → (D → Prop) → (Addr → List (PySem.Str × D) → Prop) → Prop
def toSp (K : PySem.W.Frag) (S : SpD) : Sp := fun vs H Q E => ∃ B ds P R, Ex B H ∧ IsAll K B vs ds ∧ S ds P R ∧ (∀ v B' H' d, Grow B H B' H' → Is K B' v d → P d → Q v H') ∧
  (∀ C fs dd ws B' H', Grow B H B' H' → H' dd = some (.xd ws) → IsFs K B' ws fs → R C fs → E (.ref C) (some dd) H')
structure FnD (P : Program) (w : World) (K : PySem.W.Frag) (mg : PySem.Str → Option Value) (base : Heap) (x : PySem.Str) (k : Nat) (S : SpD) : Prop where
  ex : ∃ (f : Addr) (fd : FuncData) (ps : List PySem.Str), mg x = some (.ref f) ∧ PySem.W.keepIn K (.ref f) = true ∧ Binds K fd ps [] ∧ FnOk P w K mg base (L2.CX P w) k f fd ps (toSp K S)
theorem FnD.mono {P : Program} {w : World} {K : PySem.W.Frag} {mg : PySem.Str → Option Value} {base : Heap} {x : PySem.Str} {k k' : Nat} {S : SpD} (h : FnD P w K mg base x k S) (l : k ≤ k') : FnD P w K mg base x k' S := by
  obtain ⟨f, fd, ps, h1, h2, h3, h4⟩ := h.ex
  exact ⟨f, fd, ps, h1, h2, h3, h4.mono l⟩
/-- what leaves the body as an exception is wished for -/
def Air (X : Cx) (B0 H0 : Hp) (R : Addr → List (PySem.Str × D) → Prop) : Prop := ∃ Ew : XK, Takes X (fun cls d _ H => Ew cls d H) ∧
  ∀ C fs dd ws B' H', Grow B0 H0 B' H' → H' dd = some (.xd ws) → IsFs X.K B' ws fs → R C fs → Ew (.ref C) (some dd) H'
section
variable {X : Cx} {N : List PySem.Str} {S : Scope} {B0 H0 : Hp} {sds : List SD} {os : List (Addr × OV)} {E : DE} {pos : Pos} {a b e elt tg iter cond : Expr} {es : List Expr} {P : D → Prop} {R : Addr → List (PySem.Str × D) → Prop}
theorem ex_call (c : Ctx X N S) {x : PySem.Str} {k : Nat} {p : Pos} {Sf : SpD} (F : FnD X.prog X.w X.K X.mg X.base x k Sf) (hr : Room k X.A) (h : EA X B0 H0 sds os (e :: es) fun ds => Sf ds P fun _ _ => False) (hg : glB S x = true := by decide +kernel)
    (hdb : (x == ("__debug__" : PySem.Str)) = false := by decide +kernel) (he : starEach (e :: es) X.env = (false, eval e X.env) :: starEach es X.env := by rfl) (hpl : (backTo pos (starEach es X.env)).any (·.1) = false := by rfl) : EX X B0 H0 sds os (.Call (.Name x p) (e :: es) [] pos) P := fun B H σ s Q q => by
  obtain ⟨f, fd, ps, h1, h2, h3, h4⟩ := F.ex
  refine PE.to (pe_call h4 hr (c.gl hg) h1 h2 h3 .nil passL pa_w hdb he hpl) ?_
  refine h B H σ s _ fun vs B1 H1 ds g1 i1 hs => ?_
  rw [List.append_nil]
  exact ⟨B1, ds, P, _, g1.bh, i1, hs, fun v B2 H2 d g2 i2 p => q v B2 H2 d (g1.trans g2) i2 p, fun _ _ _ _ _ _ _ _ _ z => z.elim⟩
/-- .. that may raise what we may -/
theorem ex_callX (c : Ctx X N S) {x : PySem.Str} {k : Nat} {p : Pos} {Sf : SpD} (F : FnD X.prog X.w X.K X.mg X.base x k Sf) (hr : Room k X.A) (air : Air X B0 H0 R) (h : EA X B0 H0 sds os (e :: es) fun ds => Sf ds P R) (hg : glB S x = true := by decide +kernel)
    (hdb : (x == ("__debug__" : PySem.Str)) = false := by decide +kernel) (he : starEach (e :: es) X.env = (false, eval e X.env) :: starEach es X.env := by rfl) (hpl : (backTo pos (starEach es X.env)).any (·.1) = false := by rfl) : EX X B0 H0 sds os (.Call (.Name x p) (e :: es) [] pos) P := fun B H σ s Q q => by
  obtain ⟨f, fd, ps, h1, h2, h3, h4⟩ := F.ex
  obtain ⟨Ew, tk, hE⟩ := air
  refine PE.to (pe_call h4 hr (c.gl hg) h1 h2 h3 .nil (E := Ew) (passes_call tk fun _ _ _ _ h => h) pa_w hdb he hpl) ?_
  refine h B H σ s _ fun vs B1 H1 ds g1 i1 hs => ?_
  rw [List.append_nil]
  exact ⟨B1, ds, P, _, g1.bh, i1, hs, fun v B2 H2 d g2 i2 p => q v B2 H2 d (g1.trans g2) i2 p, fun C fs dd ws B' H' g2 h1 h2 h3 => hE C fs dd ws B' H' ((s.g.trans g1).trans g2) h1 h2 h3⟩
/-- the slots at a def's entry -/
def ini (n : Nat) (ds : List D) : List SD := ds.map .d ++ List.replicate (n - ds.length) .un
theorem slots_ini {K : PySem.W.Frag} {B : Hp} {vs : List V} {ds : List D} {N : List PySem.Str} (h : IsAll K B vs ds) : Slots K B (L2.start N vs) (ini N.length ds) := by
  refine ⟨by simp [L2.start, ini, h.len], fun i sd q => ?_⟩
  unfold ini at q
  unfold L2.start
  have hl := h.len
  by_cases hi : i < ds.length
  · rw [List.getElem?_append_left (by simpa using hi), List.getElem?_map] at q
    cases e : ds[i]? with
    | none => rw [e] at q; cases q
    | some d =>
      rw [e] at q
      cases q
      obtain ⟨v, hv, iv⟩ := h.get e
      refine ⟨v, ?_, iv⟩
      rw [List.getElem?_append_left (by simpa [hl] using hi), List.getElem?_map, hv] <;> rfl
  · rw [List.getElem?_append_right (by simpa using hi), List.getElem?_replicate] at q
    split at q
    · cases q; trivial
    · cases q
/-- what a body is asked of -/
def BodyOk (X : Cx) (N : List PySem.Str) (Sf : SpD) (body : List Stmt) : Prop :=
  ∀ ds P R, Sf ds P R → ∀ B0 H0, Air X B0 H0 R → Go X B0 H0 (ini N.length ds) [] { rt := P, nx := fun _ _ => P .non } body
end
section
variable {P : Program} {w : World} {K : PySem.W.Frag} {mg : PySem.Str → Option Value} {base : Heap}
/-- THE RULE for a def -/
theorem fn_mk {x qual : PySem.Str} {st : Stmt} {f : Addr} {fd : FuncData} {N ps : List PySem.Str} {k : Nat} {Sf : SpD} (F : Fun K x qual st f fd) (Sc : FnScope N ps (defScope st)) (hm : mg x = some (.ref f)) (hb : Binds K fd ps []) (len : ∀ ds P R, Sf ds P R → ds.length = ps.length)
    (body : ∀ (cdv : Value) (A : Around) (outer : List Env) (s : Shared) (H : Hp) (E : XK), Room k (A.deeper (envOfC qual (defScope st) s.heap.objs.size f cdv)) →
      CtxD (cxOf (L2.CX P w) P w K mg base N qual (defScope st) f cdv A outer s H E) N (defScope st) →
      PassesOwn (model P w) (A.deeper (envOfC qual (defScope st) s.heap.objs.size f cdv)) (envOfC qual (defScope st) s.heap.objs.size f cdv) (cxOf (L2.CX P w) P w K mg base N qual (defScope st) f cdv A outer s H E).xe →
      BodyOk (cxOf (L2.CX P w) P w K mg base N qual (defScope st) f cdv A outer s H E) N Sf (defBody st)) : FnD P w K mg base x (k + 1) Sf := by
  refine ⟨f, fd, ps, hm, F.kp, hb, F.okX Sc (fun vs H Q E ⟨B, ds, P, R, _, h1, h2, _⟩ => by rw [h1.len]; exact len _ _ _ h2) fun cdv A outer s H vs Q E hr hsp => ⟨_, pss_w, ?_⟩⟩
  obtain ⟨B, ds, P', R, eb, h1, h2, h3, h4⟩ := hsp
  have go := body cdv A outer s H E hr ⟨⟨rfl, rfl, Sc.nd, rfl⟩, fun _ => rfl⟩ (passes_of rfl) ds P' R h2 B H ⟨E, takes_of rfl rfl rfl rfl, h4⟩
  refine wSs.imp (go B B H (L2.start N vs) (Evl.Ex.refl _) ⟨Grow.refl eb, slots_ini h1, (fun _ h => (nomatch h)), (fun _ h => (nomatch h)), List.nodup_nil⟩) (fun σ' H' ⟨B', sds', os', _, s', p⟩ => h3 _ _ _ _ s'.g .non p) (fun v H' ⟨B', d, _, g, i, p⟩ => h3 _ _ _ _ g i p) (fun σ' H' ⟨B', sds', os', _, s', p⟩ => p.elim) (fun σ' H' ⟨B', sds', os', _, s', p⟩ => p.elim)
end

/-! ### built-ins -/
/-- no module-level name hides a built-in -/
structure Bi (mg : PySem.Str → Option Value) : Prop where
  len : mg "len" = none
  range : mg "range" = none
  enumerate : mg "enumerate" = none
  sorted : mg "sorted" = none
  tuple : mg "tuple" = none
  list : mg "list" = none
  min : mg "min" = none
  max : mg "max" = none
  all : mg "all" = none
  any : mg "any" = none
  int : mg "int" = none
  isinstance : mg "isinstance" = none
  bool : mg "bool" = none
section
variable {X : Cx} {N : List PySem.Str} {S : Scope} {B0 H0 : Hp} {sds : List SD} {os : List (Addr × OV)} {E : DE} {pos p : Pos} {a b e elt tg iter cond : Expr} {es : List Expr} {P : D → Prop}
def CallD (K : PySem.W.Frag) (r : List V → Hp → VK → Prop) (ds : List D) (P : D → Prop) : Prop := ∀ B H vs, Ex B H → IsAll K B vs ds → ∀ Q : VK, (∀ u B' H' d, Grow B H B' H' → Is K B' u d → P d → Q u H') → r vs H Q
def CallL (K : PySem.W.Frag) (r : List V → Hp → VK → Prop) (ds : List D) (P : List D → Prop) : Prop := ∀ B H vs, Ex B H → IsAll K B vs ds → ∀ Q : VK, (∀ p xs B' H' l, Grow B H B' H' → H p = none → B' p = none → H' p = some (.lst xs) → IsAll K B' xs l → P l → Q (.ref p) H') → r vs H Q
theorem ex_callB (c : Ctx X N S) {x : PySem.Str} {id : String} {r : List V → Hp → VK → Prop} (hc : CallR X (.builtin id) r) (hm : X.mg x = none) (h : EA X B0 H0 sds os (e :: es) fun ds => CallD X.K r ds P) (hg : glB S x = true := by decide +kernel) (hv : bootBuiltins x = some (.builtin id) := by decide +kernel)
    (hn : x ≠ "__name__" := by decide +kernel) (hdb : (x == ("__debug__" : PySem.Str)) = false := by decide +kernel) (he : starEach (e :: es) X.env = (false, eval e X.env) :: starEach es X.env := by rfl) (hpl : (backTo pos (starEach es X.env)).any (·.1) = false := by rfl) : EX X B0 H0 sds os (.Call (.Name x p) (e :: es) [] pos) P := fun B H σ s Q q =>
  PE.to (pe_callB hc (c.gl hg) hm hv pa_w hn hdb he hpl) (h B H σ s _ fun vs B1 H1 ds g1 i1 k => k B1 H1 vs g1.bh i1 Q fun u B2 H2 d g2 i2 p => q u B2 H2 d (g1.trans g2) i2 p)
theorem ex_callTy (c : Ctx X N S) {x : PySem.Str} {T : String} {r : List V → Hp → VK → Prop} (hc : CallR X (.type T) r) (hm : X.mg x = none) (h : EA X B0 H0 sds os (e :: es) fun ds => CallD X.K r ds P) (hg : glB S x = true := by decide +kernel) (hv : bootBuiltins x = some (.type T) := by decide +kernel)
    (hn : x ≠ "__name__" := by decide +kernel) (hdb : (x == ("__debug__" : PySem.Str)) = false := by decide +kernel) (he : starEach (e :: es) X.env = (false, eval e X.env) :: starEach es X.env := by rfl) (hpl : (backTo pos (starEach es X.env)).any (·.1) = false := by rfl) : EX X B0 H0 sds os (.Call (.Name x p) (e :: es) [] pos) P := fun B H σ s Q q =>
  PE.to (pe_callTy hc (c.gl hg) hm hv pa_w hn hdb he hpl) (h B H σ s _ fun vs B1 H1 ds g1 i1 k => k B1 H1 vs g1.bh i1 Q fun u B2 H2 d g2 i2 p => q u B2 H2 d (g1.trans g2) i2 p)
theorem el_callB (c : Ctx X N S) {x : PySem.Str} {id : String} {r : List V → Hp → VK → Prop} {P : List D → Prop} (hc : CallR X (.builtin id) r) (hm : X.mg x = none) (h : EA X B0 H0 sds os (e :: es) fun ds => CallL X.K r ds P) (hg : glB S x = true := by decide +kernel) (hv : bootBuiltins x = some (.builtin id) := by decide +kernel)
    (hn : x ≠ "__name__" := by decide +kernel) (hdb : (x == ("__debug__" : PySem.Str)) = false := by decide +kernel) (he : starEach (e :: es) X.env = (false, eval e X.env) :: starEach es X.env := by rfl) (hpl : (backTo pos (starEach es X.env)).any (·.1) = false := by rfl) : EL X B0 H0 sds os (.Call (.Name x p) (e :: es) [] pos) P := fun B H σ s Q q =>
  PE.to (pe_callB hc (c.gl hg) hm hv pa_w hn hdb he hpl) (h B H σ s _ fun vs B1 H1 ds g1 i1 k => k B1 H1 vs g1.bh i1 Q fun u xs B2 H2 d g2 h1 h2 h3 i2 p => q u xs B2 H2 d (g1.trans g2) (Evl.fresh_back g1.h h1) h2 h3 i2 p)
theorem el_callTy (c : Ctx X N S) {x : PySem.Str} {T : String} {r : List V → Hp → VK → Prop} {P : List D → Prop} (hc : CallR X (.type T) r) (hm : X.mg x = none) (h : EA X B0 H0 sds os (e :: es) fun ds => CallL X.K r ds P) (hg : glB S x = true := by decide +kernel) (hv : bootBuiltins x = some (.type T) := by decide +kernel)
    (hn : x ≠ "__name__" := by decide +kernel) (hdb : (x == ("__debug__" : PySem.Str)) = false := by decide +kernel) (he : starEach (e :: es) X.env = (false, eval e X.env) :: starEach es X.env := by rfl) (hpl : (backTo pos (starEach es X.env)).any (·.1) = false := by rfl) : EL X B0 H0 sds os (.Call (.Name x p) (e :: es) [] pos) P := fun B H σ s Q q =>
  PE.to (pe_callTy hc (c.gl hg) hm hv pa_w hn hdb he hpl) (h B H σ s _ fun vs B1 H1 ds g1 i1 k => k B1 H1 vs g1.bh i1 Q fun u xs B2 H2 d g2 h1 h2 h3 i2 p => q u xs B2 H2 d (g1.trans g2) (Evl.fresh_back g1.h h1) h2 h3 i2 p)
def LenD : D → Nat → Prop
  | .lst l, n => n = l.length
  | .tup l, n => n = l.length
  | .tpk l, n => n = l.length
  | _, _ => False
theorem call1 {K : PySem.W.Frag} {B : Hp} {vs : List V} {d : D} (h : IsAll K B vs [d]) : ∃ v, vs = [v] ∧ Is K B v d := by
  cases h with
  | cons h1 h2 => cases h2; exact ⟨_, rfl, h1⟩
theorem call2 {K : PySem.W.Frag} {B : Hp} {vs : List V} {d d' : D} (h : IsAll K B vs [d, d']) : ∃ v v', vs = [v, v'] ∧ Is K B v d ∧ Is K B v' d' := by
  cases h with
  | cons h1 h2 => obtain ⟨v, rfl, h3⟩ := call1 h2; exact ⟨_, _, rfl, h1, h3⟩
theorem ex_len (c : Ctx X N S) (hm : X.mg "len" = none) (h : EX X B0 H0 sds os e fun d => ∃ n, LenD d n ∧ P (.int (n : Int))) (hg : glB S "len" = true := by decide +kernel) (he : starEach [e] X.env = [(false, eval e X.env)] := by rfl) : EX X B0 H0 sds os (.Call (.Name "len" p) [e] [] pos) P :=
  ex_callB c call_len hm (ea_cons (h.imp fun d ⟨n, hn, hp⟩ => ea_nil fun B H vs eb iv Q q => by
    obtain ⟨v, rfl, j⟩ := call1 iv
    refine ⟨v, n, rfl, ?_, q _ B H _ (Grow.refl eb) (.int _) hp⟩
    cases j with
    | lst hs ha => exact .inl ⟨_, SqL.of (eb _ _ hs), by rw [ha.len]; exact hn⟩
    | tup hs ha => exact .inr ⟨_, SqT.of (eb _ _ hs), by rw [ha.len]; exact hn⟩
    | non => exact hn.elim
    | bl _ => exact hn.elim
    | int _ => exact hn.elim
    | str _ => exact hn.elim
    | ins _ _ => exact hn.elim
    | drw _ => exact hn.elim
    | dct _ _ => exact hn.elim
    | dck _ _ => exact hn.elim
    | rng _ => exact hn.elim
    | tpk h1 h2 h3 h4 h5 ha => exact .inr ⟨_, .inr ⟨_, _, _, h1, h2, h3, h4, h5⟩, by rw [ha.len]; exact hn⟩) he) hg PySem.boot_len (by decide +kernel) (by decide +kernel) he rfl
/-- int(n) -/
theorem ex_int1 (c : Ctx X N S) (hm : X.mg "int" = none) (h : EX X B0 H0 sds os e fun d => ∃ n, d = .int n ∧ P (.int n)) (hg : glB S "int" = true := by decide +kernel) (he : starEach [e] X.env = [(false, eval e X.env)] := by rfl) : EX X B0 H0 sds os (.Call (.Name "int" p) [e] [] pos) P :=
  ex_callTy c call_int1 hm (ea_cons (h.imp fun d ⟨n, hn, hp⟩ => ea_nil fun B H vs eb iv Q q => by
    obtain ⟨v, rfl, j⟩ := call1 iv
    subst hn; cases j
    exact .inl ⟨n, rfl, q _ B H _ (Grow.refl eb) (.int _) hp⟩) he) hg PyProof.Rows.boot_int (by decide +kernel) (by decide +kernel) he rfl
theorem ex_min2 (c : Ctx X N S) (hm : X.mg "min" = none) (h : EX X B0 H0 sds os a fun d => ∃ n, d = .int n ∧ EX X B0 H0 sds os b fun d => ∃ m, d = .int m ∧ P (.int (if m < n then m else n))) (hg : glB S "min" = true := by decide +kernel) (he : starEach [a, b] X.env = [(false, eval a X.env), (false, eval b X.env)] := by rfl) (he2 : starEach [b] X.env = [(false, eval b X.env)] := by rfl) : EX X B0 H0 sds os (.Call (.Name "min" p) [a, b] [] pos) P :=
  ex_callB c (call_min2 c.calm) hm (ea_cons (h.imp fun d ⟨n, hn, k⟩ => ea_cons (k.imp fun d' ⟨m, hm', hp⟩ => ea_nil fun B H vs eb iv Q q => by
    obtain ⟨v, v', rfl, i1, i2⟩ := call2 iv
    subst hn; subst hm'; cases i1; cases i2
    exact ⟨n, m, rfl, q _ B H _ (Grow.refl eb) (.int _) hp⟩) he2) (by rw [he, he2])) hg (by decide +kernel) (by decide +kernel) (by decide +kernel) (by rw [he, he2]) (by rw [he2]; rfl)
theorem ex_max2 (c : Ctx X N S) (hm : X.mg "max" = none) (h : EX X B0 H0 sds os a fun d => ∃ n, d = .int n ∧ EX X B0 H0 sds os b fun d => ∃ m, d = .int m ∧ P (.int (if m > n then m else n))) (hg : glB S "max" = true := by decide +kernel) (he : starEach [a, b] X.env = [(false, eval a X.env), (false, eval b X.env)] := by rfl) (he2 : starEach [b] X.env = [(false, eval b X.env)] := by rfl) : EX X B0 H0 sds os (.Call (.Name "max" p) [a, b] [] pos) P :=
  ex_callB c (call_max2 c.calm) hm (ea_cons (h.imp fun d ⟨n, hn, k⟩ => ea_cons (k.imp fun d' ⟨m, hm', hp⟩ => ea_nil fun B H vs eb iv Q q => by
    obtain ⟨v, v', rfl, i1, i2⟩ := call2 iv
    subst hn; subst hm'; cases i1; cases i2
    exact ⟨n, m, rfl, q _ B H _ (Grow.refl eb) (.int _) hp⟩) he2) (by rw [he, he2])) hg (by decide +kernel) (by decide +kernel) (by decide +kernel) (by rw [he, he2]) (by rw [he2]; rfl)
/-- tuple(xs) -/
theorem ex_tupleOf (c : Ctx X N S) (hm : X.mg "tuple" = none) (h : EX X B0 H0 sds os e fun d => ∃ l, (d = .lst l ∨ d = .tup l) ∧ P (.tup l)) (hg : glB S "tuple" = true := by decide +kernel) (he : starEach [e] X.env = [(false, eval e X.env)] := by rfl) : EX X B0 H0 sds os (.Call (.Name "tuple" p) [e] [] pos) P :=
  ex_callTy c call_tuple_of hm (ea_cons (h.imp fun d ⟨l, hn, hp⟩ => ea_nil fun B H vs eb iv Q q => by
    obtain ⟨v, rfl, j⟩ := call1 iv
    rcases hn with e | e
    · subst e
      cases j with
      | @lst a xs _ hs ha =>
        refine ⟨_, _, rfl, .inl ⟨SqL.of (eb _ _ hs), fun t ht => ?_⟩⟩
        have g := Grow.new (o := .tup xs) eb ht
        exact q _ _ _ _ g (.tup upd_same (IsAll.mono g.b _ _ ha)) hp
    · subst e
      cases j with
      | tup hs ha => exact ⟨_, _, rfl, .inr ⟨SqT.of (eb _ _ hs), q _ B H _ (Grow.refl eb) (.tup hs ha) hp⟩⟩) he) hg (by decide +kernel) (by decide +kernel) (by decide +kernel) he rfl
/-- list(xs) -/
theorem el_listOf (c : Ctx X N S) {P : List D → Prop} (hm : X.mg "list" = none) (h : EX X B0 H0 sds os e fun d => ∃ l, (d = .lst l ∨ d = .tup l) ∧ P l) (hg : glB S "list" = true := by decide +kernel) (he : starEach [e] X.env = [(false, eval e X.env)] := by rfl) : EL X B0 H0 sds os (.Call (.Name "list" p) [e] [] pos) P :=
  el_callTy c call_list_of hm (ea_cons (h.imp fun d ⟨l, hn, hp⟩ => ea_nil fun B H vs eb iv Q q => by
    obtain ⟨v, rfl, j⟩ := call1 iv
    rcases hn with e | e
    · subst e
      cases j with
      | lst hs ha => exact ⟨_, _, rfl, .inl (SqL.of (eb _ _ hs)), fun t ht => q t _ B _ l (Grow.up eb (Evl.Ex.new ht)) ht (Evl.fresh_back eb ht) upd_same ha hp⟩
    · subst e
      cases j with
      | tup hs ha => exact ⟨_, _, rfl, .inr (SqT.of (eb _ _ hs)), fun t ht => q t _ B _ l (Grow.up eb (Evl.Ex.new ht)) ht (Evl.fresh_back eb ht) upd_same ha hp⟩) he) hg (by decide +kernel) (by decide +kernel) (by decide +kernel) he rfl
/-- all, any of a list of bools -/
theorem bools_of {K : PySem.W.Frag} {B : Hp} : ∀ {bs : List Bool} {xs : List V}, IsAll K B xs (bs.map .bl) → xs = bs.map V.bl
  | [], _, h => by cases h; rfl
  | b :: bs, _, h => by
    cases h with
    | cons h1 h2 => cases h1; rw [bools_of h2] <;> rfl
theorem ints_of {K : PySem.W.Frag} {B : Hp} : ∀ {bs : List Int} {xs : List V}, IsAll K B xs (bs.map .int) → xs = bs.map V.int
  | [], _, h => by cases h; rfl
  | b :: bs, _, h => by
    cases h with
    | cons h1 h2 => cases h1; rw [ints_of h2] <;> rfl
theorem of_ints {K : PySem.W.Frag} {B : Hp} : ∀ {bs : List Int}, IsAll K B (bs.map V.int) (bs.map .int)
  | [] => .nil
  | b :: bs => .cons (.int b) of_ints
end
end OB
set_option Elab.async false
set_option linter.all false
set_option maxRecDepth 100000
set_option maxHeartbeats 4000000
namespace OB
open PySem PySem.Spec PyProof.Rows L2
/-! ### lists of lists that we own -/
theorem Rows.get {K : PySem.W.Frag} {B H : Hp} : ∀ {rs : List Addr} {M : List (List D)} {i : Nat} {r : Addr}, Rows K B H rs M → rs[i]? = some r → ∃ xs l, M[i]? = some l ∧ H r = some (.lst xs) ∧ IsAll K B xs l
  | _, _, i, r, .nil, h => by simp at h
  | _, _, 0, r, .cons h1 h2 h3, h => by simp at h; subst h; exact ⟨_, _, rfl, h1, h2⟩
  | _, _, i + 1, r, .cons h1 h2 h3, h => by
    obtain ⟨xs, l, q1, q2, q3⟩ := Rows.get (i := i) h3 (by simpa using h)
    exact ⟨xs, l, by simpa using q1, q2, q3⟩
theorem Rows.len {K : PySem.W.Frag} {B H : Hp} : ∀ {rs : List Addr} {M : List (List D)}, Rows K B H rs M → rs.length = M.length
  | _, _, .nil => rfl
  | _, _, .cons h1 h2 h3 => by rw [List.length_cons, List.length_cons, h3.len]
theorem Rows.upd_ne {K : PySem.W.Frag} {B H : Hp} {p : Addr} {o : HO} : ∀ {rs : List Addr} {M : List (List D)}, Rows K B H rs M → p ∉ rs → Rows K B (upd H p o) rs M
  | _, _, .nil, _ => .nil
  | _, _, .cons h1 h2 h3, hn => .cons (by rw [L2.upd_ne (fun z => hn (by simp [z]))]; exact h1) h2 (h3.upd_ne fun z => hn (List.mem_cons_of_mem _ z))
theorem Rows.set {K : PySem.W.Frag} {B H : Hp} {ys : List V} {l' : List D} (ha : IsAll K B ys l') : ∀ {rs : List Addr} {M : List (List D)} {i : Nat} {r : Addr}, Rows K B H rs M → rs.Nodup → rs[i]? = some r → Rows K B (upd H r (.lst ys)) rs (M.set i l')
  | _, _, i, r, .nil, _, h => by simp at h
  | r0 :: rs, _, 0, r, .cons h1 h2 h3, nd, h => by
    simp at h; subst h
    exact .cons upd_same ha (h3.upd_ne (List.nodup_cons.mp nd).1)
  | r0 :: rs, _, i + 1, r, .cons h1 h2 h3, nd, h => by
    have h' : rs[i]? = some r := by simpa using h
    have ne : r0 ≠ r := fun z => (List.nodup_cons.mp nd).1 (z ▸ List.mem_of_getElem? h')
    exact .cons (by rw [L2.upd_ne ne]; exact h1) h2 (Rows.set ha h3 (List.nodup_cons.mp nd).2 h')
theorem Rows.app {K : PySem.W.Frag} {B H : Hp} {r : Addr} {xs : List V} {l : List D} (h1 : H r = some (.lst xs)) (h2 : IsAll K B xs l) : ∀ {rs : List Addr} {M : List (List D)}, Rows K B H rs M → Rows K B H (rs ++ [r]) (M ++ [l])
  | _, _, .nil => .cons h1 h2 .nil
  | _, _, .cons q1 q2 q3 => .cons q1 q2 (Rows.app h1 h2 q3)
theorem Rows.is {K : PySem.W.Frag} {B B' H : Hp} (e : Ex B B') : ∀ {rs : List Addr} {M : List (List D)}, Rows K B H rs M → (∀ r ∈ rs, B' r = H r) → IsAll K B' (rs.map V.ref) (M.map .lst)
  | _, _, .nil, _ => .nil
  | _, _, .cons h1 h2 h3, hb => .cons (.lst (by rw [hb _ (by simp)]; exact h1) (IsAll.mono e _ _ h2)) (h3.is e fun r hr => hb r (List.mem_cons_of_mem _ hr))
def adds (B H : Hp) (as : List Addr) : Hp := fun a => if a ∈ as then H a else B a
theorem adds_in {B H : Hp} {as : List Addr} {a : Addr} (h : a ∈ as) : adds B H as a = H a := if_pos h
theorem adds_out {B H : Hp} {as : List Addr} {a : Addr} (h : a ∉ as) : adds B H as a = B a := if_neg h
theorem adds_b {B H : Hp} {as : List Addr} (h : ∀ a ∈ as, B a = none) : Ex B (adds B H as) := fun a o e => by
  by_cases ha : a ∈ as
  · rw [h a ha] at e; cases e
  · rw [adds_out ha]; exact e
theorem adds_h {B H : Hp} {as : List Addr} (e : Ex B H) : Ex (adds B H as) H := fun a o q => by
  by_cases ha : a ∈ as
  · rw [adds_in ha] at q; exact q
  · rw [adds_out ha] at q; exact e _ _ q
/-- a new list of new lists -/
def EM (X : Cx) (B0 H0 : Hp) (sds : List SD) (os : List (Addr × OV)) (e : Expr) (P : List (List D) → Prop) : Prop := ∀ B H σ, St X.K B0 H0 B H σ sds os → ∀ Q : VK,
  (∀ p rs B' H' M, Grow B H B' H' → (∀ a ∈ p :: rs, H a = none ∧ B' a = none) → (p :: rs).Nodup → H' p = some (.lst (rs.map V.ref)) → Rows X.K B' H' rs M → P M → Q (.ref p) H') → wE X e σ H Q
section
variable {X : Cx} {N : List PySem.Str} {S scope : Scope} {B0 H0 : Hp} {sds : List SD} {os : List (Addr × OV)} {E : DE} {pos : Pos} {a b e elt tg iter : Expr} {es : List Expr} {P : D → Prop}
theorem EM.imp {P P' : List (List D) → Prop} (h : EM X B0 H0 sds os e P) (i : ∀ M, P M → P' M) : EM X B0 H0 sds os e P' := fun B H σ s Q q => h B H σ s Q fun p rs B' H' M g h1 h2 h3 h4 pm => q p rs B' H' M g h1 h2 h3 h4 (i M pm)
theorem ex_ofM (h : EM X B0 H0 sds os e fun M => P (.lst (M.map .lst))) : EX X B0 H0 sds os e P := fun B H σ s Q q => h B H σ s Q fun p rs B' H' M g h1 h2 h3 h4 pm => by
  have eb : Ex B' (adds B' H' (p :: rs)) := adds_b fun a ha => (h1 a ha).2
  refine q _ (adds B' H' (p :: rs)) H' _ ⟨g.b.trans eb, g.h, adds_h g.bh, fun a ha => ?_⟩ (.lst (by rw [adds_in (by simp)]; exact h3) (h4.is eb fun r hr => adds_in (List.mem_cons_of_mem _ hr))) pm
  by_cases hm : a ∈ p :: rs
  · exact .inr (.inl (h1 a hm).1)
  · rw [adds_out hm] at ha; exact g.fr a ha
/-- x = a new matrix -/
theorem g1_asgM (c : CtxD X N S) (i : Nat) {x : PySem.Str} {pos' : Pos} (h : EM X B0 H0 sds os e fun M => ∀ p rs, E.nx (sds.set i (.v (.ref p))) ((p, .mat rs M) :: os)) (hN : N[i]? = some x := by rfl) (hv : locB S x = true := by decide +kernel)
    (hs : swapsWith e (some (.Name x pos')) pos.line X.env = pure false := by rfl) : Go1 X B0 H0 sds os E (.Assign [.Name x pos'] e pos) := fun A B H σ ea s =>
  PS.to (ps_set (i := i) (by rw [c.hN]; exact c.nd) (by rw [c.hN]; exact hN) (c.toCtx.loc hv) pe_w hs c.locf) (h B H σ s _ fun p rs B1 H1 M g1 h1 h2 h3 h4 k => by
    have s1 := s.grow g1
    refine ⟨B1, _, _, ea.trans g1.b, ⟨s1.g, s1.sl.set (sd := .v (.ref p)) rfl, fun e he => ?_, fun a ha => ?_, ?_⟩, k p rs⟩
    · rcases List.mem_cons.mp he with z | z
      · subst z; exact ⟨h3, h4⟩
      · exact s1.ow e z
    · rw [List.flatMap_cons] at ha
      rcases List.mem_append.mp ha with z | z
      · exact ⟨(h1 a z).2, Evl.fresh_back s.g.h (h1 a z).1⟩
      · exact s1.fr a z
    · rw [List.flatMap_cons]
      refine List.nodup_append.mpr ⟨h2, s1.nd, fun a ha b hb => ?_⟩
      rintro rfl
      exact s.notin (h1 a ha).1 hb)
/-- a matrix that we own becomes the base's -/
theorem go_freezeM (i j : Nat) {p : Addr} {rs : List Addr} {M : List (List D)} {sts : List Stmt} (h : Go X B0 H0 (sds.set i (.d (.lst (M.map .lst)))) (os.eraseIdx j) E sts) (hj : os[j]? = some (p, .mat rs M) := by rfl) (hi : sds[i]? = some (.v (.ref p)) := by rfl) : Go X B0 H0 sds os E sts := fun A B H σ ea s => by
  obtain ⟨h3, h4⟩ := s.ow _ (List.mem_of_getElem? hj)
  have nd := s.nd
  rw [split_at hj, List.flatMap_append, List.flatMap_cons] at nd
  have nd2 := List.nodup_append.mp nd
  have nd3 := List.nodup_append.mp nd2.2.1
  have fr : ∀ a ∈ p :: rs, B a = none ∧ H0 a = none := fun a ha => s.fr a (List.mem_flatMap.mpr ⟨_, List.mem_of_getElem? hj, ha⟩)
  have eb : Ex B (adds B H (p :: rs)) := adds_b fun a ha => (fr a ha).1
  have er : ∀ a, a ∈ (os.eraseIdx j).flatMap fpt → a ∈ os.flatMap fpt ∧ a ∉ p :: rs := fun a ha => by
    rw [erase_at, List.flatMap_append] at ha
    rw [split_at hj, List.flatMap_append, List.flatMap_cons]
    rcases List.mem_append.mp ha with z | z
    · exact ⟨List.mem_append_left _ z, fun w => nd2.2.2 a z a (List.mem_append_left _ w) rfl⟩
    · exact ⟨List.mem_append_right _ (List.mem_append_right _ z), fun w => nd3.2.2 a w a z rfl⟩
  refine h A (adds B H (p :: rs)) H σ (ea.trans eb) ⟨⟨s.g.b.trans eb, s.g.h, adds_h s.g.bh, fun a ha => ?_⟩, ⟨by rw [List.length_set]; exact s.sl.len, fun k sd q => ?_⟩, fun e he => ?_, fun a ha => ?_, ?_⟩
  · by_cases hm : a ∈ p :: rs
    · exact .inr (.inl (fr a hm).2)
    · rw [adds_out hm] at ha; exact s.g.fr a ha
  · by_cases hk : i = k
    · subst hk
      have hl : i < sds.length := (List.getElem?_eq_some_iff.mp hi).1
      rw [List.getElem?_set_self hl] at q
      cases q
      exact ⟨.ref p, s.varV hi, .lst (by rw [adds_in (by simp)]; exact h3) (h4.is eb fun r hr => adds_in (List.mem_cons_of_mem _ hr))⟩
    · rw [List.getElem?_set_ne hk] at q
      exact (s.sl.at' k sd q).mono eb
  · have he' : e ∈ os := by
      rw [erase_at] at he
      rw [split_at hj]
      rcases List.mem_append.mp he with z | z
      · exact List.mem_append_left _ z
      · exact List.mem_append_right _ (List.mem_cons_of_mem _ z)
    exact (s.ow e he').mono eb (Evl.Ex.refl _)
  · obtain ⟨q1, q2⟩ := er a ha
    rw [adds_out q2]
    exact s.fr a q1
  · rw [erase_at, List.flatMap_append]
    exact List.nodup_append.mpr ⟨nd2.1, nd3.2.1, fun x hx y hy => nd2.2.2 x hx y (List.mem_append_right _ hy)⟩
/-- x[a][b] = e of an owned matrix -/
theorem g1_setM (c : Ctx X N S) (i j : Nat) {x : PySem.Str} {p : Addr} {rs : List Addr} {M : List (List D)} {px p1 p2 : Pos}
    (h : EX X B0 H0 sds os e fun d => EX X B0 H0 sds os a fun da => ∃ (u : Nat) (row : List D), da = .int (u : Int) ∧ M[u]? = some row ∧ EX X B0 H0 sds os b fun db => ∃ v : Nat, db = .int (v : Int) ∧ v < row.length ∧ E.nx sds (os.set j (p, .mat rs (M.set u (row.set v d)))))
    (hj : os[j]? = some (p, .mat rs M) := by rfl) (hi : sds[i]? = some (.v (.ref p)) := by rfl)
    (hN : N[i]? = some x := by rfl) (hv : visB S x = true := by decide +kernel) (hd : (x == ("__debug__" : PySem.Str)) = false := by decide +kernel) (hcd : (x == ("__classdict__" : PySem.Str)) = false := by decide +kernel)
    (hp : PlainIx a := by exact fun _ _ => rfl)
    (ha : ∀ v, assign (.Subscript (.Subscript (.Name x px) a p1) b p2) X.env v = (do
      let ov ← holding [v] (eval (.Subscript (.Name x px) a p1) X.env)
      let iv ← holding [v, ov] (eval b X.env)
      standAt p2
      holding [v, ov, iv] (setItem ov iv v)
      release [v, ov, iv] []) := by intro _; rfl)
    (hs : swapsWithSole [.Subscript (.Subscript (.Name x px) a p1) b p2] e pos.line X.env = pure false := by rfl) (hw : swappedStores [.Subscript (.Subscript (.Name x px) a p1) b p2] e X.env = pure none := by rfl)
    (h1 : (assignEach [.Subscript (.Subscript (.Name x px) a p1) b p2] X.env).map (·.2) = [assign (.Subscript (.Subscript (.Name x px) a p1) b p2) X.env] := by rfl) :
    Go1 X B0 H0 sds os E (.Assign [.Subscript (.Subscript (.Name x px) a p1) b p2] e pos) := fun A B H σ ea s => by
  refine PS.to (ps_asg pe_w (pg_sub (pe_ix L2.ix_list (pe_var (i := i) (by rw [c.hN]; exact hN) (c.vis hv) hd hcd) pe_w hp) pe_w set_list ha) hs hw h1) ?_
  have mem := List.mem_of_getElem? hj
  obtain ⟨h3, h4⟩ := s.ow _ mem
  refine h B H σ s _ fun v B1 H1 d g1 i1 k1 => ?_
  refine ⟨.ref p, s.varV hi, ?_⟩
  refine k1 B1 H1 σ (s.grow g1) _ fun va B2 H2 da g2 i2 ⟨u, row, e2, hu, k2⟩ => ?_
  subst e2; cases i2
  have s2 := (s.grow g1).grow g2
  obtain ⟨q3, q4⟩ := s2.ow _ mem
  have hl : u < rs.length := by rw [h4.len]; exact (List.getElem?_eq_some_iff.mp hu).1
  have hr : rs[u]? = some rs[u] := List.getElem?_eq_getElem hl
  refine ⟨p, _, (u : Int), .ref rs[u], rfl, rfl, SqL.of q3, atI_nat (by rw [List.getElem?_map, hr] <;> rfl), ?_⟩
  refine k2 B2 H2 σ s2 _ fun vb B3 H3 db g3 i3 ⟨v', e3, hv', kk⟩ => ?_
  subst e3; cases i3
  have s3 := s2.grow g3
  obtain ⟨w3, w4⟩ := s3.ow _ mem
  obtain ⟨xs, row', m1, m2, m3⟩ := w4.get hr
  have er : row' = row := by rw [hu] at m1; exact (Option.some.inj m1).symm
  subst er
  have iv3 : Is X.K B3 v d := (i1.mono g2.b).mono g3.b
  have hxl := m3.len
  refine ⟨rs[u], xs, (v' : Int), v', rfl, rfl, m2, Evl.ixN_nat (by rw [hxl]; exact hv'), ?_⟩
  have al : IsAll X.K B3 (xs.set v' v) (row'.set v' d) := m3.set iv3
  -- the rest stands
  have fr := fun a ha => s3.fr a (List.mem_flatMap.mpr ⟨_, mem, ha⟩)
  have rm : rs[u] ∈ rs := List.getElem_mem hl
  have nd := s3.nd
  rw [split_at hj, List.flatMap_append, List.flatMap_cons] at nd
  have nd2 := List.nodup_append.mp nd
  have nd3 := List.nodup_append.mp nd2.2.1
  have ndp : (p :: rs).Nodup := nd3.1
  have pr : p ≠ rs[u] := fun z => (List.nodup_cons.mp ndp).1 (by rw [z]; exact rm)
  have out : ∀ e' ∈ os.take j ++ os.drop (j + 1), rs[u] ∉ fpt e' := fun e' he hm => by
    rcases List.mem_append.mp he with z | z
    · exact nd2.2.2 _ (List.mem_flatMap.mpr ⟨e', z, hm⟩) _ (List.mem_append_left _ (List.mem_cons_of_mem _ rm)) rfl
    · exact nd3.2.2 _ (List.mem_cons_of_mem _ rm) _ (List.mem_flatMap.mpr ⟨e', z, hm⟩) rfl
  have other : ∀ e' ∈ os.take j ++ os.drop (j + 1), Own X.K B3 (upd H3 rs[u] (.lst (xs.set v' v))) e' := fun e' he => by
    have hn := out e' he
    have ho := s3.ow e' (by
      rw [split_at hj]
      rcases List.mem_append.mp he with z | z
      · exact List.mem_append_left _ z
      · exact List.mem_append_right _ (List.mem_cons_of_mem _ z))
    obtain ⟨q, ov⟩ := e'
    cases ov with
    | lst l => obtain ⟨ys, h1, h2⟩ := ho; exact ⟨ys, by rw [upd_ne (fun z => hn (by simp [fpt, z]))]; exact h1, h2⟩
    | dct l => obtain ⟨ys, h1, h2⟩ := ho; exact ⟨ys, by rw [upd_ne (fun z => hn (by simp [fpt, z]))]; exact h1, h2⟩
    | dck l => obtain ⟨ys, h1, h2⟩ := ho; exact ⟨ys, by rw [upd_ne (fun z => hn (by simp [fpt, z]))]; exact h1, h2⟩
    | ins C dx fs => obtain ⟨ys, h1, h2⟩ := ho; exact ⟨ys, by rw [upd_ne (fun z => hn (by simp [fpt, z]))]; exact h1, h2⟩
    | mat rs' M' => obtain ⟨h1, h2⟩ := ho; exact ⟨by rw [upd_ne (fun z => hn (by simp [fpt, z]))]; exact h1, h2.upd_ne fun z => hn (by simp [fpt, z])⟩
  have frr := fr _ (List.mem_cons_of_mem _ rm)
  have fl : (os.set j (p, OV.mat rs (M.set u (row'.set v' d)))).flatMap fpt = os.flatMap fpt := by
    rw [set_at hj]
    conv => rhs; rw [split_at hj]
    rw [List.flatMap_append, List.flatMap_append, List.flatMap_cons, List.flatMap_cons] <;> rfl
  refine ⟨B3, _, _, ((ea.trans g1.b).trans g2.b).trans g3.b, ⟨⟨s3.g.b, s3.g.h.mut frr.2, Evl.Ex.mut s3.g.bh frr.1, s3.g.fr⟩, s3.sl, fun e' he => ?_, fun a' ha' => s3.fr a' (fl ▸ ha'), fl ▸ s3.nd⟩, kk⟩
  rw [set_at hj] at he
  rcases List.mem_append.mp he with z | z
  · exact other e' (List.mem_append_left _ z)
  · rcases List.mem_cons.mp z with z | z
    · subst z
      exact ⟨by rw [upd_ne pr]; exact w3, Rows.set al w4 (List.nodup_cons.mp ndp).2 hr⟩
    · exact other e' (List.mem_append_right _ z)
abbrev MOk (X : Cx) (scope : Scope) (B0 H0 : Hp) (sds : List SD) (os : List (Addr × OV)) (t : Tg) (vs : List Nat) (elt : Expr) (P : List (List D) → Prop) (l : List D) : Prop := ∃ (α : Type) (L : List α) (enc : α → D) (g : α → List D), l = L.map enc ∧ L.length ≤ 100000 ∧ (∀ x ∈ L, t.put (enc x) (wipeS sds vs) fun s' => ∀ X', Blk X scope X' → EL X' B0 H0 s' os elt (· = g x)) ∧ P (L.map g)
theorem lcM_run {P : List (List D) → Prop} {vs : List Nat} {t : Tg} (hv' : ∀ i ∈ t.idx, i ∈ vs) {wi : TI} (hw : ∀ B H σ, St X.K B0 H0 B H σ sds os → ∀ R : L2.It → Hp → Prop, (∀ J B' H' l, Grow B H B' H' → MOk X scope B0 H0 sds os t vs elt P l → Walk X.K J B' l → R J H') → wi σ H R) {B H : Hp} {σ : L2.St} (s : St X.K B0 H0 B H σ sds os) {Q : VK}
    (q : ∀ p rs B' H' M, Grow B H B' H' → (∀ a ∈ p :: rs, H a = none ∧ B' a = none) → (p :: rs).Nodup → H' p = some (.lst (rs.map V.ref)) → Rows X.K B' H' rs M → P M → Q (.ref p) H') :
    tLc wi (t.r X.K) tYes (fun σ H Q => ∀ X', Blk X scope X' → wE X' elt σ H Q) vs σ H Q := by
  refine hw B H σ s _ fun J B1 H1 l g1 ⟨α, L, enc, g, hl, hz, ht, hp⟩ wk => ?_
  have s1 := s.grow g1
  intro Dl hD
  have bD : B1 Dl = none := Evl.fresh_back g1.bh hD
  have ll : l.length = L.length := by rw [hl, List.length_map]
  refine ⟨fun k m H' => m = L.length - k ∧ k ≤ L.length ∧ ∃ B' rs, Grow B1 H1 B' H' ∧ (∀ a ∈ Dl :: rs, H1 a = none ∧ B' a = none) ∧ (Dl :: rs).Nodup ∧ H' Dl = some (.lst (rs.map V.ref)) ∧ Rows X.K B' H' rs ((L.take k).map g), ⟨L.length, by simp, Nat.zero_le _, B1, [], ⟨Evl.Ex.refl _, Evl.Ex.new hD, g1.bh.trans (Evl.Ex.new hD), fun _ h => .inl h⟩, fun a ha => ?_, by simp, upd_same, .nil⟩, ?_⟩
  · have e : a = Dl := by simpa using ha
    subst e; exact ⟨hD, bD⟩
  rintro k m H' ⟨rfl, hk, B', rs, gr, fr, nd, h', al⟩
  by_cases hlt : k < L.length
  · refine .inr ⟨wk.go k H' (gr.b.trans gr.bh) (by rw [ll]; exact hlt), fun H2 => k + 1 ≤ L.length ∧ ∃ B2 rs2, Grow B1 H1 B2 H2 ∧ (∀ a ∈ Dl :: rs2, H1 a = none ∧ B2 a = none) ∧ (Dl :: rs2).Nodup ∧ H2 Dl = some (.lst (rs2.map V.ref)) ∧ Rows X.K B2 H2 rs2 ((L.take (k + 1)).map g), fun H2 ⟨hk2, h2⟩ => ⟨L.length - (k + 1), by omega, rfl, hk2, h2⟩, fun x H2 hy => ?_⟩
    obtain ⟨d, B2, hd, g2, i2⟩ := wk.yld k B' H' x H2 gr.b gr.bh (by rw [ll]; exact hlt) hy
    obtain ⟨y, hy'⟩ : ∃ y, L[k]? = some y := ⟨_, List.getElem?_eq_getElem hlt⟩
    have ed : d = enc y := by
      rw [hl, List.getElem?_map, hy'] at hd
      exact (Option.some.inj hd).symm
    subst ed
    have ym : y ∈ L := List.mem_of_getElem? hy'
    have gr2 := gr.trans g2
    have s2 := (s1.grow gr2).wipe vs
    refine Tg.runW (vv := vs) hv' s2 i2 (ht y ym) fun σ3 sds3 we s3 kk => ⟨we.trans wipe_wipe, ?_⟩
    simp only [tYes, if_true]
    intro X' bx
    have hk' : X'.K = X.K := by obtain ⟨_, _, _, _, _, rfl⟩ := bx; rfl
    have ex := kk X' bx
    have s3' := s3
    rw [← hk'] at s3'
    refine ex B2 H2 σ3 s3' _ fun r xs B4 H4 l4 g4 hr br h4 i4 e4 => ?_
    subst e4
    rw [hk'] at i4
    have gr4 := gr2.trans g4
    have gg := g2.trans g4
    have h5 : H4 Dl = some (.lst (rs.map V.ref)) := gg.h _ _ h'
    have stay : ∀ a ∈ Dl :: rs, B4 a = none := fun a ha => by
      rcases List.mem_cons.mp ha with z | z
      · subst z; exact gg.out (fr _ (by simp)).2 h'
      · obtain ⟨o, ho, ht⟩ := al.at z
        exact gg.out (fr a ha).2 ho ht
    have rn : r ∉ Dl :: rs := fun hm => by
      have hH : ∃ o, H' r = some o := by
        rcases List.mem_cons.mp hm with z | z
        · subst z; exact ⟨_, h'⟩
        · obtain ⟨o, ho, _⟩ := al.at z; exact ⟨o, ho⟩
      obtain ⟨o, ho⟩ := hH
      rw [g2.h _ _ ho] at hr; cases hr
    have len : (rs.map V.ref).length ≤ 100000 := by
      rw [List.length_map, al.len, List.length_map, List.length_take]; omega
    have al4 := al.mono gg.b gg.h
    have rD : r ≠ Dl := fun z => rn (by simp [z])
    refine ⟨rs.map V.ref, h5, Nat.lt_of_le_of_lt len (by decide), hlt, B4, rs ++ [r], ⟨gr4.b, gr4.h.mut hD, Evl.Ex.mut gr4.bh (stay _ (by simp)), gr4.fr⟩, fun a ha => ?_, ?_, by rw [List.map_append]; exact upd_same, ?_⟩
    · have : a ∈ Dl :: rs ∨ a = r := by
        simp only [List.mem_cons, List.mem_append, List.not_mem_nil, or_false] at ha ⊢
        rcases ha with z | z | z
        · exact .inl (.inl z)
        · exact .inl (.inr z)
        · exact .inr z
      rcases this with z | z
      · exact ⟨(fr a z).1, stay a z⟩
      · subst z
        exact ⟨Evl.fresh_back gr2.h hr, br⟩
    · have e : Dl :: (rs ++ [r]) = (Dl :: rs) ++ [r] := rfl
      rw [e]
      refine List.nodup_append.mpr ⟨nd, by simp, fun a ha b hb => ?_⟩
      have hb' : b = r := by simpa using hb
      rintro rfl
      exact rn (hb' ▸ ha)
    · have et : (L.take (k + 1)).map g = (L.take k).map g ++ [g y] := by
        rw [List.take_succ, hy', List.map_append] <;> rfl
      rw [et]
      refine Rows.app (by rw [upd_ne rD]; exact h4) i4 (al4.upd_ne ?_)
      exact (List.nodup_cons.mp nd).1
  · have e : k = L.length := by omega
    subst e
    refine .inl ⟨wk.stop _ H' (gr.b.trans gr.bh) (by rw [ll]; exact Nat.le_refl _), ?_⟩
    rw [List.take_length] at al
    exact q Dl rs B' H' _ (g1.trans gr) (fun a ha => ⟨Evl.fresh_back g1.h (fr a ha).1, (fr a ha).2⟩) nd h' al hp
/-- [elt for ..], elt a new list at each turn -/
theorem em_lc0 {P : List (List D) → Prop} (c : Ctx X N S) (own : List (PySem.Str × Nat)) (t : Tg) (hg : ∀ X', Blk X scope X' → PG X' tg (t.r X'.K))
    (hi : IX X B0 H0 sds os tg iter (MOk X scope B0 H0 sds os t (own.map (·.2)) elt P))
    (hb : blkC N S scope own = true := by decide +kernel) (hv : (t.idx.all fun i => decide (i ∈ own.map (·.2))) = true := by decide) (hs : ∀ x, foldedSetIterable iter X.env x = pure x := by intro _; rfl) :
    EM X B0 H0 sds os (.ListComp elt [⟨tg, iter, [], 0⟩] scope pos) P := fun B H σ s Q q => by
  obtain ⟨wi, hpi, hw⟩ := hi
  have hv' : ∀ i ∈ t.idx, i ∈ own.map (·.2) := fun i h => of_decide_eq_true (List.all_eq_true.mp hv i h)
  exact PE.to (pe_lc (g := t.r X.K) (tt := tYes) (te := fun σ H Q => ∀ X', Blk X scope X' → wE X' elt σ H Q) c.calm (by rw [c.hN]; exact c.nd) hpi (blkOk_by (by rw [c.hN, c.hS]; exact hb)) (fun s H C cl fp => hg _ ⟨s, H, C, cl, fp, rfl⟩) (fun _ _ _ _ _ => pts_nil) (fun s H C cl fp => ⟨fun pins sh σ' H' Q' I h => (h _ ⟨s, H, C, cl, fp, rfl⟩).run pins sh I⟩) hs) (lcM_run hv' hw s q)
end
end OB
set_option Elab.async false
set_option linter.all false
set_option maxRecDepth 100000
set_option maxHeartbeats 4000000
namespace OB
open PySem PySem.Spec PyProof.Rows L2
section
variable {X : Cx} {N : List PySem.Str} {S scope : Scope} {B0 H0 : Hp} {sds : List SD} {os : List (Addr × OV)} {E : DE} {pos p : Pos} {a b e elt tg iter cond : Expr} {es : List Expr} {P : D → Prop}
/-! ### lists put together -/
def OpL (K : PySem.W.Frag) (r : R2) (a b : D) (P : List D → Prop) : Prop := ∀ B H v w, Ex B H → Is K B v a → Is K B w b → ∀ Q : VK, (∀ p xs B' H' l, Grow B H B' H' → H p = none → B' p = none → H' p = some (.lst xs) → IsAll K B' xs l → P l → Q (.ref p) H') → r v w H Q
theorem el_bin {op : Operator} {r : R2} {P : List D → Prop} (ho : OpR X (binaryOp op) r) (h : EX X B0 H0 sds os a fun da => EX X B0 H0 sds os b fun db => OpL X.K r da db P) : EL X B0 H0 sds os (.BinOp a op b pos) P := fun B H σ s Q q =>
  PE.to (pe_op ho pe_w pe_w) (h B H σ s _ fun v B1 H1 d g1 i1 k => k B1 H1 σ (s.grow g1) _ fun w B2 H2 d' g2 i2 k2 => k2 B2 H2 v w g2.bh (i1.mono g2.b) i2 Q fun u xs B3 H3 l g3 h1 h2 h3 i3 p3 => q u xs B3 H3 l ((g1.trans g2).trans g3) (Evl.fresh_back g1.h (Evl.fresh_back g2.h h1)) h2 h3 i3 p3)
theorem el_cat {P : List D → Prop} (h : EX X B0 H0 sds os a fun da => ∃ l, da = .lst l ∧ EX X B0 H0 sds os b fun db => ∃ m, db = .lst m ∧ l.length + m.length ≤ 100000 ∧ P (l ++ m)) : EL X B0 H0 sds os (.BinOp a .Add b pos) P :=
  el_bin op_cat (h.imp fun d ⟨l, e1, k⟩ => k.imp fun d' ⟨m, e2, hz, hp⟩ => fun B H v w ex i1 i2 Q q => by
    subst e1; subst e2
    cases i1 with
    | lst h1 a1 => cases i2 with
      | lst h2 a2 => exact ⟨_, _, _, _, rfl, rfl, ex _ _ h1, ex _ _ h2, by rw [a1.len, a2.len]; exact Nat.le_trans hz (by decide), fun p hp' => q p _ B _ _ (Grow.up ex (Evl.Ex.new hp')) hp' (Evl.fresh_back ex hp') upd_same (a1.app a2) hp⟩)
theorem ex_catT (h : EX X B0 H0 sds os a fun da => ∃ l, da = .tup l ∧ EX X B0 H0 sds os b fun db => ∃ m, db = .tup m ∧ l.length + m.length ≤ 100000 ∧ P (.tup (l ++ m))) : EX X B0 H0 sds os (.BinOp a .Add b pos) P :=
  ex_bin op_catA (h.imp fun d ⟨l, e1, k⟩ => k.imp fun d' ⟨m, e2, hz, hp⟩ => fun B H v w ex i1 i2 Q q => by
    subst e1; subst e2
    have z1 := i1; have z2 := i2
    cases i1 with
    | @tup a1' xs1 l1' h1 a1 => cases i2 with
      | @tup a2' xs2 l2' h2 a2 =>
        have l1 := a1.len; have l2 := a2.len
        refine ⟨_, _, _, _, rfl, rfl, SqT.of (ex _ _ h1), SqT.of (ex _ _ h2), by rw [a1.len, a2.len]; exact Nat.le_trans hz (by decide), fun en => ?_, fun _ en => ?_, fun _ _ t ht => ?_⟩
        · rw [en] at l1; have : l = [] := List.eq_nil_of_length_eq_zero l1.symm
          subst this; exact q _ B H _ (Grow.refl ex) z2 hp
        · rw [en] at l2; have : m = [] := List.eq_nil_of_length_eq_zero l2.symm
          subst this; rw [List.append_nil] at hp; exact q _ B H _ (Grow.refl ex) z1 hp
        · have g := Grow.new (o := .tup (xs1 ++ xs2)) ex ht
          exact q _ _ _ _ g (.tup upd_same (IsAll.mono g.b _ _ (a1.app a2))) hp)
theorem isall_rep {K : PySem.W.Frag} {B : Hp} {xs : List V} {l : List D} (h : IsAll K B xs l) : ∀ k : Nat, IsAll K B (List.replicate k xs).flatten (List.replicate k l).flatten
  | 0 => .nil
  | k + 1 => by rw [List.replicate_succ, List.flatten_cons, List.replicate_succ, List.flatten_cons]; exact h.app (isall_rep h k)
theorem rep1 {α : Type} {x : α} : ∀ m : Nat, (List.replicate m [x]).flatten = List.replicate m x
  | 0 => rfl
  | m + 1 => by rw [List.replicate_succ, List.flatten_cons, rep1 m, List.replicate_succ] <;> rfl
/-- [d] * n -/
theorem el_rep {P : List D → Prop} (h : EX X B0 H0 sds os a fun da => ∃ d, da = .lst [d] ∧ EX X B0 H0 sds os b fun db => ∃ n : Nat, db = .int (n : Int) ∧ n ≤ 100000 ∧ P (List.replicate n d)) : EL X B0 H0 sds os (.BinOp a .Mult b pos) P :=
  el_bin op_rep (h.imp fun d ⟨l, e1, k⟩ => k.imp fun d' ⟨m, e2, hz, hp⟩ => fun B H v w ex i1 i2 Q q => by
    subst e1; subst e2; cases i2
    cases i1 with
    | lst h1 a1 =>
      refine ⟨_, _, _, rfl, rfl, ex _ _ h1, by omega, by omega, ?_, fun p hp' => ?_⟩
      · rw [a1.len]
        have : (100000 : Nat) ≤ sizeLine := by decide
        simp; omega
      · refine q p _ B _ (List.replicate m l) (Grow.up ex (Evl.Ex.new hp')) hp' (Evl.fresh_back ex hp') upd_same ?_ hp
        have h := isall_rep a1 m
        rw [rep1] at h
        exact h)

/-! ### methods of lists -/
/-- xs.index(d), ints -/
theorem ex_indexI (c : Ctx X N S) {pa : Pos} {k : Nat} (hr : Room k X.A) (h : EX X B0 H0 sds os a fun da => ∃ ns : List Int, da = .lst (ns.map .int) ∧ EX X B0 H0 sds os b fun db => ∃ (i : Int) (j : Nat), db = .int i ∧ ns[j]? = some i ∧ (∀ m, m < j → ns[m]? ≠ some i) ∧ P (.int (j : Int)))
    (hbase : attributeBase a "index" X.env (eval a X.env) = eval a X.env := by rfl)
    (hfew : ((backTo pos (starEach [b] X.env)).all (fun x => !x.1) && (backToKw pos (keywordEach [] X.env)).all (fun x => x.1.isSome)
      && decide ([b].length + ([] : List Keyword).length + (if ([] : List Keyword).isEmpty then 0 else 1) < 30)) = true := by rfl)
    (hline : (pa.endLine == pos.line) = true := by rfl) (hst : starEach [b] X.env = [(false, eval b X.env)] := by rfl) : EX X B0 H0 sds os (.Call (.Attribute a "index" pa) [b] [] pos) P := fun B H σ s Q q => by
  refine PE.to (pe_bm PySem.F.plainAttrs_list PySem.F.slot_list_index PySem.F.type_list_index mt_index pe_w (pa_cons pe_w pa_nil hst) hbase hfew hline hst rfl) ?_
  refine h B H σ s _ fun v B1 H1 d g1 i1 ⟨ns, e1, k1⟩ => ?_
  subst e1
  cases i1 with
  | @lst ad xs l hs ha =>
    have hx := ints_of ha
    subst hx
    refine ⟨.inl ⟨rfl, _, SqL.of (g1.bh _ _ hs)⟩, ?_⟩
    refine k1 B1 H1 σ (s.grow g1) _ fun w B2 H2 d2 g2 i2 ⟨i, j, e2, hj, hno, hp⟩ => ?_
    subst e2; cases i2
    refine ⟨ad, _, .int i, j, .int i, rfl, rfl, SqL.of (g2.bh _ _ (g2.b _ _ hs)), rfl, ?_, ?_, ?_, ?_, q _ B2 H2 _ (g1.trans g2) (.int _) hp⟩
    · rw [List.all_eq_true]; intro y hy; obtain ⟨n, _, rfl⟩ := List.mem_map.mp hy; rfl
    · rw [List.getElem?_map, hj]; rfl
    · simp [eqV]
    · intro m z' hm hz
      rw [List.getElem?_map] at hz
      cases hn : ns[m]? with
      | none => rw [hn] at hz; cases hz
      | some n =>
        rw [hn] at hz
        cases hz
        have : n ≠ i := fun e => hno m hm (e ▸ hn)
        simp [eqV, this]
/-- n.bit_length() -/
theorem ex_bits {pa : Pos} (h : EX X B0 H0 sds os a fun da => ∃ i, da = .int i ∧ P (.int (Builtin.Int.intBits i : Nat)))
    (hbase : attributeBase a "bit_length" X.env (eval a X.env) = eval a X.env := by rfl) (hline : (pa.endLine == pos.line) = true := by rfl) : EX X B0 H0 sds os (.Call (.Attribute a "bit_length" pa) [] [] pos) P := fun B H σ s Q q =>
  PE.to (pe_bits pe_w hbase hline) (h B H σ s _ fun v B1 H1 d g1 i1 ⟨i, e1, hp⟩ => by
    subst e1; cases i1
    exact ⟨i, rfl, q _ B1 H1 _ g1 (.int _) hp⟩)
end
end OB
set_option Elab.async false
set_option linter.all false
set_option maxRecDepth 100000
set_option maxHeartbeats 4000000
namespace OB
open PySem PySem.Spec PyProof.Rows L2
/-! ### equality of data -/
mutual
def py : D → PyData
  | .non => .none
  | .bl b => .bool b
  | .int i => .int i
  | .str x => .str x
  | .lst l => .list (pyAll l)
  | .tup l => .tuple (pyAll l)
  | .ins _ _ => .none
  | .drw => .none
  | .dct _ => .none
  | .dck _ => .none
  | .rng _ _ => .none
  | .tpk _ => .none
def pyAll : List D → List PyData
  | [] => []
  | d :: l => py d :: pyAll l
end
mutual
def pok : D → Bool
  | .non => true
  | .bl b => true
  | .int i => true
  | .str x => true
  | .lst l => pokAll l
  | .tup l => pokAll l
  | .ins _ _ => false
  | .drw => false
  | .dct _ => false
  | .dck _ => false
  | .rng _ _ => false
  | .tpk _ => false
def pokAll : List D → Bool
  | [] => true
  | d :: l => pok d && pokAll l
end
section
variable {K : PySem.W.Frag} {B H : Hp}
mutual
theorem Is.dp (ex : Ex B H) : ∀ (d : D) (v : V), Is K B v d → pok d = true → Dp K H v (py d)
  | .non, _, h, _ => by cases h; exact .non
  | .bl b, _, h, _ => by cases h; exact .bl b
  | .int b, _, h, _ => by cases h; exact .int b
  | .str b, _, h, _ => by cases h; exact .str b
  | .lst l, _, h, q => by
    cases h with
    | lst hs ha => exact .lst (SqL.of (ex _ _ hs)) (IsAll.dp ex l _ ha q)
  | .tup l, _, h, q => by
    cases h with
    | tup hs ha => exact .tup (SqT.of (ex _ _ hs)) (IsAll.dp ex l _ ha q)
  | .ins C fs, _, h, q => by simp [pok] at q
  | .drw, _, h, q => by simp [pok] at q
  | .dct _, _, h, q => by simp [pok] at q
  | .dck _, _, h, q => by simp [pok] at q
  | .rng _ _, _, h, q => by simp [pok] at q
  | .tpk _, _, h, q => by simp [pok] at q
theorem IsAll.dp (ex : Ex B H) : ∀ (ds : List D) (vs : List V), IsAll K B vs ds → pokAll ds = true → DpAll K H vs (pyAll ds)
  | [], _, h, _ => by cases h; exact .nil
  | d :: ds, _, h, q => by
    cases h with
    | cons h1 h2 =>
      rw [pokAll, Bool.and_eq_true] at q
      exact .cons (Is.dp ex d _ h1 q.1) (IsAll.dp ex ds _ h2 q.2)
end
end
def shp (d : D) : Bool := pok d && SeqAt.shaped (py d)
def eqd (a b : D) : Bool := PyData.eqv (py a) (py b)
section
variable {X : Cx} {N : List PySem.Str} {S scope : Scope} {B0 H0 : Hp} {sds : List SD} {os : List (Addr × OV)} {E : DE} {pos p : Pos} {a b e elt tg iter cond : Expr} {es : List Expr} {P : D → Prop} {k : Nat}
theorem cmp_eqD {K : PySem.W.Frag} {a b : D} {P : Bool → Prop} (ha : shp a = true) (hb : shp b = true) (p : P (eqd a b)) : CmpD K (rEqD K) a b P := fun B H v w e h1 h2 Q q => by
  rw [shp, Bool.and_eq_true] at ha hb
  exact ⟨_, _, Is.dp e _ _ h1 ha.1, Is.dp e _ _ h2 hb.1, ha.2, hb.2, q _ B H _ (Grow.refl e) (.bl _) ⟨_, rfl, p⟩⟩
theorem cmp_neD {K : PySem.W.Frag} {a b : D} {P : Bool → Prop} (ha : shp a = true) (hb : shp b = true) (p : P (!eqd a b)) : CmpD K (rNeD K) a b P := fun B H v w e h1 h2 Q q => by
  rw [shp, Bool.and_eq_true] at ha hb
  exact ⟨_, _, Is.dp e _ _ h1 ha.1, Is.dp e _ _ h2 hb.1, ha.2, hb.2, q _ B H _ (Grow.refl e) (.bl _) ⟨_, rfl, p⟩⟩
theorem cmp_inD {K : PySem.W.Frag} {a : D} {l : List D} {P : Bool → Prop} (ha : shp a = true) (hb : shp (.lst l) = true) (p : P (l.any fun z => eqd z a)) : CmpD K (rInD K) a (.lst l) P := fun B H v w e h1 h2 Q q => by
  rw [shp, Bool.and_eq_true] at ha hb
  have hl : ∀ l : List D, ((pyAll l).any fun z => PyData.eqv z (py a)) = l.any fun z => eqd z a := by
    intro l; induction l with
    | nil => rfl
    | cons x r ih => rw [pyAll, List.any_cons, List.any_cons, ih]; rfl
  refine ⟨_, pyAll l, Is.dp e _ _ h1 ha.1, Is.dp e _ _ h2 hb.1, ha.2, hb.2, q _ B H _ (Grow.refl e) (.bl _) ⟨_, rfl, ?_⟩⟩
  rw [hl]; exact p
theorem ex_eqD (hr : Room k X.A) (h : EX X B0 H0 sds os a fun da => EX X B0 H0 sds os b fun db => shp da = true ∧ shp db = true ∧ P (.bl (eqd da db))) (hm : behindInMarks .Eq b = false := by rfl) : EX X B0 H0 sds os (.Compare a [.Eq] [b] pos) P :=
  ex_cmpB (op_eqD (by have := hr.un; omega)) hm (h.imp fun d k => k.imp fun d' ⟨h1, h2, p⟩ => cmp_eqD h1 h2 p)
theorem ex_neD (hr : Room k X.A) (h : EX X B0 H0 sds os a fun da => EX X B0 H0 sds os b fun db => shp da = true ∧ shp db = true ∧ P (.bl (!eqd da db))) (hm : behindInMarks .NotEq b = false := by rfl) : EX X B0 H0 sds os (.Compare a [.NotEq] [b] pos) P :=
  ex_cmpB (op_neD (by have := hr.un; omega)) hm (h.imp fun d k => k.imp fun d' ⟨h1, h2, p⟩ => cmp_neD h1 h2 p)
theorem tx_eqD {P : Bool → Prop} (hr : Room k X.A) (h : EX X B0 H0 sds os a fun da => EX X B0 H0 sds os b fun db => shp da = true ∧ shp db = true ∧ P (eqd da db)) (hm : behindInMarks .Eq b = false := by rfl) : TX X B0 H0 sds os (.Compare a [.Eq] [b] pos) P :=
  tx_cmp (op_eqD (by have := hr.un; omega)) hm (h.imp fun d k => k.imp fun d' ⟨h1, h2, p⟩ => cmp_eqD h1 h2 p)
theorem tx_neD {P : Bool → Prop} (hr : Room k X.A) (h : EX X B0 H0 sds os a fun da => EX X B0 H0 sds os b fun db => shp da = true ∧ shp db = true ∧ P (!eqd da db)) (hm : behindInMarks .NotEq b = false := by rfl) : TX X B0 H0 sds os (.Compare a [.NotEq] [b] pos) P :=
  tx_cmp (op_neD (by have := hr.un; omega)) hm (h.imp fun d k => k.imp fun d' ⟨h1, h2, p⟩ => cmp_neD h1 h2 p)
theorem ex_inD (hr : Room k X.A) (h : EX X B0 H0 sds os a fun da => EX X B0 H0 sds os b fun db => ∃ l, db = .lst l ∧ shp da = true ∧ shp db = true ∧ P (.bl (l.any fun z => eqd z da))) (hm : behindInMarks .In b = false := by rfl) : EX X B0 H0 sds os (.Compare a [.In] [b] pos) P :=
  ex_cmpB (op_inD (by have := hr.un; omega)) hm (h.imp fun d k => k.imp fun d' ⟨l, e, h1, h2, p⟩ => by subst e; exact cmp_inD h1 h2 p)
theorem tx_inD {P : Bool → Prop} (hr : Room k X.A) (h : EX X B0 H0 sds os a fun da => EX X B0 H0 sds os b fun db => ∃ l, db = .lst l ∧ shp da = true ∧ shp db = true ∧ P (l.any fun z => eqd z da)) (hm : behindInMarks .In b = false := by rfl) : TX X B0 H0 sds os (.Compare a [.In] [b] pos) P :=
  tx_cmp (op_inD (by have := hr.un; omega)) hm (h.imp fun d k => k.imp fun d' ⟨l, e, h1, h2, p⟩ => by subst e; exact cmp_inD h1 h2 p)
/-- in a tuple -/
def rInT (K : PySem.W.Frag) : R2 := fun x y H Q => ∃ d ds, Dp K H x d ∧ Dp K H y (.tuple ds) ∧ SeqAt.shaped d = true ∧ SeqAt.shaped (.tuple ds) = true ∧ Q (.bl (ds.any fun z => PyData.eqv z d)) H
theorem op_inT (hu : X.A.units + 65 < cLine) : OpR X (compareOp .In) (rInT X.K) := by
  intro pins s σ H x y v u Q I rx ry h
  obtain ⟨d, ds, hd, he, sd, se, q⟩ := h
  obtain ⟨as, r1⟩ := Dp.reads I d x v hd rx
  obtain ⟨bs, r2⟩ := Dp.reads I (.tuple ds) y u he ry
  exact SeqAt.in_tuple_reads r2 r1 (SeqAt.canLay_of_shaped se) (SeqAt.canLay_of_shaped sd) (room_in_shaped sd hu) ⟨.bl _, H, I, rfl, q⟩
theorem cmp_inT {K : PySem.W.Frag} {a : D} {l : List D} {P : Bool → Prop} (ha : shp a = true) (hb : shp (.tup l) = true) (p : P (l.any fun z => eqd z a)) : CmpD K (rInT K) a (.tup l) P := fun B H v w e h1 h2 Q q => by
  rw [shp, Bool.and_eq_true] at ha hb
  have hl : ∀ l : List D, ((pyAll l).any fun z => PyData.eqv z (py a)) = l.any fun z => eqd z a := by
    intro l; induction l with
    | nil => rfl
    | cons x r ih => rw [pyAll, List.any_cons, List.any_cons, ih]; rfl
  refine ⟨_, pyAll l, Is.dp e _ _ h1 ha.1, Is.dp e _ _ h2 hb.1, ha.2, hb.2, q _ B H _ (Grow.refl e) (.bl _) ⟨_, rfl, ?_⟩⟩
  rw [hl]; exact p
theorem tx_inT {P : Bool → Prop} (hr : Room k X.A) (h : EX X B0 H0 sds os a fun da => EX X B0 H0 sds os b fun db => ∃ l, db = .tup l ∧ shp da = true ∧ shp db = true ∧ P (l.any fun z => eqd z da)) (hm : behindInMarks .In b = false := by rfl) : TX X B0 H0 sds os (.Compare a [.In] [b] pos) P :=
  tx_cmp (op_inT (by have := hr.un; omega)) hm (h.imp fun d k => k.imp fun d' ⟨l, e, h1, h2, p⟩ => by subst e; exact cmp_inT h1 h2 p)
/-! pairs of ints -/
def pr (p : Int × Int) : D := .tup [.int p.1, .int p.2]
theorem shp_pr (p : Int × Int) : shp (pr p) = true := by simp [shp, pr, pok, pokAll, py, pyAll, SeqAt.shaped, PyData.canLay0, PyData.canLayAll0, PyData.depth, PyData.depthAll]
theorem eqd_pr (p q : Int × Int) : eqd (pr p) (pr q) = decide (p = q) := by
  obtain ⟨a, b⟩ := p; obtain ⟨c, d⟩ := q
  have : eqd (pr (a, b)) (pr (c, d)) = (a == c && (b == d && true)) := by simp [eqd, pr, py, pyAll, PyData.eqv, PyData.eqvAll]
  rw [this]
  by_cases h1 : a = c <;> by_cases h2 : b = d <;> simp [h1, h2]
theorem shp_prs_aux (l : List (Int × Int)) : pokAll (l.map pr) = true ∧ PyData.canLayAll0 (pyAll (l.map pr)) = true ∧ PyData.depthAll (pyAll (l.map pr)) ≤ 1 := by
  induction l with
  | nil => simp [pokAll, pyAll, PyData.canLayAll0, PyData.depthAll]
  | cons p l ih =>
    rw [List.map_cons, pokAll, pyAll, PyData.canLayAll0, PyData.depthAll, ih.1, ih.2.1]
    refine ⟨by simp [pr, pok, pokAll], by simp [pr, py, pyAll, PyData.canLay0, PyData.canLayAll0], ?_⟩
    have : PyData.depth (py (pr p)) = 1 := by simp [pr, py, pyAll, PyData.depth, PyData.depthAll]
    omega
theorem shp_prs (l : List (Int × Int)) : shp (.lst (l.map pr)) = true := by
  obtain ⟨h1, h2, h3⟩ := shp_prs_aux l
  simp only [shp, pok, py, SeqAt.shaped, PyData.canLay0, PyData.depth, h1, h2, Bool.true_and, decide_eq_true_eq]; omega
theorem shp_prsT (l : List (Int × Int)) : shp (.tup (l.map pr)) = true := by
  obtain ⟨h1, h2, h3⟩ := shp_prs_aux l
  simp only [shp, pok, py, SeqAt.shaped, PyData.canLay0, PyData.depth, h1, h2, Bool.true_and, decide_eq_true_eq]; omega
theorem eqd_prs_aux : ∀ (l m : List (Int × Int)), PyData.eqvAll (pyAll (l.map pr)) (pyAll (m.map pr)) = decide (l = m)
  | [], [] => rfl
  | [], _ :: _ => rfl
  | _ :: _, [] => rfl
  | p :: l, q :: m => by
    have e := eqd_pr p q
    rw [eqd] at e
    rw [List.map_cons, List.map_cons, pyAll, pyAll, PyData.eqvAll, e, eqd_prs_aux l m]
    by_cases h1 : p = q <;> by_cases h2 : l = m <;> simp [h1, h2]
theorem eqd_prs (l m : List (Int × Int)) : eqd (.lst (l.map pr)) (.lst (m.map pr)) = decide (l = m) := by
  rw [eqd, py, py, PyData.eqv, eqd_prs_aux]
theorem eqd_prsT (l m : List (Int × Int)) : eqd (.tup (l.map pr)) (.tup (m.map pr)) = decide (l = m) := by
  rw [eqd, py, py, PyData.eqv, eqd_prs_aux]
theorem any_prs (l : List (Int × Int)) (p : Int × Int) : ((l.map pr).any fun z => eqd z (pr p)) = decide (p ∈ l) := by
  induction l with
  | nil => rfl
  | cons q l ih => rw [List.map_cons, List.any_cons, ih, eqd_pr, ← Bool.decide_or]; exact decide_eq_decide.mpr (by rw [List.mem_cons, eq_comm])
end
end OB
set_option Elab.async false
set_option linter.all false
set_option maxRecDepth 100000
set_option maxHeartbeats 4000000
namespace OB
open PySem PySem.Spec PyProof.Rows L2
/-! ### the list of draws -/
section
variable {X : Cx} {pins : List (Addr × Obj)} {σ : L2.St} {H : Hp} {s : Shared} {a : Addr}
theorem view_in (I : Inv X pins σ H s) (h : H a = some (drawsHO a)) : ∃ ns : List Int, Inv X pins σ (upd H a (.lst (ns.map V.int))) s := by
  obtain ⟨⟨ns, its, n, h1, h2, h3⟩, _, _⟩ := I.hok a _ h
  refine ⟨ns, ?_⟩
  have w := I.write (x := a) (e := a) (o := .lst (ns.map V.int)) (h' := s.heap) (t' := s.toks) (by rw [h]; trivial) (.inl rfl) (fun _ _ _ q => q) ⟨_, h3⟩ ⟨by rw [List.length_map]; exact h2, its, n, h1, h3⟩
  exact w
theorem view_out {ns : List Int} (I : Inv X pins σ H s) (h : H a = some (.lst (ns.map V.int))) : Inv X pins σ (upd H a (drawsHO a)) s := by
  obtain ⟨h2, its, n, h1, h3⟩ := I.hok a _ h
  have w := I.write (x := a) (e := a) (o := drawsHO a) (h' := s.heap) (t' := s.toks) (by rw [h]; trivial) (.inl rfl) (fun _ _ _ q => q) ⟨_, h3⟩
    ⟨⟨ns, its, n, h1, by rw [List.length_map] at h2; exact h2, h3⟩, ⟨_, h3⟩, fun h1 h2 ⟨ns, its, n, q1, q2, q3⟩ k => ⟨ns, its, n, q1, q2, k _ q3⟩⟩
  exact w
/-- seen as a list meanwhile -/
theorem wSs_view {sts : List Stmt} {Dn : Ends} (h : H a = some (drawsHO a))
    (k : ∀ ns : List Int, wSs X sts { nx := fun σ H' => ∃ ms : List Int, H' a = some (.lst (ms.map V.int)) ∧ Dn.nx σ (upd H' a (drawsHO a)), rt := fun v H' => ∃ ms : List Int, H' a = some (.lst (ms.map V.int)) ∧ Dn.rt v (upd H' a (drawsHO a)), bk := fun _ _ => False, ct := fun _ _ => False } σ (upd H a (.lst (ns.map V.int)))) : wSs X sts Dn σ H := by
  refine ⟨fun pins s I => ?_⟩
  obtain ⟨ns, I1⟩ := view_in I h
  refine thn ((k ns).run pins s I1) fun f s' q => ?_
  cases f with
  | next => obtain ⟨σ', H', I', ms, e, q⟩ := q; exact ⟨σ', _, view_out I' e, q⟩
  | brk => obtain ⟨σ', H', I', q⟩ := q; exact q.elim
  | cont => obtain ⟨σ', H', I', q⟩ := q; exact q.elim
  | ret u => obtain ⟨v, σ', H', I', r, ms, e, q⟩ := q; exact ⟨v, σ', _, view_out I' e, r, q⟩
end
section
variable {X : Cx} {N : List PySem.Str} {S : Scope} {B0 H0 : Hp} {sds : List SD} {os : List (Addr × OV)} {E : DE} {pos : Pos}
/-- return x: an owned list of ints becomes the draws -/
theorem g1_retDrw (c : Ctx X N S) (i : Nat) {x : PySem.Str} {px : Pos} {p : Addr} {ns : List Int} (h : E.rt .drw) (hi : sds[i]? = some (.v (.ref p)) := by rfl) (ho : os = [(p, .lst (ns.map .int))] := by rfl)
    (hN : N[i]? = some x := by rfl) (hv : visB S x = true := by decide +kernel) (hd : (x == ("__debug__" : PySem.Str)) = false := by decide +kernel) (hcd : (x == ("__classdict__" : PySem.Str)) = false := by decide +kernel) :
    Go1 X B0 H0 sds os E (.Return (some (.Name x px)) pos) := fun A B H σ ea s => by
  refine ⟨?_⟩
  intro pins s' I
  have hw := PS.to (X := X) (st := .Return (some (.Name x px)) pos) (D := { rt := fun v H' => v = .ref p ∧ H' = H, nx := fun _ _ => False, bk := fun _ _ => False, ct := fun _ _ => False }) (σ := σ) (H := H)
    (ps_ret (pe_var (i := i) (by rw [c.hN]; exact hN) (c.vis hv) hd hcd)) ⟨_, s.varV hi, rfl, rfl⟩
  refine thn (hw.run pins s' I) fun f s1 q => ?_
  cases f with
  | next => obtain ⟨σ', H', I', q⟩ := q; exact q.elim
  | brk => obtain ⟨σ', H', I', q⟩ := q; exact q.elim
  | cont => obtain ⟨σ', H', I', q⟩ := q; exact q.elim
  | ret u =>
    obtain ⟨v, σ', H', I', r, rfl, rfl⟩ := q
    subst ho
    obtain ⟨xs, h1, h2⟩ := s.ow _ (List.mem_singleton.mpr rfl)
    have hx := ints_of h2
    subst hx
    obtain ⟨bp, hp⟩ := s.fr p (by simp [fpt])
    refine ⟨_, σ', _, view_out I' h1, r, upd B p (drawsHO p), .drw, ea.trans (Evl.Ex.new bp), ⟨s.g.b.trans (Evl.Ex.new bp), fun b o q => ?_, fun b o q => ?_, fun b q => ?_⟩, .drw upd_same, h⟩
    · by_cases hb : b = p
      · subst hb; rw [hp] at q; cases q
      · rw [upd_ne hb]; exact s.g.h _ _ q
    · by_cases hb : b = p
      · subst hb; rw [upd_same] at q ⊢; exact q
      · rw [upd_ne hb] at q ⊢; exact s.g.bh _ _ q
    · by_cases hb : b = p
      · subst hb; exact .inr (.inl hp)
      · rw [upd_ne hb] at q; exact s.g.fr b q
end
end OB
set_option Elab.async false
set_option linter.all false
set_option maxRecDepth 100000
set_option maxHeartbeats 4000000
namespace OB
open PySem PySem.Spec PyProof.Rows L2
theorem lenL {l : List D} : LenD (.lst l) l.length := rfl
theorem lenT {l : List D} : LenD (.tup l) l.length := rfl
section
variable {X : Cx} {N : List PySem.Str} {S scope : Scope} {B0 H0 : Hp} {sds : List SD} {os : List (Addr × OV)} {E : DE} {pos spos p : Pos} {a b e elt tg iter cond : Expr} {es : List Expr} {P : D → Prop} {k : Nat}
theorem gr_new {B H : Hp} {p : Addr} {xs : List V} {B' H' : Hp} (g : Grow B H B' H') (h1 : H p = none) (h2 : B' p = none) (h3 : H' p = some (.lst xs)) : Grow B H (upd B' p (.lst xs)) H' := by
  refine ⟨g.b.trans (Evl.Ex.new h2), g.h, ex_join g.bh h3, fun a q => ?_⟩
  by_cases ha : a = p
  · subst ha; exact .inr (.inl h1)
  · rw [upd_ne ha] at q; exact g.fr a q
/-- x = [elt for ..] on one line -/
theorem g1_setLc0 (c : CtxD X N S) (i : Nat) {y : PySem.Str} {py : Pos} (own : List (PySem.Str × Nat)) (t : Tg) (hg : ∀ X', Blk X scope X' → PG X' tg (t.r X'.K))
    (hi : IX X B0 H0 sds os tg iter (LcOk0 X scope B0 H0 sds os t (own.map (·.2)) elt fun l => E.nx (sds.set i (.d (.lst l))) os)) (hy : N[i]? = some y := by rfl) (hyl : S.names.lookup y = some .local := by decide +kernel)
    (hb : blkC N S scope own = true := by decide +kernel) (hv : (t.idx.all fun i => decide (i ∈ own.map (·.2))) = true := by decide) (hs : ∀ x, foldedSetIterable iter X.env x = pure x := by intro _; rfl)
    (hbk : S.kind = .function := by rfl) (hln : (py.line == pos.line) = true := by rfl) (hna : (scope.names.any fun (n, k) => n == y && (k == .local || k == .cell)) = false := by decide +kernel) :
    Go1 X B0 H0 sds os E (.Assign [.Name y py] (.ListComp elt [⟨tg, iter, [], 0⟩] scope pos) spos) := fun A B H σ ea s => by
  obtain ⟨wi, hpi, hw⟩ := hi.imp (P' := LcOk X scope B0 H0 sds os t (own.map (·.2)) (fun _ b => b = true) elt fun l => E.nx (sds.set i (.d (.lst l))) os) fun l ⟨α, L, enc, g, h1, h2, h3, h4⟩ =>
    ⟨α, L, enc, fun _ => true, g, h1, h2, fun x hx => Tg.put_imp (h3 x hx) fun s k => ⟨rfl, fun _ => k⟩, by rw [List.filter_eq_self.mpr (fun _ _ => rfl)]; exact h4⟩
  have hv' : ∀ i ∈ t.idx, i ∈ own.map (·.2) := fun i h => of_decide_eq_true (List.all_eq_true.mp hv i h)
  refine PS.to (ps_setLc (i := i) (g := t.r X.K) (tt := tYes) (te := fun σ H Q => ∀ X', Blk X scope X' → wE X' elt σ H Q) c.calm (by rw [c.hN]; exact c.nd) (by rw [c.hN]; exact hy) (by rw [c.hS]; exact hyl) (sw_true (by rw [c.hS]; exact hbk) (by rw [c.hS]; exact hyl) hln hna) hpi (blkOk_by (by rw [c.hN, c.hS]; exact hb)) (fun s H C cl fp => hg _ ⟨s, H, C, cl, fp, rfl⟩) (fun _ _ _ _ _ => pts_nil) (fun s H C cl fp => ⟨fun pins sh σ' H' Q' I h => (h _ ⟨s, H, C, cl, fp, rfl⟩).run pins sh I⟩) hs) ?_
  refine lc_run hv' (fun B H σ sds' f s' hT Q q => ?_) hw s fun p xs B' H' l g h1 h2 h3 i1 pl => ?_
  · subst hT
    exact q B H (Grow.refl s'.g.bh)
  · have g' := gr_new g h1 h2 h3
    exact ⟨_, _, _, ea.trans g'.b, (s.grow g').set (.lst upd_same (IsAll.mono (Evl.Ex.new h2) _ _ i1)), pl⟩
theorem g1_setLc1 (c : CtxD X N S) (i : Nat) {y : PySem.Str} {py : Pos} (own : List (PySem.Str × Nat)) (t : Tg) (hg : ∀ X', Blk X scope X' → PG X' tg (t.r X'.K))
    (hi : IX X B0 H0 sds os tg iter (LcOk1 X scope B0 H0 sds os t (own.map (·.2)) cond elt fun l => E.nx (sds.set i (.d (.lst l))) os)) (hy : N[i]? = some y := by rfl) (hyl : S.names.lookup y = some .local := by decide +kernel)
    (hb : blkC N S scope own = true := by decide +kernel) (hv : (t.idx.all fun i => decide (i ∈ own.map (·.2))) = true := by decide) (hs : ∀ x, foldedSetIterable iter X.env x = pure x := by intro _; rfl)
    (hbk : S.kind = .function := by rfl) (hln : (py.line == pos.line) = true := by rfl) (hna : (scope.names.any fun (n, k) => n == y && (k == .local || k == .cell)) = false := by decide +kernel) :
    Go1 X B0 H0 sds os E (.Assign [.Name y py] (.ListComp elt [⟨tg, iter, [cond], 0⟩] scope pos) spos) := fun A B H σ ea s => by
  obtain ⟨wi, hpi, hw⟩ := hi.imp (P' := LcOk X scope B0 H0 sds os t (own.map (·.2)) (fun s' b => ∀ X', Blk X scope X' → TX X' B0 H0 s' os cond (· = b)) elt fun l => E.nx (sds.set i (.d (.lst l))) os) fun l ⟨α, L, enc, f, g, h1, h2, h3, h4⟩ =>
    ⟨α, L, enc, f, g, h1, h2, fun x hx => Tg.put_imp (h3 x hx) fun s k => ⟨fun X' b => (k X' b).1, fun hf X' b => (k X' b).2 hf⟩, h4⟩
  have hv' : ∀ i ∈ t.idx, i ∈ own.map (·.2) := fun i h => of_decide_eq_true (List.all_eq_true.mp hv i h)
  refine PS.to (ps_setLc (i := i) (g := t.r X.K) (tt := fun σ H Q => ∀ X', Blk X scope X' → wT X' cond σ H Q) (te := fun σ H Q => ∀ X', Blk X scope X' → wE X' elt σ H Q) c.calm (by rw [c.hN]; exact c.nd) (by rw [c.hN]; exact hy) (by rw [c.hS]; exact hyl) (sw_true (by rw [c.hS]; exact hbk) (by rw [c.hS]; exact hyl) hln hna) hpi (blkOk_by (by rw [c.hN, c.hS]; exact hb)) (fun s H C cl fp => hg _ ⟨s, H, C, cl, fp, rfl⟩)
    (fun s H C cl fp => pts_one ⟨fun pins sh σ' H' Q' I h => (h _ ⟨s, H, C, cl, fp, rfl⟩).run pins sh I⟩) (fun s H C cl fp => ⟨fun pins sh σ' H' Q' I h => (h _ ⟨s, H, C, cl, fp, rfl⟩).run pins sh I⟩) hs) ?_
  refine lc_run hv' (fun B H σ sds' f s' hT Q q => ?_) hw s fun p xs B' H' l g h1 h2 h3 i1 pl => ?_
  · intro X' bx
    have hk' : X'.K = X.K := by obtain ⟨_, _, _, _, _, rfl⟩ := bx; rfl
    rw [← hk'] at s'
    exact hT X' bx B H σ s' Q fun b B' H' g e => by subst e; exact q B' H' g
  · have g' := gr_new g h1 h2 h3
    exact ⟨_, _, _, ea.trans g'.b, (s.grow g').set (.lst upd_same (IsAll.mono (Evl.Ex.new h2) _ _ i1)), pl⟩
/-! ### built-ins on lists -/
theorem ex_allB (c : Ctx X N S) (hm : X.mg "all" = none) (h : EX X B0 H0 sds os e fun d => ∃ bs : List Bool, d = .lst (bs.map .bl) ∧ P (.bl (bs.all id))) (hg : glB S "all" = true := by decide +kernel) (he : starEach [e] X.env = [(false, eval e X.env)] := by rfl) : EX X B0 H0 sds os (.Call (.Name "all" p) [e] [] pos) P :=
  ex_callB c (cr_all c.calm) hm (ea_cons (h.imp fun d ⟨bs, hn, hp⟩ => ea_nil fun B H vs eb iv Q q => by
    obtain ⟨v, rfl, j⟩ := call1 iv
    subst hn
    cases j with
    | lst hs ha =>
      have := bools_of ha
      subst this
      exact ⟨_, bs, rfl, SqL.of (eb _ _ hs), q _ B H _ (Grow.refl eb) (.bl _) hp⟩) he) hg (by decide +kernel) (by decide +kernel) (by decide +kernel) he rfl
theorem ex_anyB (c : Ctx X N S) (hm : X.mg "any" = none) (h : EX X B0 H0 sds os e fun d => ∃ bs : List Bool, d = .lst (bs.map .bl) ∧ P (.bl (bs.any id))) (hg : glB S "any" = true := by decide +kernel) (he : starEach [e] X.env = [(false, eval e X.env)] := by rfl) : EX X B0 H0 sds os (.Call (.Name "any" p) [e] [] pos) P :=
  ex_callB c (cr_any c.calm) hm (ea_cons (h.imp fun d ⟨bs, hn, hp⟩ => ea_nil fun B H vs eb iv Q q => by
    obtain ⟨v, rfl, j⟩ := call1 iv
    subst hn
    cases j with
    | lst hs ha =>
      have := bools_of ha
      subst this
      exact ⟨_, bs, rfl, SqL.of (eb _ _ hs), q _ B H _ (Grow.refl eb) (.bl _) hp⟩) he) hg (by decide +kernel) (by decide +kernel) (by decide +kernel) he rfl
/-- list(range(n)) -/
theorem el_listRng (c : Ctx X N S) {p2 pos2 : Pos} {P : List D → Prop} (hm : X.mg "list" = none) (hm2 : X.mg "range" = none) (h : EX X B0 H0 sds os e fun d => ∃ n : Nat, d = .int (n : Int) ∧ n ≤ 100000 ∧ P (rngD 0 n)) (hg : glB S "list" = true := by decide +kernel) (hg2 : glB S "range" = true := by decide +kernel) (hs : starEach [e] X.env = [(false, eval e X.env)] := by rfl)
    (na : starEach [.Call (.Name "range" p2) [e] [] pos2] X.env = (false, eval (.Call (.Name "range" p2) [e] [] pos2) X.env) :: starEach [] X.env := by rfl) : EL X B0 H0 sds os (.Call (.Name "list" p) [.Call (.Name "range" p2) [e] [] pos2] [] pos) P := fun B H σ s Q q => by
  refine PE.to (pe_listRg c.calm (c.gl hg) hm (prg_1 (c.gl hg2) hm2 pe_w hs) na) ?_
  refine h B H σ s _ fun v B1 H1 d g1 i1 ⟨n, e1, hn, hp⟩ => ?_
  subst e1; cases i1
  refine ⟨(n : Int), rfl, RgOk.of_le (by omega) (by omega) (by omega) (by omega), fun q' hq => ?_⟩
  refine q q' _ B1 _ (rngD 0 n) ⟨g1.b, g1.h.trans (Evl.Ex.new hq), g1.bh.trans (Evl.Ex.new hq), g1.fr⟩ (Evl.fresh_back g1.h hq) (Evl.fresh_back g1.bh hq) upd_same ?_ hp
  have e : rgV 0 (n : Int) = ((List.range n).map fun (i : Nat) => (0 + (i : Int) : Int)).map V.int := by
    unfold rgV
    rw [List.map_map, Int.sub_zero, Int.toNat_natCast] <;> rfl
  have e2 : rngD 0 n = ((List.range n).map fun (i : Nat) => (0 + (i : Int) : Int)).map D.int := by
    unfold rngD
    rw [List.map_map] <;> rfl
  rw [e, e2]
  exact of_ints
end
end OB
set_option Elab.async false
set_option linter.all false
set_option maxRecDepth 100000
set_option maxHeartbeats 4000000
namespace OB
open PySem PySem.Spec PyProof.Rows L2
/-! ### sorted, pairs of ints -/
def leP (a b : Int × Int) : Bool := !SrtO.lexB b a
def srt (l : List (Int × Int)) : List (Int × Int) := l.mergeSort leP
theorem leP_iff {a b : Int × Int} : leP a b = true ↔ (a.1 < b.1 ∨ (a.1 = b.1 ∧ a.2 ≤ b.2)) := by
  unfold leP
  rw [Bool.not_eq_true', SrtO.lexB_no]
  omega
theorem leP_anti {a b : Int × Int} (h1 : leP a b = true) (h2 : leP b a = true) : a = b := by
  rw [leP_iff] at h1 h2
  have e1 : a.1 = b.1 := by omega
  have e2 : a.2 = b.2 := by omega
  exact Prod.ext e1 e2
theorem srt_uniq : ∀ {l m : List (Int × Int)}, l.Pairwise (leP · ·) → m.Pairwise (leP · ·) → l.Perm m → l = m
  | [], m, _, _, h => (List.Perm.eq_nil h.symm).symm
  | x :: l, [], _, _, h => absurd h.length_eq (by simp)
  | x :: l, y :: m, h1, h2, h => by
    have hx : x = y ∨ leP y x = true := by
      rcases List.mem_cons.mp (h.mem_iff.mp (List.mem_cons_self (a := x) (l := l))) with e | q
      · exact .inl e
      · exact .inr ((List.pairwise_cons.mp h2).1 x q)
    have hy : y = x ∨ leP x y = true := by
      rcases List.mem_cons.mp (h.mem_iff.mpr (List.mem_cons_self (a := y) (l := m))) with e | q
      · exact .inl e
      · exact .inr ((List.pairwise_cons.mp h1).1 y q)
    have e : x = y := by
      rcases hx with e | a
      · exact e
      · rcases hy with e | b
        · exact e.symm
        · exact leP_anti b a
    subst e
    rw [srt_uniq (List.pairwise_cons.mp h1).2 (List.pairwise_cons.mp h2).2 h.cons_inv]
theorem srt_perm (l : List (Int × Int)) : (srt l).Perm l := List.mergeSort_perm l leP
theorem srt_sorted (l : List (Int × Int)) : (srt l).Pairwise (leP · ·) := List.pairwise_mergeSort (fun a b c h1 h2 => by rw [leP_iff] at *; omega) (fun a b => by
  rw [Bool.or_eq_true, leP_iff, leP_iff]; omega) l
theorem srt_eq {l m : List (Int × Int)} (h1 : m.Perm l) (h2 : m.Pairwise (leP · ·)) : m = srt l := srt_uniq h2 (srt_sorted l) (h1.trans (srt_perm l).symm)
theorem srt_of_perm {l m : List (Int × Int)} (h : l.Perm m) : srt l = srt m := srt_eq ((srt_perm l).trans h) (srt_sorted l)
def keyP (B : Hp) : V → Int × Int
  | .ref t => match B t with
    | some (.tup [.int i, .int j]) => (i, j)
    | _ => (0, 0)
  | _ => (0, 0)
theorem isall_keys {K : PySem.W.Frag} {B : Hp} : ∀ {l : List (Int × Int)} {xs : List V}, IsAll K B xs (l.map pr) → l = xs.map (keyP B) ∧ ∀ x ∈ xs, ∃ t, x = V.ref t ∧ B t = some (.tup [.int (keyP B x).1, .int (keyP B x).2])
  | [], _, h => by cases h; exact ⟨rfl, fun _ h => (nomatch h)⟩
  | p :: l, _, h => by
    cases h with
    | @cons v vs d ds h1 h2 =>
      obtain ⟨q1, q2⟩ := isall_keys h2
      cases h1 with
      | @tup a xs l' hs ha =>
        obtain ⟨v1, v2, rfl, i1, i2⟩ := call2 ha
        cases i1; cases i2
        have e : keyP B (.ref a) = p := by simp [keyP, hs]
        refine ⟨by rw [List.map_cons, e, ← q1], fun x hx => ?_⟩
        rcases List.mem_cons.mp hx with z | z
        · subst z; exact ⟨a, rfl, by rw [e]; exact hs⟩
        · exact q2 x z
theorem isall_of_keys {K : PySem.W.Frag} {B : Hp} : ∀ {xs : List V}, (∀ x ∈ xs, ∃ t, x = V.ref t ∧ B t = some (.tup [.int (keyP B x).1, .int (keyP B x).2])) → IsAll K B xs ((xs.map (keyP B)).map pr)
  | [], _ => .nil
  | x :: xs, h => by
    obtain ⟨t, e, hb⟩ := h x (by simp)
    refine .cons ?_ (isall_of_keys fun y hy => h y (List.mem_cons_of_mem _ hy))
    rw [e] at hb ⊢
    exact .tup hb (.cons (.int _) (.cons (.int _) .nil))
section
variable {X : Cx} {N : List PySem.Str} {S scope : Scope} {B0 H0 : Hp} {sds : List SD} {os : List (Addr × OV)} {E : DE} {pos spos p : Pos} {a b e elt tg iter cond : Expr} {es : List Expr} {P : D → Prop} {k : Nat}
theorem el_sortP (c : Ctx X N S) {P : List D → Prop} (hm : X.mg "sorted" = none) (h : EX X B0 H0 sds os e fun d => ∃ l : List (Int × Int), d = .lst (l.map pr) ∧ P ((srt l).map pr)) (hg : glB S "sorted" = true := by decide +kernel) (he : starEach [e] X.env = [(false, eval e X.env)] := by rfl) : EL X B0 H0 sds os (.Call (.Name "sorted" p) [e] [] pos) P :=
  el_callB c cr_sortedPO hm (ea_cons (h.imp fun d ⟨l, hn, hp⟩ => ea_nil fun B H vs eb iv Q q => by
    obtain ⟨v, rfl, j⟩ := call1 iv
    subst hn
    cases j with
    | @lst ad xs l' hs ha =>
      obtain ⟨e1, e2⟩ := isall_keys ha
      refine ⟨ad, xs, keyP B, rfl, SqL.of (eb _ _ hs), fun x hx => ?_, fun ys p hsr hst hp' => ?_⟩
      · obtain ⟨t, e, hb⟩ := e2 x hx
        exact ⟨t, e, eb _ _ hb⟩
      · have hperm : ys.Perm xs := hst.perm
        have es : ys.map (keyP B) = srt l := srt_eq (by rw [e1]; exact hperm.map _) (List.pairwise_map.mpr (hsr.imp fun {x y} h => by
          show (!SrtO.lexB (keyP B y) (keyP B x)) = true
          rw [Bool.not_eq_true']; exact h))
        have al : IsAll X.K B ys ((srt l).map pr) := by
          rw [← es]
          exact isall_of_keys fun x hx => e2 x (hperm.mem_iff.mp hx)
        exact q p ys B _ _ (Grow.up eb (Evl.Ex.new hp')) hp' (Evl.fresh_back eb hp') upd_same al hp) he) hg (by decide +kernel) (by decide +kernel) (by decide +kernel) he rfl
end
end OB
set_option Elab.async false
set_option linter.all false
set_option maxRecDepth 100000
set_option maxHeartbeats 4000000
namespace OB
open PySem PySem.Spec PyProof.Rows L2
/-! ### isinstance of built-in types -/
def tyN : D → Option String
  | .non => some "NoneType"
  | .bl _ => some "bool"
  | .int _ => some "int"
  | .str _ => some "str"
  | .lst _ => some "list"
  | .tup _ => some "tuple"
  | .tpk _ => some "tuple"
  | _ => none
theorem Is.tyOf {K : PySem.W.Frag} {B H : Hp} {v : V} {d : D} (e : Ex B H) (h : Is K B v d) {t : String} (q : tyN d = some t) : TyX K H v (.type t) := by
  cases h with
  | non => cases q; exact .base .non
  | bl b => cases q; exact .base (.bl b)
  | int b => cases q; exact .base (.int b)
  | str b => cases q; exact .base (.str b)
  | lst hs ha => cases q; exact .base (.lst (e _ _ hs))
  | tup hs ha => cases q; exact .base (.tup (e _ _ hs))
  | ins _ _ => cases q
  | drw _ => cases q
  | dct _ _ => cases q
  | dck _ _ => cases q
  | rng _ => cases q
  | tpk h1 h2 _ _ _ _ => cases q; exact .kTuple h1 h2
section
variable {X : Cx} {N : List PySem.Str} {S scope : Scope} {B0 H0 : Hp} {sds : List SD} {os : List (Addr × OV)} {E : DE} {pos spos p p2 p3 p4 : Pos} {a b e elt tg iter cond : Expr} {es : List Expr} {P : D → Prop} {k : Nat}
theorem ex_isi (c : Ctx X N S) {T : PySem.Str} {tn : String} (hm : X.mg "isinstance" = none) (hT : X.mg T = none) (h : EX X B0 H0 sds os e fun d => ∃ t r, tyN d = some t ∧ kitB t tn = some r ∧ P (.bl r)) (hg : glB S "isinstance" = true := by decide +kernel) (hgT : glB S T = true := by decide +kernel)
    (hv : bootBuiltins T = some (.type tn) := by decide +kernel) (hn : T ≠ "__name__" := by decide +kernel) (hd : (T == ("__debug__" : PySem.Str)) = false := by decide +kernel)
    (he : starEach [e, .Name T p2] X.env = [(false, eval e X.env), (false, eval (.Name T p2) X.env)] := by rfl) (he2 : starEach [.Name T p2] X.env = [(false, eval (.Name T p2) X.env)] := by rfl) :
    EX X B0 H0 sds os (.Call (.Name "isinstance" p) [e, .Name T p2] [] pos) P := fun B H σ s Q q => by
  refine PE.to (pe_callB call_isi (c.gl hg) hm (by decide +kernel) (pa_cons pe_w (pa_cons (pe_bltn (v := .ty tn) (c.gl hgT) hT hv rfl hn hd) pa_nil he2) (by rw [he, he2])) (by decide +kernel) (by decide +kernel) (by rw [he, he2]) (by rw [he2]; rfl)) ?_
  refine h B H σ s _ fun v B1 H1 d g1 i1 ⟨t, r, h1, h2, hp⟩ => ?_
  exact ⟨v, .ty tn, .type t, .type tn, r, rfl, .ty tn, i1.tyOf g1.bh h1, h2, q _ B1 H1 _ g1 (.bl r) hp⟩
/-- isinstance(e, (T, U)) -/
theorem ex_isi2 (c : Ctx X N S) {T U : PySem.Str} {tn un : String} {kk : Nat} (hm : X.mg "isinstance" = none) (hT : X.mg T = none) (hU : X.mg U = none) (h : EX X B0 H0 sds os e fun d => ∃ t r, tyN d = some t ∧ (kitB t tn = some r ∧ r = true ∨ kitB t tn = some false ∧ kitB t un = some r) ∧ P (.bl r)) (hg : glB S "isinstance" = true := by decide +kernel) (hgT : glB S T = true := by decide +kernel) (hgU : glB S U = true := by decide +kernel)
    (hv : bootBuiltins T = some (.type tn) := by decide +kernel) (hvU : bootBuiltins U = some (.type un) := by decide +kernel) (hn : T ≠ "__name__" := by decide +kernel) (hnU : U ≠ "__name__" := by decide +kernel) (hd : (T == ("__debug__" : PySem.Str)) = false := by decide +kernel) (hdU : (U == ("__debug__" : PySem.Str)) = false := by decide +kernel)
    (he : starEach [e, .Tuple [.Name T p2, .Name U p3] kk p4] X.env = [(false, eval e X.env), (false, eval (.Tuple [.Name T p2, .Name U p3] kk p4) X.env)] := by rfl) (he2 : starEach [.Tuple [.Name T p2, .Name U p3] kk p4] X.env = [(false, eval (.Tuple [.Name T p2, .Name U p3] kk p4) X.env)] := by rfl)
    (he3 : starEach [.Name T p2, .Name U p3] X.env = [(false, eval (.Name T p2) X.env), (false, eval (.Name U p3) X.env)] := by rfl) (he4 : starEach [.Name U p3] X.env = [(false, eval (.Name U p3) X.env)] := by rfl) :
    EX X B0 H0 sds os (.Call (.Name "isinstance" p) [e, .Tuple [.Name T p2, .Name U p3] kk p4] [] pos) P := fun B H σ s Q q => by
  refine PE.to (pe_callB call_isiT (c.gl hg) hm (by decide +kernel) (pa_cons pe_w (pa_cons (pe_tup (pa_cons (pe_bltn (v := .ty tn) (c.gl hgT) hT hv rfl hn hd) (pa_cons (pe_bltn (v := .ty un) (c.gl hgU) hU hvU rfl hnU hdU) pa_nil he4) (by rw [he3, he4]))) pa_nil he2) (by rw [he, he2])) (by decide +kernel) (by decide +kernel) (by rw [he, he2]) (by rw [he2]; rfl)) ?_
  refine h B H σ s _ fun v B1 H1 d g1 i1 ⟨t, r, h1, h2, hp⟩ => ⟨show 2 ≤ sizeLine from by decide, fun tp htp => ?_⟩
  have g2 : Grow B1 H1 B1 (upd H1 tp (.tup [.ty tn, .ty un])) := Grow.up g1.bh (Evl.Ex.new htp)
  refine ⟨v, tp, [.ty tn, .ty un], .type t, [.type tn, .type un], r, rfl, upd_same, .cons (.ty tn) (.cons (.ty un) .nil), i1.tyOf g2.bh h1, ?_, q _ B1 _ _ (g1.trans g2) (.bl r) hp⟩
  rcases h2 with ⟨h2, rfl⟩ | ⟨h2, h3⟩
  · exact kitAny_cons (kit_ty h2) (fun z => nomatch z) fun _ => rfl
  · refine kitAny_cons (kit_ty h2) (fun _ => ?_) (fun z => nomatch z)
    exact kitAny_cons (kit_ty h3) (fun z => by rw [z]; exact kitAny_nil) (fun z => z)
/-! ### tuple < tuple -/
theorem lex_pr (p q : Int × Int) : HT.lexLt [p.1, p.2] [q.1, q.2] = SrtO.lexB p q := by
  unfold SrtO.lexB
  simp only [HT.lexLt]
  by_cases e : p.1 = q.1
  · simp [e]; omega
  · simp [e]
theorem tx_ltP {P : Bool → Prop} (hr : Room k X.A) (h : EX X B0 H0 sds os a fun da => ∃ x : Int × Int, da = pr x ∧ EX X B0 H0 sds os b fun db => ∃ y : Int × Int, db = pr y ∧ P (SrtO.lexB x y)) (hm : behindInMarks .Lt b = false := by rfl) : TX X B0 H0 sds os (.Compare a [.Lt] [b] pos) P :=
  tx_cmp (op_ltT hr.units0) hm (h.imp fun d ⟨x, e1, k⟩ => k.imp fun d' ⟨y, e2, hp⟩ => fun B H v w ex i1 i2 Q q => by
    subst e1; subst e2
    cases i1 with
    | tup h1 a1 => cases i2 with
      | tup h2 a2 =>
        obtain ⟨v1, v2, rfl, j1, j2⟩ := call2 a1
        obtain ⟨w1, w2, rfl, k1, k2⟩ := call2 a2
        cases j1; cases j2; cases k1; cases k2
        refine ⟨_, _, [x.1, x.2], [y.1, y.2], rfl, rfl, SqT.of (ex _ _ h1), SqT.of (ex _ _ h2), ?_⟩
        rw [lex_pr]
        exact q _ B H _ (Grow.refl ex) (.bl _) ⟨_, rfl, hp⟩)
end
end OB
set_option Elab.async false
set_option linter.all false
set_option maxRecDepth 100000
set_option maxHeartbeats 4000000
namespace OB
open PySem PySem.Spec PyProof.Rows L2
/-! ### try with several clauses, each with a name -/
abbrev SuT := Addr → Value → Option Addr → TS
def gone (D : Ends) (i : Nat) : Ends := ⟨fun s h => D.nx (s.set i none) h, D.rt, fun s h => D.bk (s.set i none) h, fun s h => D.ct (s.set i none) h⟩
def wCl (K : PySem.W.Frag) (i : Nat) (Wo : L2.WX) (D : Ends) : List (Value × SuT) → L2.WX
  | [] => Wo
  | (c, ts) :: r => fun cls d s h => ∃ b, PySem.W.exmOne K cls c = some b ∧ (b = true → ∀ a, h a = none → ts a cls d (gone D i) (s.set i (some (.ref a))) h) ∧ (b = false → wCl K i Wo D r cls d s h)
inductive ClOk (X : Cx) (n : PySem.Str) : List ExceptHandler → List (Value × SuT) → Prop
  | nil : ClOk X n [] []
  | cons {x : PySem.Str} {c : Value} {ts : SuT} {st : Stmt} {sts : List Stmt} {np ps : Pos} {hs : List ExceptHandler} {l : List (Value × SuT)} : Names X x c →
      (∀ a oe cls d pn, Zc cls d oe → (∃ vs, oe.data = .fields vs) → PSs (X.suite a ((a, oe) :: pn)) (st :: sts) (ts a cls d)) → ClOk X n hs l → ClOk X n (.ExceptHandler (some (.Name x np)) (some n) (st :: sts) ps :: hs) ((c, ts) :: l)
theorem ps_try_cl {X : Cx} {n : PySem.Str} {i : Nat} {body : List Stmt} {hd : ExceptHandler} {hds : List ExceptHandler} {l : List (Value × SuT)} {tp : Pos} {tb : L2.WX → TS} {Wo : L2.WX} (e1 : X.stack = X.env :: X.outer) (e2 : X.env.frame = some X.env.locals) (nd : X.N.Nodup) (hi : X.N[i]? = some n) (hl : X.env.kindOf n = some .local) (tk : Takes X Wo)
    (hb : ∀ (W : L2.WX) (pn : List (Addr × Obj)) (xe : Value → Shared → Prop), Takes (X.tr pn xe) W → PassesOwn (model X.prog X.w) X.A X.env xe → PSs (X.tr pn xe) body (tb W)) (cl : ClOk X n (hd :: hds) l) : PS X (.Try body (hd :: hds) [] [] tp) (fun D σ H => tb (wCl X.K i Wo D l) D σ H) := by
  refine ⟨fun pins s σ H D I hw => ?_⟩
  have kk := I.ok
  have fr : X.A.frames = some (X.env :: X.outer) := e1 ▸ kk.frames
  refine wpAny_Try_except (wpAny_mono ((hb (wCl X.K i Wo D l) (X.pn ++ pins) (fun u z => wpAny (model X.prog X.w) X.A (noteFrame u X.env) (fun _ z2 => wpAny (model X.prog X.w) X.A (setFlight u none) (fun _ z3 => wpAny (model X.prog X.w) X.A (handleBy u X.env (hd :: hds)) (SP X pins D) X.xe z3) X.xe z2) X.xe z) (fun u s' q => ?_) PassesOwn.looking).run [] s σ H D (I.toTry _) hw) (fun f s1 q => ?_) fun _ _ q => q)
  · obtain ⟨a, B, z0, pins', σ', H', cls, d, rfl, J0, nb, up, sky, na, hos, bare, w⟩ := q
    have J : Inv X pins σ' H' z0 := J0.ofTry kk
    show wpAny (model X.prog X.w) X.A (noteFrame (.ref a) X.env) _ _ _
    refine Sky.land Zc.steady fr e2 (e1 ▸ sky : Sky B (X.env :: X.outer) a (Zc cls d) X.env.locals s'.heap) fun h3 fl up3 => ?_
    have J3 : Inv X pins σ' H' { s' with heap := h3 } := J.landed nb fl.1 (up.trans up3) hos bare
    obtain ⟨o3, v3, g3, z3, d3⟩ := fl.there
    have nfr : a ∉ frs (X.env :: X.outer) := fun hm => by
      obtain ⟨_, o', g', no⟩ := fl.2.2.1.mem hm
      exact no v3 (by rw [g3] at g'; cases g'; exact d3)
    have nL : a ≠ X.env.locals := fun z => nfr (List.mem_filterMap.mpr ⟨X.env, by simp, by rw [e2, z]⟩)
    have nF : a ∉ X.fs := fun hm => by
      obtain ⟨e, he, q⟩ := List.mem_filterMap.mp hm
      exact nfr (List.mem_filterMap.mpr ⟨e, by simp [he], q⟩)
    have S3 := J3.suite g3 d3 na nL nF
    have walk : ∀ {hs l}, ClOk X n hs l → wCl X.K i Wo D l cls d σ' H' → wpAny (model X.prog X.w) X.A (handleBy (.ref a) X.env hs) (SP X pins D) X.xe { s' with heap := h3 } := by
      intro hs l c
      induction c with
      | nil =>
        intro w
        obtain ⟨k1, k2, k3, o, vs, T, oT, tx, he, hz, hdt, h1, hr⟩ := id fl
        refine wpAny_handleBy_nil ?_
        unfold PySem.passOn
        refine wpAny_bind (wpAny_field he hdt h1 ?_)
        rw [if_neg (by simp : ¬ ((Value.ref T == Value.none) = true))]
        have last : wpAny (model X.prog X.w) X.A (setFlight (.ref a) X.env.frame) (fun _ y => wpAny (model X.prog X.w) X.A (throw (.ref a) : Sem Flow) (SP X pins D) X.xe y) X.xe { s' with heap := h3 } := by
          rw [e2]
          exact HandSPX.setFlight_upZ fl fun h4 q4 up4 => wpAny_throw (tk _ _ ⟨a, B, z0, pins, σ', H', cls, d, rfl, J, nb, (up.trans up3).trans up4, .inr (.inr (by rw [e1]; exact q4)), na, hos, bare, w⟩)
        first
          | exact wpAny_bind (wpAny_pure (wpAny_bind last))
          | exact wpAny_bind last
      | @cons x c ts st sts np ps hs l nm hsu r ih =>
        intro w
        obtain ⟨b, eb, wy, wn⟩ := w
        refine wpAny_handleBy_cons (codeAny_handlers_test ?_) (by intro z; cases z)
        have lk : PySem.W.Looks (model X.prog X.w) h3 (typeOf (.ref a)) cls := fun A Q E s k q => wpAny_typeOf_ref (k _ _ g3) (z3.1.symm ▸ q)
        have lm := PySem.W.exm_one (M := model X.prog X.w) J3.kIn lk eb
        have ask : ∀ {Q E : Value → Shared → Prop}, Q c { s' with heap := h3 } → wpAny (model X.prog X.w) (X.A.mark (some (.ref a))) (eval (.Name x np) X.env) Q E { s' with heap := h3 } := fun {Q E} q => by
          obtain ⟨y1, y2, y3 | ⟨y3, y4, y5⟩⟩ := nm
          · exact ld_glob (X := X.suite a ((a, o3) :: (X.pn ++ pins))) S3 y1 y3 q y2
          · exact ld_blt (X := X.suite a ((a, o3) :: (X.pn ++ pins))) S3 y1 y3 y4 q y5 y2
        refine ask (lm.here ?_)
        cases b with
        | false => exact ih (wn rfl)
        | true =>
          refine codeAny_handlers_suite_as (HandSPX.lands_againZ fl fun h4 fl4 up4 => ?_)
          have J4 : Inv X pins σ' H' { s' with heap := h4 } := J.landed nb fl4.1 ((up.trans up3).trans up4) hos bare
          obtain ⟨o4, v4, g4, z4, d4⟩ := fl4.there
          refine store_ok (X := X.suite a ((a, o4) :: (X.pn ++ pins))) (v := .ref a) (J4.suite g4 d4 na nL nF) nd hi (.inl hl) rfl (fun s5 S5 => ?_) (.inr hl)
          refine wpAny_mono ((hsu a o4 cls d (X.pn ++ pins) z4 ⟨_, d4⟩).run [] s5 _ H' _ S5 (wy rfl a na)) (fun f s6 q => ?_) fun _ _ z => z.elim
          have fin : ∀ {σ6 : L2.St} {H6 : Hp} {Q : Shared → Prop}, Inv (X.suite a ((a, o4) :: (X.pn ++ pins))) [] σ6 H6 s6 → (∀ s7, Inv X pins (σ6.set i none) H6 s7 → Q s7) → wpAny (model X.prog X.w) X.A (do bindName X.env n .none; unbindBehindTheSuite X.env n ps) (fun _ s7 => Q s7) X.xe s6 := fun z hq => gone_ok (z.unsuite kk) nd hi hl hq
          cases f with
          | ret u => obtain ⟨v, σ6, H6, S6, r6, q6⟩ := q; exact fin S6 fun _ J7 => ⟨v, _, H6, J7, r6, q6⟩
          | next => obtain ⟨σ6, H6, S6, q6⟩ := q; exact fin S6 fun _ J7 => ⟨_, H6, J7, q6⟩
          | brk => obtain ⟨σ6, H6, S6, q6⟩ := q; exact fin S6 fun _ J7 => ⟨_, H6, J7, q6⟩
          | cont => obtain ⟨σ6, H6, S6, q6⟩ := q; exact fin S6 fun _ J7 => ⟨_, H6, J7, q6⟩
    exact walk cl w
  · cases f with
    | ret u => obtain ⟨v, σ', H', J, r, q⟩ := q; exact ⟨v, σ', H', J.ofTry kk, r, q⟩
    | next => obtain ⟨σ', H', J, q⟩ := q; exact wpAny_execs_nil ⟨σ', H', J.ofTry kk, q⟩
    | brk => obtain ⟨σ', H', J, q⟩ := q; exact ⟨σ', H', J.ofTry kk, q⟩
    | cont => obtain ⟨σ', H', J, q⟩ := q; exact ⟨σ', H', J.ofTry kk, q⟩
end OB
set_option Elab.async false
set_option linter.all false
set_option maxRecDepth 100000
set_option maxHeartbeats 4000000
namespace OB
open PySem PySem.Spec PyProof.Rows L2
/-! ### own exceptions -/
theorem IsFs.app {K : PySem.W.Frag} {B : Hp} : ∀ {ds es : List (PySem.Str × D)} {vs ws : List (PySem.Str × V)}, IsFs K B vs ds → IsFs K B ws es → IsFs K B (vs ++ ws) (ds ++ es)
  | [], _, _, _, h, h' => by cases h; exact h'
  | d :: ds, _, _, _, h, h' => by
    cases h with
    | cons h1 h2 => exact .cons h1 (IsFs.app h2 h')
theorem isfs_zip {K : PySem.W.Frag} {B : Hp} : ∀ {fl : List PySem.Str} {ds : List D} {vs : List V}, IsAll K B vs ds → IsFs K B (fl.zip vs).reverse (fl.zip ds).reverse
  | [], _, _, _ => .nil
  | f :: fl, [], _, h => by cases h; exact .nil
  | f :: fl, d :: ds, _, h => by
    cases h with
    | cons h1 h2 =>
      rw [List.zip_cons_cons, List.zip_cons_cons, List.reverse_cons, List.reverse_cons]
      exact (isfs_zip h2).app (.cons h1 .nil)
def spXi (K : PySem.W.Frag) (C : Addr) (fl : List PySem.Str) : Sp := fun vs H Q _ => ∃ (a : Addr) (ws : List V), vs = .ref a :: ws ∧ ws.length = fl.length ∧ H a = some (exo a C none) ∧
  ∀ d H2, H d = none → d ≠ a → H2 a = some (exo a C (some d)) → H2 d = some (exd d (fl.zip ws).reverse) → (∀ b, b ≠ a → b ≠ d → H2 b = H b) → Q .non H2
/-- what is known of an exception class of the text -/
structure ExcD (P : Program) (w : World) (K : PySem.W.Frag) (mg : PySem.Str → Option Value) (base : Heap) (x : PySem.Str) (C : Addr) (k : Nat) (fl : List PySem.Str) : Prop where
  at' : mg x = some (.ref C)
  cls : OexC K C
  init : ∃ fI fd ps, PySem.W.findIn K (.ref C) "__init__" = some (some (.ref fI)) ∧ PySem.W.typeIn K (.ref fI) = some (.type "function") ∧ FnOk P w K mg base (L2.CX P w) k fI fd ps (spXi K C fl) ∧ Binds K fd ps []
section
variable {X : Cx} {N : List PySem.Str} {S scope : Scope} {B0 H0 : Hp} {sds : List SD} {os : List (Addr × OV)} {E : DE} {pos spos p : Pos} {a b e elt tg iter cond : Expr} {es : List Expr} {P : D → Prop} {R : Addr → List (PySem.Str × D) → Prop} {k : Nat}
theorem g1_raise (c : Ctx X N S) {x : PySem.Str} {C : Addr} {fl : List PySem.Str} (xc : ExcD X.prog X.w X.K X.mg X.base x C k fl) (hr : Room (k + 1) X.A) (air : Air X B0 H0 R) (h : EA X B0 H0 sds os (e :: es) fun ds => ds.length = fl.length ∧ fl.length ≤ 100 ∧ R C (fl.zip ds).reverse) (hg : glB S x = true := by decide +kernel)
    (hdb : (x == ("__debug__" : PySem.Str)) = false := by decide +kernel) (he : starEach (e :: es) X.env = (false, eval e X.env) :: starEach es X.env := by rfl) (hpl : (backTo pos (starEach es X.env)).any (·.1) = false := by rfl) : Go1 X B0 H0 sds os E (.Raise (some (.Call (.Name x p) (e :: es) [] pos)) none spos) := fun A B H σ ea s => by
  obtain ⟨fI, fd, ps, h1, h2, h3, h4⟩ := xc.init
  obtain ⟨Ew, tk, hE⟩ := air
  refine PS.to (ps_raise c.calm tk (pmk_oex xc.cls h1 h2 h3 hr h4 .nil (passes_call tk fun _ _ _ _ z => z.elim) (c.gl hg) xc.at' pa_w hdb he hpl)) ?_
  refine h B H σ s _ fun vs B1 H1 ds g1 i1 ⟨hl, hz, hR⟩ => ⟨by rw [i1.len, hl]; omega, fun x hx => ⟨x, vs ++ [], rfl, by rw [List.append_nil, i1.len, hl], upd_same, fun d H2 hd hda e1 e2 e3 => ⟨rfl, d, _, e1, e2, ?_, ?_⟩⟩⟩
  · rw [upd_ne hda] at hd; exact hd
  · rw [upd_ne hda] at hd
    have eh : Ex H1 (upd (L2.del H2 x) d (.xd (fl.zip (vs ++ [])).reverse)) := fun b o q => by
      have hb1 : b ≠ x := fun z => by rw [z, hx] at q; cases q
      have hb2 : b ≠ d := fun z => by rw [z, hd] at q; cases q
      rw [upd_ne hb2, del_ne hb1, e3 b hb1 hb2, upd_ne hb1]
      exact q
    have g2 := Grow.up g1.bh eh
    refine hE C _ d _ B1 _ ((s.g.trans g1).trans g2) upd_same ?_ hR
    rw [List.append_nil]
    exact isfs_zip i1
end
section
variable {P : Program} {w : World} {K : PySem.W.Frag} {mg : PySem.Str → Option Value} {base : Heap} {C : Addr}
theorem exc_init1 {x qual s n fld : PySem.Str} {st : Stmt} {f : Addr} {fd : FuncData} {p1 p2 p3 p4 : Pos} {k : Nat} (F : Fun K x qual st f fd) (Sc : FnScope [s, n] [s, n] (defScope st)) (T : OexC K C) (hno : PySem.W.findIn K (.ref C) fld = some none)
    (hbd : defBody st = [.Assign [.Attribute (.Name s p1) fld p2] (.Name n p3) p4] := by rfl) (v1 : visB (defScope st) s = true := by decide +kernel) (v2 : visB (defScope st) n = true := by decide +kernel) (d1 : (s == ("__debug__" : PySem.Str)) = false := by decide +kernel) (d2 : (n == ("__debug__" : PySem.Str)) = false := by decide +kernel)
    (c1 : (s == ("__classdict__" : PySem.Str)) = false := by decide +kernel) (c2 : (n == ("__classdict__" : PySem.Str)) = false := by decide +kernel) : FnOk P w K mg base (L2.CX P w) (k + 1) f fd [s, n] (spXi K C [fld]) := by
  refine F.okX Sc (fun vs H Q E ⟨a, ws, e, l, _⟩ => by rw [e, List.length_cons, l] <;> rfl) fun cdv A outer sh H vs Q E hr ⟨a, ws, e, l, ha, hq⟩ => ?_
  have c : Ctx (cxOf (L2.CX P w) P w K mg base [s, n] qual (defScope st) f cdv A outer sh H E) [s, n] (defScope st) := ⟨rfl, rfl, Sc.nd, rfl⟩
  match ws, l with
  | [y], _ =>
    subst e
    refine ⟨_, by rw [hbd]; exact pss_cons (ps_ost (pe_var (i := 0) rfl (c.vis v1) d1 c1) (pe_var (i := 1) rfl (c.vis v2) d2 c2)) pss_nil, ?_⟩
    refine ⟨y, rfl, .ref a, rfl, a, C, rfl, T, hno, .inl ⟨ha, fun d hd hda => ?_⟩⟩
    refine hq d _ hd hda upd_same (by rw [upd_ne hda]; exact upd_same) fun b h1 h2 => by rw [upd_ne h1, upd_ne h2]
theorem exc_init2 {x qual s n n2 fld fld2 : PySem.Str} {st : Stmt} {f : Addr} {fd : FuncData} {p1 p2 p3 p4 q1 q2 q3 q4 : Pos} {k : Nat} (F : Fun K x qual st f fd) (Sc : FnScope [s, n, n2] [s, n, n2] (defScope st)) (T : OexC K C) (hno : PySem.W.findIn K (.ref C) fld = some none) (hno2 : PySem.W.findIn K (.ref C) fld2 = some none)
    (hbd : defBody st = [.Assign [.Attribute (.Name s p1) fld p2] (.Name n p3) p4, .Assign [.Attribute (.Name s q1) fld2 q2] (.Name n2 q3) q4] := by rfl) (v1 : visB (defScope st) s = true := by decide +kernel) (v2 : visB (defScope st) n = true := by decide +kernel) (v3 : visB (defScope st) n2 = true := by decide +kernel) (d1 : (s == ("__debug__" : PySem.Str)) = false := by decide +kernel) (d2 : (n == ("__debug__" : PySem.Str)) = false := by decide +kernel) (d3 : (n2 == ("__debug__" : PySem.Str)) = false := by decide +kernel)
    (c1 : (s == ("__classdict__" : PySem.Str)) = false := by decide +kernel) (c2 : (n == ("__classdict__" : PySem.Str)) = false := by decide +kernel) (c3 : (n2 == ("__classdict__" : PySem.Str)) = false := by decide +kernel) : FnOk P w K mg base (L2.CX P w) (k + 1) f fd [s, n, n2] (spXi K C [fld, fld2]) := by
  refine F.okX Sc (fun vs H Q E ⟨a, ws, e, l, _⟩ => by rw [e, List.length_cons, l] <;> rfl) fun cdv A outer sh H vs Q E hr ⟨a, ws, e, l, ha, hq⟩ => ?_
  have c : Ctx (cxOf (L2.CX P w) P w K mg base [s, n, n2] qual (defScope st) f cdv A outer sh H E) [s, n, n2] (defScope st) := ⟨rfl, rfl, Sc.nd, rfl⟩
  match ws, l with
  | [y, z], _ =>
    subst e
    refine ⟨_, by rw [hbd]; exact pss_cons (ps_ost (pe_var (i := 0) rfl (c.vis v1) d1 c1) (pe_var (i := 1) rfl (c.vis v2) d2 c2)) (pss_cons (ps_ost (pe_var (i := 0) rfl (c.vis v1) d1 c1) (pe_var (i := 2) rfl (c.vis v3) d3 c3)) pss_nil), ?_⟩
    refine ⟨y, rfl, .ref a, rfl, a, C, rfl, T, hno, .inl ⟨ha, fun d hd hda => ?_⟩⟩
    refine ⟨z, rfl, .ref a, rfl, a, C, rfl, T, hno2, .inr ⟨d, [(fld, y)], upd_same, by rw [upd_ne hda]; exact upd_same, show 1 ≤ 900 from by decide, ?_⟩⟩
    refine hq d _ hd hda (by rw [upd_ne (Ne.symm hda)]; exact upd_same) upd_same fun b h1 h2 => by rw [upd_ne h2, upd_ne h1, upd_ne h2]
end
end OB
set_option Elab.async false
set_option linter.all false
set_option maxRecDepth 100000
set_option maxHeartbeats 4000000
namespace OB
open PySem PySem.Spec PyProof.Rows L2
/-! ### try, by data -/
structure CtxB (X : Cx) (N : List PySem.Str) (S : Scope) : Prop where
  hN : X.N = N
  hS : X.env.scope = S
  nd : N.Nodup
  fn : ∀ x, X.fn x = true
structure CtxT (X : Cx) (N : List PySem.Str) (S : Scope) : Prop extends CtxD X N S where
  stk : X.stack = X.env :: X.outer
  frm : X.env.frame = some X.env.locals
  own : PassesOwn (model X.prog X.w) X.A X.env X.xe
theorem takes_impI {X : Cx} {W W' : L2.WX} (t : Takes X W) (h : ∀ c d σ H, σ.length = X.N.length → W' c d σ H → W c d σ H) : Takes X W' := fun u s' ⟨a, B, sI, pins, σ, H, cls, d, e, I, nb, up, sky, na, os, ag, w⟩ =>
  t u s' ⟨a, B, sI, pins, σ, H, cls, d, e, I, nb, up, sky, na, os, ag, h _ _ _ _ I.len w⟩
/-- a clause: the class named, the suite -/
abbrev Cl := Value × List Stmt
section
variable {X : Cx} {N : List PySem.Str} {S scope : Scope} {B0 H0 : Hp} {sds : List SD} {os : List (Addr × OV)} {E : DE} {pos spos p : Pos} {a b e elt tg iter cond : Expr} {es : List Expr} {P : D → Prop} {R : Addr → List (PySem.Str × D) → Prop} {k : Nat} {body : List Stmt} {a' : Addr} {oe : Obj} {pn : List (Addr × Obj)}
/-- what the suite is asked of -/
def SuOk (X : Cx) (N : List PySem.Str) (i : Nat) (B0 H0 : Hp) (E : DE) (C : Addr) (fs : List (PySem.Str × D)) (sts : List Stmt) : Prop :=
  ∀ (a d : Addr) (ws : List (PySem.Str × V)) (oe : Obj) (pn : List (Addr × Obj)) (B' H' : Hp), Zc (.ref C) (some d) oe → (∃ vs, oe.data = .fields vs) → Grow B0 H0 B' H' → H' d = some (.xd ws) → IsFs X.K B' ws fs → H' a = none →
    Go (X.suite a ((a, oe) :: pn)) B' H' ((List.replicate N.length SD.un).set i (.v (.ref a))) [] { nx := fun s o => E.nx (s.set i .un) o, rt := E.rt, bk := fun s o => E.bk (s.set i .un) o, ct := fun s o => E.ct (s.set i .un) o } sts
def CatchOk (X : Cx) (N : List PySem.Str) (i : Nat) (B0 H0 : Hp) (E : DE) (C : Addr) (fs : List (PySem.Str × D)) : List Cl → Prop
  | [] => False
  | (c, sts) :: r => ∃ b, PySem.W.exmOne X.K (.ref C) c = some b ∧ (b = true → SuOk X N i B0 H0 E C fs sts) ∧ (b = false → CatchOk X N i B0 H0 E C fs r)
inductive ClsOk (X : Cx) (n : PySem.Str) : List ExceptHandler → List Cl → Prop
  | nil : ClsOk X n [] []
  | cons {x : PySem.Str} {c : Value} {st : Stmt} {sts : List Stmt} {np ps : Pos} {hs : List ExceptHandler} {l : List Cl} : Names X x c → ClsOk X n hs l → ClsOk X n (.ExceptHandler (some (.Name x np)) (some n) (st :: sts) ps :: hs) ((c, st :: sts) :: l)
def suT (X : Cx) (sts : List Stmt) : SuT := fun a cls d D σ H => ∀ oe pn, Zc cls d oe → (∃ vs, oe.data = .fields vs) → wSs (X.suite a ((a, oe) :: pn)) sts D σ H
theorem ClsOk.cl {n : PySem.Str} {hs : List ExceptHandler} {l : List Cl} (h : ClsOk X n hs l) : ClOk X n hs (l.map fun c => (c.1, suT X c.2)) := by
  induction h with
  | nil => exact .nil
  | cons nm r ih => exact .cons nm (fun a oe cls d pn z f => ⟨fun pins s σ H D I h => (h oe pn z f).run pins s I⟩) ih
theorem St.rebase {K : PySem.W.Frag} {B0 H0 B1 H1 B H : Hp} {σ : L2.St} (s : St K B1 H1 B H σ sds os) (g : Grow B0 H0 B1 H1) : St K B0 H0 B H σ sds os :=
  ⟨g.trans s.g, s.sl, s.ow, fun a ha => ⟨(s.fr a ha).1, Evl.fresh_back g.h (s.fr a ha).2⟩, s.nd⟩
theorem g1_try (c : CtxT X N S) (i : Nat) {n : PySem.Str} {hd : ExceptHandler} {hds : List ExceptHandler} (l : List Cl) (cl : ClsOk X n (hd :: hds) l) (hi : N[i]? = some n := by rfl) (hl : S.names.lookup n = some .local := by decide +kernel)
    (hc : ∀ B1 H1 C fs, R C fs → CatchOk X N i B1 H1 E C fs l)
    (hb : ∀ pn xe B1 H1, CtxT (X.tr pn xe) N S → Air (X.tr pn xe) B1 H1 R → Go (X.tr pn xe) B1 H1 sds [] E body) : Go1 X B0 H0 sds [] E (.Try body (hd :: hds) [] [] pos) := fun A B H σ ea s => by
  have hk : X.env.kindOf n = some .local := by unfold Env.kindOf; rw [c.hS]; exact hl
  have back : ∀ {B' H' σ' sds' os'}, St X.K B H B' H' σ' sds' os' → St X.K B0 H0 B' H' σ' sds' os' := fun z => z.rebase s.g
  refine PS.to (ps_try_cl (i := i) (tb := fun W D σ H => ∀ pn xe, Takes (X.tr pn xe) W → PassesOwn (model X.prog X.w) X.A X.env xe → wSs (X.tr pn xe) body D σ H) (Wo := fun _ _ _ _ => False) c.stk c.frm (by rw [c.hN]; exact c.nd) (by rw [c.hN]; exact hi) hk takes0
    (fun W pn xe tk po => ⟨fun pins s σ H D I h => (h pn xe tk po).run pins s I⟩) cl.cl) ?_
  intro pn xe tk po
  refine wSs.imp (hb pn xe B H ⟨⟨⟨c.hN, c.hS, c.nd, c.calm⟩, c.fn⟩, c.stk, c.frm, po⟩ ⟨fun cls d H' => ∃ C fs dd ws B', cls = .ref C ∧ d = some dd ∧ Grow B H B' H' ∧ H' dd = some (.xd ws) ∧ IsFs X.K B' ws fs ∧ R C fs, takes_impI tk ?_, ?_⟩ B B H σ (Evl.Ex.refl _) ⟨Grow.refl s.g.bh, s.sl, (fun _ h => nomatch h), (fun _ h => nomatch h), List.nodup_nil⟩) ?_ ?_ ?_ ?_
  · intro cls d σ' H' hlen ⟨C, fs, dd, ws, B', e1, e2, g, hx, hf, hr⟩
    subst e1; subst e2
    have hlen' : σ'.length = N.length := hlen.trans (by rw [← c.hN])
    have go : ∀ l, CatchOk X N i B H E C fs l → wCl X.K i (fun _ _ _ _ => False) (E.ends X.K B0 H0 A) (l.map fun c => (c.1, suT X c.2)) (.ref C) (some dd) σ' H' := by
      intro l
      induction l with
      | nil => exact fun z => z.elim
      | cons q r ih =>
        obtain ⟨c0, sts⟩ := q
        intro ⟨b, hb, h1, h2⟩
        refine ⟨b, hb, fun hb' a na oe pn z f => ?_, fun hb' => ih (h2 hb')⟩
        have go := h1 hb' a dd ws oe pn B' H' z f g hx hf na
        have gg := s.g.trans g
        refine wSs.imp (go B' B' H' (σ'.set i (some (.ref a))) (Evl.Ex.refl _) ⟨Grow.refl g.bh, ⟨by simp [hlen'], fun j sd q => ?_⟩, (fun _ h => nomatch h), (fun _ h => nomatch h), List.nodup_nil⟩) ?_ ?_ ?_ ?_
        · by_cases hj : i = j
          · subst hj
            have hil : i < N.length := (List.getElem?_eq_some_iff.mp hi).1
            rw [List.getElem?_set_self (by simpa using hil)] at q
            cases q
            show (σ'.set i (some (V.ref a)))[i]? = some (some (V.ref a))
            rw [List.getElem?_set_self (by rw [hlen']; exact hil)]
          · rw [List.getElem?_set_ne hj, List.getElem?_replicate] at q
            split at q
            · cases q; trivial
            · cases q
        · intro σ2 H2 ⟨B2, sds2, os2, e2, s2, p2⟩
          exact ⟨B2, _, os2, (ea.trans g.b).trans e2, ⟨(s2.rebase gg).g, s2.sl.forget, s2.ow, (s2.rebase gg).fr, s2.nd⟩, p2⟩
        · intro v H2 ⟨B2, d2, e2, g2, i2, p2⟩
          exact ⟨B2, d2, (ea.trans g.b).trans e2, gg.trans g2, i2, p2⟩
        · intro σ2 H2 ⟨B2, sds2, os2, e2, s2, p2⟩
          exact ⟨B2, _, os2, (ea.trans g.b).trans e2, ⟨(s2.rebase gg).g, s2.sl.forget, s2.ow, (s2.rebase gg).fr, s2.nd⟩, p2⟩
        · intro σ2 H2 ⟨B2, sds2, os2, e2, s2, p2⟩
          exact ⟨B2, _, os2, (ea.trans g.b).trans e2, ⟨(s2.rebase gg).g, s2.sl.forget, s2.ow, (s2.rebase gg).fr, s2.nd⟩, p2⟩
    exact go l (hc B H C fs hr)
  · exact fun C fs dd ws B' H' g hx hf hr => ⟨C, fs, dd, ws, B', rfl, rfl, g, hx, hf, hr⟩
  · exact fun σ2 H2 ⟨B2, sds2, os2, e2, s2, p2⟩ => ⟨B2, sds2, os2, ea.trans e2, back s2, p2⟩
  · exact fun v H2 ⟨B2, d2, e2, g2, i2, p2⟩ => ⟨B2, d2, ea.trans e2, s.g.trans g2, i2, p2⟩
  · exact fun σ2 H2 ⟨B2, sds2, os2, e2, s2, p2⟩ => ⟨B2, sds2, os2, ea.trans e2, back s2, p2⟩
  · exact fun σ2 H2 ⟨B2, sds2, os2, e2, s2, p2⟩ => ⟨B2, sds2, os2, ea.trans e2, back s2, p2⟩
/-! ### in a suite -/
theorem sub_suite (c : CtxT X N S) {a : Addr} {pn : List (Addr × Obj)} : CtxB (X.suite a pn) N S := ⟨c.hN, c.hS, c.nd, c.fn⟩
theorem ex_varB (c : CtxB X N S) (i : Nat) {x : PySem.Str} {d : D} (p : P d) (hs : sds[i]? = some (.d d) := by rfl) (hN : N[i]? = some x := by rfl) (hv : visB S x = true := by decide +kernel)
    (hd : (x == ("__debug__" : PySem.Str)) = false := by decide +kernel) (hcd : (x == ("__classdict__" : PySem.Str)) = false := by decide +kernel) : EX X B0 H0 sds os (.Name x pos) P := fun B H σ s Q q => by
  obtain ⟨v, e1, hi⟩ := s.var hs
  refine PE.to (pe_var (i := i) (by rw [c.hN]; exact hN) ?_ hd hcd) ⟨v, e1, q v B H d (Grow.refl s.g.bh) hi p⟩
  have hv' := hv
  unfold visB at hv'
  rw [c.hS]
  unfold Vis
  split at hv' <;> first | (rename_i e; rw [e]; simp) | cases hv'
theorem g1_asgB (c : CtxB X N S) (i : Nat) {x : PySem.Str} {pos' : Pos} (h : EX X B0 H0 sds os e fun d => E.nx (sds.set i (.d d)) os) (hN : N[i]? = some x := by rfl) (hv : locB S x = true := by decide +kernel)
    (hs : swapsWith e (some (.Name x pos')) pos.line X.env = pure false := by rfl) : Go1 X B0 H0 sds os E (.Assign [.Name x pos'] e pos) := fun A B H σ ea s => by
  have hl : L2.Loc X.env.scope x := by
    have hv' := hv
    unfold locB at hv'
    rw [c.hS]
    unfold L2.Loc
    split at hv' <;> first | (rename_i e; rw [e]; simp) | cases hv'
  exact PS.to (ps_set (i := i) (by rw [c.hN]; exact c.nd) (by rw [c.hN]; exact hN) hl pe_w hs (.inl (c.fn x))) (h B H σ s _ fun v B1 H1 d g1 i1 p => ⟨B1, _, _, ea.trans g1.b, (s.grow g1).set i1, p⟩)
/-- e.f of the error caught -/
theorem ex_xf (c : CtxB (X.suite a' ((a', oe) :: pn)) N S) (i : Nat) {x f : PySem.Str} {px : Pos} {C d : Addr} {ws : List (PySem.Str × V)} {fs : List (PySem.Str × D)} {dv : D} (T : XfC X.K C) (hno : PySem.W.findIn X.K (.ref C) f = some none) (hz : Zc (.ref C) (some d) oe) (hf : ∃ vs, oe.data = .fields vs)
    (hx : H0 d = some (.xd ws)) (hfs : IsFs X.K B0 ws fs) (hl : fs.lookup f = some dv) (hp : P dv) (hs : sds[i]? = some (.v (.ref a')) := by rfl) (hN : N[i]? = some x := by rfl) (hv : visB S x = true := by decide +kernel)
    (hd : (x == ("__debug__" : PySem.Str)) = false := by decide +kernel) (hcd : (x == ("__classdict__" : PySem.Str)) = false := by decide +kernel) (hb : attributeBase (.Name x px) f X.env (eval (.Name x px) X.env) = eval (.Name x px) X.env := by rfl) : EX (X.suite a' ((a', oe) :: pn)) B0 H0 sds os (.Attribute (.Name x px) f pos) P := fun B H σ s Q q => by
  have hvis : Vis (X.suite a' ((a', oe) :: pn)).env.scope x := by
    have hv' := hv
    unfold visB at hv'
    rw [c.hS]
    unfold Vis
    split at hv' <;> first | (rename_i e; rw [e]; simp) | cases hv'
  obtain ⟨v, hv2, iv⟩ := hfs.look hl
  exact PE.to (pe_xf T hno hz hf (pe_var (i := i) (by rw [c.hN]; exact hN) hvis hd hcd) hb) ⟨_, s.varV hs, rfl, rfl, d, ws, v, rfl, s.g.h _ _ hx, hv2, q v B H dv (Grow.refl s.g.bh) (iv.mono s.g.b) hp⟩
end
end OB
set_option Elab.async false
set_option linter.all false
set_option maxRecDepth 100000
set_option maxHeartbeats 4000000
namespace OB
open PySem PySem.Spec PyProof.Rows L2
/-! ### defs once more, with all of the context; instances -/
def without (H : Hp) (a : Addr) : Hp := fun b => if b = a then none else H b
theorem without_ne {H : Hp} {a b : Addr} (h : b ≠ a) : without H a b = H b := if_neg h
theorem without_same {H : Hp} {a : Addr} : without H a a = none := if_pos rfl
section
variable {P : Program} {w : World} {K : PySem.W.Frag} {mg : PySem.Str → Option Value} {base : Heap}
theorem ctxT_of {N : List PySem.Str} {qual : PySem.Str} {sc : Scope} {f : Addr} {cdv : Value} {A : Around} {outer : List Env} {s : Shared} {H : Hp} {E : XK} (nd : N.Nodup) : CtxT (cxOf (L2.CX P w) P w K mg base N qual sc f cdv A outer s H E) N sc :=
  ⟨⟨⟨rfl, rfl, nd, rfl⟩, fun _ => rfl⟩, rfl, rfl, passes_of rfl⟩
/-- what a body is asked of -/
def Bod (P : Program) (w : World) (K : PySem.W.Frag) (mg : PySem.Str → Option Value) (base : Heap) (k : Nat) (N : List PySem.Str) (sc : Scope) (body : List Stmt) (Sf : SpD) : Prop :=
  ∀ X : Cx, X.prog = P → X.w = w → X.K = K → X.mg = mg → X.base = base → Room k X.A → CtxT X N sc → BodyOk X N Sf body
theorem fn_mk2 {x name qual : PySem.Str} {params : Arguments} {body : List Stmt} {sc : Scope} {dV kV doc pm cdv ct oc : Value} {an od : Option Addr} {osl : Array (Option Value)} {f : Addr} {N ps : List PySem.Str} {k : Nat} {Sf : SpD}
    (lk : K.lookup f = some ⟨oc, od, .func (PySem.W.fnOf name qual params body sc dV kV doc pm an cdv ct), osl⟩) (hcd : PySem.W.codeIn K cdv qual = true) (kp : PySem.W.keepIn K (.ref f) = true) (Sc : FnScope N ps sc) (hm : mg x = some (.ref f)) (hb : Binds K (PySem.W.fnOf name qual params body sc dV kV doc pm an cdv ct) ps [])
    (len : ∀ ds P R, Sf ds P R → ds.length = ps.length) (h : Bod P w K mg base k N sc body Sf) : FnD P w K mg base x (k + 1) Sf := by
  refine ⟨f, _, ps, hm, kp, hb, fn_of lk hcd Sc (fun vs H Q E ⟨B, ds, P, R, _, h1, h2, _⟩ => by rw [h1.len]; exact len _ _ _ h2) fun A outer s H vs Q E hr hsp => ⟨_, pss_w, ?_⟩⟩
  obtain ⟨B, ds, P', R, eb, h1, h2, h3, h4⟩ := hsp
  have go := h (cxOf (L2.CX P w) P w K mg base N qual sc f cdv A outer s H E) rfl rfl rfl rfl rfl hr (ctxT_of Sc.nd) ds P' R h2 B H ⟨E, takes_of rfl rfl rfl rfl, h4⟩
  refine wSs.imp (go B B H (L2.start N vs) (Evl.Ex.refl _) ⟨Grow.refl eb, slots_ini h1, (fun _ h => (nomatch h)), (fun _ h => (nomatch h)), List.nodup_nil⟩) (fun σ' H' ⟨B', sds', os', _, s', p⟩ => h3 _ _ _ _ s'.g .non p) (fun v H' ⟨B', d, _, g, i, p⟩ => h3 _ _ _ _ g i p) (fun σ' H' ⟨B', sds', os', _, s', p⟩ => p.elim) (fun σ' H' ⟨B', sds', os', _, s', p⟩ => p.elim)
/-! instances -/
abbrev SpI := List D → (List (PySem.Str × D) → Prop) → (Addr → List (PySem.Str × D) → Prop) → Prop
def toSpI (K : PySem.W.Frag) (C : Addr) (S : SpI) : Sp := fun vs H Q E => ∃ (a dx : Addr) (ws : List V) (B : Hp) (ds : List D) (P : List (PySem.Str × D) → Prop) (R : Addr → List (PySem.Str × D) → Prop), vs = .ref a :: ws ∧ H a = some (.ins C dx []) ∧ B a = none ∧ Ex B H ∧ IsAll K B ws ds ∧ S ds P R ∧
  (∀ B' H' us fs, Grow B (without H a) B' H' → B' a = none → H' a = some (.ins C dx us) → IsFs K B' us fs → P fs → Q .non H') ∧
  (∀ C fs dd ws B' H', Grow B (without H a) B' H' → H' dd = some (.xd ws) → IsFs K B' ws fs → R C fs → E (.ref C) (some dd) H')
structure MkD (P : Program) (w : World) (K : PySem.W.Frag) (mg : PySem.Str → Option Value) (base : Heap) (x : PySem.Str) (C : Addr) (k : Nat) (S : SpI) : Prop where
  at' : mg x = some (.ref C)
  init : ∃ f fd ps, Mk K C f ∧ FnOk P w K mg base (L2.CX P w) k f fd ps (toSpI K C S) ∧ Binds K fd ps []
def BodI (P : Program) (w : World) (K : PySem.W.Frag) (mg : PySem.Str → Option Value) (base : Heap) (k : Nat) (N : List PySem.Str) (sc : Scope) (body : List Stmt) (C : Addr) (S : SpI) : Prop :=
  ∀ X : Cx, X.prog = P → X.w = w → X.K = K → X.mg = mg → X.base = base → Room k X.A → CtxT X N sc → ∀ ds P R, S ds P R → ∀ B0 H0 a dx, Air X B0 H0 R → Go X B0 H0 (.v (.ref a) :: ini (N.length - 1) ds) [(a, .ins C dx [])] { nx := fun _ os => ∃ fs, os = [(a, .ins C dx fs)] ∧ P fs } body
theorem init_mk {name qual : PySem.Str} {params : Arguments} {body : List Stmt} {sc : Scope} {dV kV doc pm cdv ct oc : Value} {an od : Option Addr} {osl : Array (Option Value)} {f C : Addr} {N ps : List PySem.Str} {k : Nat} {S : SpI}
    (lk : K.lookup f = some ⟨oc, od, .func (PySem.W.fnOf name qual params body sc dV kV doc pm an cdv ct), osl⟩) (hcd : PySem.W.codeIn K cdv qual = true) (Sc : FnScope N ps sc) (hN : 0 < N.length) (len : ∀ ds P R, S ds P R → ds.length + 1 = ps.length) (h : BodI P w K mg base k N sc body C S) :
    FnOk P w K mg base (L2.CX P w) (k + 1) f (PySem.W.fnOf name qual params body sc dV kV doc pm an cdv ct) ps (toSpI K C S) := by
  refine fn_of lk hcd Sc (fun vs H Q E ⟨a, dx, ws, B, ds, P, R, e, _, _, _, h1, h2, _⟩ => by rw [e, List.length_cons, h1.len]; exact len _ _ _ h2) fun A outer s H vs Q E hr hsp => ⟨_, pss_w, ?_⟩
  obtain ⟨a, dx, ws, B, ds, P', R, e, ha, hB, eb, h1, h2, h3, h4⟩ := hsp
  subst e
  have go := h (cxOf (L2.CX P w) P w K mg base N qual sc f cdv A outer s H E) rfl rfl rfl rfl rfl hr (ctxT_of Sc.nd) ds P' R h2 B (without H a) a dx ⟨E, takes_of rfl rfl rfl rfl, h4⟩
  have e1 : Ex (without H a) H := fun b o q => by
    by_cases hb : b = a
    · subst hb; rw [without_same] at q; cases q
    · rw [without_ne hb] at q; exact q
  have st : St K B (without H a) B H (L2.start N (.ref a :: ws)) (.v (.ref a) :: ini (N.length - 1) ds) [(a, .ins C dx [])] := by
    refine ⟨⟨Evl.Ex.refl _, e1, eb, fun _ q => .inl q⟩, ⟨?_, fun i sd q => ?_⟩, fun e he => ?_, fun b hb => ?_, by simp [fpt]⟩
    · have := h1.len
      simp [L2.start, ini, this]; omega
    · match i, q with
      | 0, q => cases q; rfl
      | i + 1, q =>
        have hs := (slots_ini (N := N.tail) h1).at' i sd (by rw [List.length_tail]; exact q)
        have e : (L2.start N (.ref a :: ws))[i + 1]? = (L2.start N.tail ws)[i]? := by
          unfold L2.start
          rw [List.map_cons, List.cons_append, List.getElem?_cons_succ, List.length_cons, List.length_tail, Nat.sub_add_eq, Nat.sub_right_comm]
        rw [e]; exact hs
    · have e' : e = (a, .ins C dx []) := by simpa using he
      subst e'; exact ⟨[], ha, .nil⟩
    · have e' : b = a := by simpa [fpt] using hb
      subst e'; exact ⟨hB, without_same⟩
  refine wSs.imp (go B B H _ (Evl.Ex.refl _) st) (fun σ' H' ⟨B', sds', os', _, s', fs, eo, p⟩ => ?_) (fun v H' ⟨B', d, _, g, i, p⟩ => p.elim) (fun σ' H' ⟨B', sds', os', _, s', p⟩ => p.elim) (fun σ' H' ⟨B', sds', os', _, s', p⟩ => p.elim)
  subst eo
  obtain ⟨us, q1, q2⟩ := s'.ow _ (List.mem_singleton.mpr rfl)
  exact h3 B' H' us fs s'.g (s'.fr a (by simp [fpt])).1 q1 q2 p
end
section
variable {X : Cx} {N : List PySem.Str} {S scope : Scope} {B0 H0 : Hp} {sds : List SD} {os : List (Addr × OV)} {E : DE} {pos spos p : Pos} {a b e elt tg iter cond : Expr} {es : List Expr} {P : D → Prop} {R : Addr → List (PySem.Str × D) → Prop} {k : Nat} {body : List Stmt}
theorem ex_make (c : Ctx X N S) {x : PySem.Str} {C : Addr} {Sf : SpI} (F : MkD X.prog X.w X.K X.mg X.base x C k Sf) (hr : Room (k + 1) X.A) (h : EA X B0 H0 sds os (e :: es) fun ds => Sf ds (fun fs => P (.ins C fs)) fun _ _ => False) (hg : glB S x = true := by decide +kernel)
    (hdb : (x == ("__debug__" : PySem.Str)) = false := by decide +kernel) (he : starEach (e :: es) X.env = (false, eval e X.env) :: starEach es X.env := by rfl) (hpl : (backTo pos (starEach es X.env)).any (·.1) = false := by rfl) : EX X B0 H0 sds os (.Call (.Name x p) (e :: es) [] pos) P := fun B H σ s Q q => by
  obtain ⟨f, fd, ps, M, F1, hb⟩ := F.init
  refine PE.to (pe_make (E := fun _ _ _ => False) M F1 hr (c.gl hg) F.at' hb .nil passL pa_w hdb he hpl) ?_
  refine h B H σ s _ fun vs B1 H1 ds g1 i1 hs => ?_
  intro x dx hx hdx hne
  rw [List.append_nil]
  have bx : B1 x = none := Evl.fresh_back g1.bh hx
  have eh : Ex H1 (without (upd (upd H1 dx (.own x)) x (.ins C dx [])) x) := fun b o q => by
    have b1 : b ≠ x := fun z => by rw [z, hx] at q; cases q
    have b2 : b ≠ dx := fun z => by rw [z, hdx] at q; cases q
    rw [without_ne b1, upd_ne b1, upd_ne b2]; exact q
  refine ⟨x, dx, vs, B1, ds, _, _, rfl, upd_same, bx, fun b o q => ?_, i1, hs, fun B' H' us fs g ha' hh hf hp => ⟨rfl, ?_⟩, fun _ _ _ _ _ _ _ _ _ z => z.elim⟩
  · have q' := g1.bh _ _ q
    have b1 : b ≠ x := fun z => by rw [z, hx] at q'; cases q'
    have b2 : b ≠ dx := fun z => by rw [z, hdx] at q'; cases q'
    rw [upd_ne b1, upd_ne b2]; exact q'
  · have g2 : Grow B1 H1 (upd B' x (.ins C dx us)) H' := by
      refine ⟨g.b.trans (Evl.Ex.new ha'), eh.trans g.h, ex_join g.bh hh, fun b q => ?_⟩
      by_cases hb : b = x
      · subst hb; exact .inr (.inl hx)
      · rw [upd_ne hb] at q
        rcases g.fr b q with z | z
        · exact .inl z
        · by_cases hd : b = dx
          · exact .inr (.inl (by rw [hd]; exact hdx))
          · unfold Nw at z; rw [without_ne hb, upd_ne hb, upd_ne hd] at z; exact .inr z
    exact q _ _ _ _ (g1.trans g2) (.ins upd_same (IsFs.mono (Evl.Ex.new ha') _ _ hf)) hp
def putFD (f : PySem.Str) (d : D) : List (PySem.Str × D) → List (PySem.Str × D)
  | [] => [(f, d)]
  | (g, x) :: r => if g = f then (g, d) :: r else (g, x) :: putFD f d r
theorem isfs_put {K : PySem.W.Frag} {B : Hp} {v : V} {d : D} {f : PySem.Str} (h : Is K B v d) : ∀ {fs : List (PySem.Str × D)} {vs : List (PySem.Str × V)}, IsFs K B vs fs → IsFs K B (putF f v vs) (putFD f d fs)
  | [], _, .nil => .cons h .nil
  | (g, x) :: r, _, .cons h1 h2 => by
    unfold putF putFD
    by_cases e : g = f
    · rw [if_pos e, if_pos e]; exact .cons h h2
    · rw [if_neg e, if_neg e]; exact .cons h1 (isfs_put h h2)
/-- self.f = e, self owned alone -/
theorem g1_fld (c : Ctx X N S) (i : Nat) {x f : PySem.Str} {p1 p2 : Pos} {C dx ad : Addr} {fs : List (PySem.Str × D)} (cl : Cls X.K C) (na : NoAttr X.K C f) (h : EX X B0 H0 sds [(ad, .ins C dx fs)] e fun d => fs.length < 1000 ∧ E.nx sds [(ad, .ins C dx (putFD f d fs))]) (hi : sds[i]? = some (.v (.ref ad)) := by rfl)
    (hN : N[i]? = some x := by rfl) (hv : visB S x = true := by decide +kernel) (hd : (x == ("__debug__" : PySem.Str)) = false := by decide +kernel) (hcd : (x == ("__classdict__" : PySem.Str)) = false := by decide +kernel)
    (hs : swapsWith e (some (.Attribute (.Name x p1) f p2)) pos.line X.env = pure false := by rfl) : Go1 X B0 H0 sds [(ad, .ins C dx fs)] E (.Assign [.Attribute (.Name x p1) f p2] e pos) := fun A B H σ ea s => by
  refine PS.to (ps_fld (pe_var (i := i) (by rw [c.hN]; exact hN) (c.vis hv) hd hcd) pe_w hs) ?_
  refine h B H σ s _ fun v B1 H1 d g1 i1 ⟨hl, k⟩ => ?_
  have s1 := s.grow g1
  obtain ⟨us, q1, q2⟩ := s1.ow _ (List.mem_singleton.mpr rfl)
  refine ⟨.ref ad, s1.varV hi, ad, C, dx, us, rfl, q1, cl, na, by rw [q2.len]; exact hl, ?_⟩
  have f1 := s1.fr ad (by simp [fpt])
  refine ⟨B1, sds, _, ea.trans g1.b, ⟨⟨s1.g.b, s1.g.h.mut f1.2, Evl.Ex.mut s1.g.bh f1.1, s1.g.fr⟩, s1.sl, fun e he => ?_, fun b hb => s1.fr b (by simpa [fpt] using hb), by simp [fpt]⟩, k⟩
  have e' : e = (ad, .ins C dx (putFD f d fs)) := by simpa using he
  subst e'
  exact ⟨_, upd_same, isfs_put i1 q2⟩
/-- self.f read of an owned one -/
theorem ex_fldO (c : Ctx X N S) (i j : Nat) {x f : PySem.Str} {px : Pos} {C dx ad : Addr} {fs : List (PySem.Str × D)} {d : D} (cl : Cls X.K C) (na : NoAttr X.K C f) (hl : fs.lookup f = some d) (hp : P d) (hj : os[j]? = some (ad, .ins C dx fs) := by rfl) (hi : sds[i]? = some (.v (.ref ad)) := by rfl)
    (hN : N[i]? = some x := by rfl) (hv : visB S x = true := by decide +kernel) (hd : (x == ("__debug__" : PySem.Str)) = false := by decide +kernel) (hcd : (x == ("__classdict__" : PySem.Str)) = false := by decide +kernel)
    (hb : attributeBase (.Name x px) f X.env (eval (.Name x px) X.env) = eval (.Name x px) X.env := by rfl) : EX X B0 H0 sds os (.Attribute (.Name x px) f pos) P := fun B H σ s Q q => by
  obtain ⟨us, q1, q2⟩ := s.ow _ (List.mem_of_getElem? hj)
  obtain ⟨v, e2, iv⟩ := q2.look hl
  exact PE.to (pe_fld (pe_var (i := i) (by rw [c.hN]; exact hN) (c.vis hv) hd hcd) hb) ⟨.ref ad, s.varV hi, ad, C, dx, us, v, rfl, q1, cl, na, e2, q v B H d (Grow.refl s.g.bh) iv hp⟩
end
end OB
set_option Elab.async false
set_option linter.all false
set_option maxRecDepth 100000
set_option maxHeartbeats 4000000
namespace OB
open PySem PySem.Spec PyProof.Rows L2
/-! ### defs that hand back a new matrix -/
abbrev SpM := List D → (List (List D) → Prop) → Prop
def toSpM (K : PySem.W.Frag) (S : SpM) : Sp := fun vs H Q _ => ∃ (B : Hp) (ds : List D) (P : List (List D) → Prop), Ex B H ∧ IsAll K B vs ds ∧ S ds P ∧
  ∀ p rs B' H' M, Grow B H B' H' → (∀ a ∈ p :: rs, H a = none ∧ B' a = none) → (p :: rs).Nodup → H' p = some (.lst (rs.map V.ref)) → Rows K B' H' rs M → P M → Q (.ref p) H'
structure FnM (P : Program) (w : World) (K : PySem.W.Frag) (mg : PySem.Str → Option Value) (base : Heap) (x : PySem.Str) (k : Nat) (S : SpM) : Prop where
  ex : ∃ (f : Addr) (fd : FuncData) (ps : List PySem.Str), mg x = some (.ref f) ∧ PySem.W.keepIn K (.ref f) = true ∧ Binds K fd ps [] ∧ FnOk P w K mg base (L2.CX P w) k f fd ps (toSpM K S)
section
variable {X : Cx} {N : List PySem.Str} {S scope : Scope} {B0 H0 : Hp} {sds : List SD} {os : List (Addr × OV)} {E : DE} {pos spos p : Pos} {a b e elt tg iter cond : Expr} {es : List Expr} {P : D → Prop} {R : Addr → List (PySem.Str × D) → Prop} {k : Nat} {body : List Stmt}
theorem em_call (c : Ctx X N S) {x : PySem.Str} {Sf : SpM} {P : List (List D) → Prop} (F : FnM X.prog X.w X.K X.mg X.base x k Sf) (hr : Room k X.A) (h : EA X B0 H0 sds os (e :: es) fun ds => Sf ds P) (hg : glB S x = true := by decide +kernel)
    (hdb : (x == ("__debug__" : PySem.Str)) = false := by decide +kernel) (he : starEach (e :: es) X.env = (false, eval e X.env) :: starEach es X.env := by rfl) (hpl : (backTo pos (starEach es X.env)).any (·.1) = false := by rfl) : EM X B0 H0 sds os (.Call (.Name x p) (e :: es) [] pos) P := fun B H σ s Q q => by
  obtain ⟨f, fd, ps, h1, h2, h3, h4⟩ := F.ex
  refine PE.to (pe_call h4 hr (c.gl hg) h1 h2 h3 .nil passL pa_w hdb he hpl) ?_
  refine h B H σ s _ fun vs B1 H1 ds g1 i1 hs => ?_
  rw [List.append_nil]
  exact ⟨B1, ds, P, g1.bh, i1, hs, fun p rs B2 H2 M g2 fr nd h1 h2 hp => q p rs B2 H2 M (g1.trans g2) (fun a ha => ⟨Evl.fresh_back g1.h (fr a ha).1, (fr a ha).2⟩) nd h1 h2 hp⟩
end
section
variable {P : Program} {w : World} {K : PySem.W.Frag} {mg : PySem.Str → Option Value} {base : Heap}
/-- a def of one row: return e -/
theorem fnm_mk {x name qual : PySem.Str} {params : Arguments} {body : List Stmt} {sc : Scope} {dV kV doc pm cdv ct oc : Value} {an od : Option Addr} {osl : Array (Option Value)} {f : Addr} {N ps : List PySem.Str} {k : Nat} {Sf : SpM} {e : Expr} {rp : Pos}
    (lk : K.lookup f = some ⟨oc, od, .func (PySem.W.fnOf name qual params body sc dV kV doc pm an cdv ct), osl⟩) (hcd : PySem.W.codeIn K cdv qual = true) (kp : PySem.W.keepIn K (.ref f) = true) (Sc : FnScope N ps sc) (hm : mg x = some (.ref f)) (hb : Binds K (PySem.W.fnOf name qual params body sc dV kV doc pm an cdv ct) ps [])
    (len : ∀ ds P, Sf ds P → ds.length = ps.length) (hbd : body = [.Return (some e) rp]) (h : ∀ X : Cx, X.prog = P → X.w = w → X.K = K → X.mg = mg → X.base = base → Room k X.A → CtxT X N sc → ∀ ds P, Sf ds P → ∀ B0 H0, EM X B0 H0 (ini N.length ds) [] e P) : FnM P w K mg base x (k + 1) Sf := by
  refine ⟨f, _, ps, hm, kp, hb, fn_of lk hcd Sc (fun vs H Q E ⟨B, ds, P, _, h1, h2, _⟩ => by rw [h1.len]; exact len _ _ h2) fun A outer s H vs Q E hr hsp => ?_⟩
  obtain ⟨B, ds, P', eb, h1, h2, h3⟩ := hsp
  have em := h (cxOf (L2.CX P w) P w K mg base N qual sc f cdv A outer s H E) rfl rfl rfl rfl rfl hr (ctxT_of Sc.nd) ds P' h2 B H
  rw [hbd]
  refine ⟨_, pss_cons (ps_ret pe_w) pss_nil, ?_⟩
  exact em B H _ ⟨Grow.refl eb, slots_ini h1, (fun _ h => (nomatch h)), (fun _ h => (nomatch h)), List.nodup_nil⟩ _ fun p rs B' H' M g fr nd hp hr pm => h3 p rs B' H' M g fr nd hp hr pm
end

/-! ### matrices of bits -/
def bit (b : Bool) : D := .int (if b then 1 else 0)
def rowOf (n : Nat) (f : Nat → Bool) : List D := (List.range n).map fun b => bit (f b)
def matOf (n : Nat) (f : Nat → Nat → Bool) : List (List D) := (List.range n).map fun a => rowOf n (f a)
def webD (n : Nat) (f : Nat → Nat → Bool) : D := .lst ((matOf n f).map .lst)
theorem matOf_len (n : Nat) (f : Nat → Nat → Bool) : (matOf n f).length = n := by simp [matOf]
theorem rowOf_len (n : Nat) (f : Nat → Bool) : (rowOf n f).length = n := by simp [rowOf]
theorem matOf_get {n u : Nat} {f : Nat → Nat → Bool} (h : u < n) : (matOf n f)[u]? = some (rowOf n (f u)) := by simp [matOf, h]
theorem rowOf_get {n v : Nat} {f : Nat → Bool} (h : v < n) : (rowOf n f)[v]? = some (bit (f v)) := by simp [rowOf, h]
def updM (f : Nat → Nat → Bool) (u v : Nat) (b : Bool) : Nat → Nat → Bool := fun x y => if x = u ∧ y = v then b else f x y
theorem matOf_congr {n : Nat} {f g : Nat → Nat → Bool} (h : ∀ a b, a < n → b < n → f a b = g a b) : matOf n f = matOf n g := by
  unfold matOf rowOf
  refine List.map_congr_left fun a ha => List.map_congr_left fun b hb => ?_
  rw [h a b (List.mem_range.mp ha) (List.mem_range.mp hb)]
theorem webD_congr {n : Nat} {f g : Nat → Nat → Bool} (h : ∀ a b, a < n → b < n → f a b = g a b) : webD n f = webD n g := by
  unfold webD
  rw [matOf_congr h]
theorem rowOf_set {n v : Nat} {f : Nat → Bool} {b : Bool} (hv : v < n) : (rowOf n f).set v (bit b) = rowOf n fun y => if y = v then b else f y := by
  refine List.ext_getElem? fun j => ?_
  by_cases hj : v = j
  · subst hj
    rw [List.getElem?_set_self (by rw [rowOf_len]; exact hv), rowOf_get hv, if_pos rfl]
  · rw [List.getElem?_set_ne hj]
    by_cases hl : j < n
    · rw [rowOf_get hl, rowOf_get hl, if_neg (Ne.symm hj)]
    · rw [List.getElem?_eq_none (by rw [rowOf_len]; omega), List.getElem?_eq_none (by rw [rowOf_len]; omega)]
theorem matOf_set {n u v : Nat} {f : Nat → Nat → Bool} {b : Bool} (hu : u < n) (hv : v < n) : (matOf n f).set u ((rowOf n (f u)).set v (bit b)) = matOf n (updM f u v b) := by
  rw [rowOf_set hv]
  refine List.ext_getElem? fun j => ?_
  by_cases hj : u = j
  · subst hj
    rw [List.getElem?_set_self (by rw [matOf_len]; exact hu), matOf_get hu]
    congr 2
    funext y
    simp [updM]
  · rw [List.getElem?_set_ne hj]
    by_cases hl : j < n
    · rw [matOf_get hl, matOf_get hl]
      congr 2
      funext y
      simp [updM, Ne.symm hj]
    · rw [List.getElem?_eq_none (by rw [matOf_len]; omega), List.getElem?_eq_none (by rw [matOf_len]; omega)]
theorem mat_blank (n : Nat) : List.replicate n (List.replicate n (bit false)) = matOf n fun _ _ => false := by
  have h1 : ∀ n : Nat, List.replicate n (bit false) = (List.range n).map fun _ => bit false := fun n => by rw [List.map_const', List.length_range]
  have h2 : ∀ (n : Nat) (x : List D), List.replicate n x = (List.range n).map fun _ => x := fun n x => by rw [List.map_const', List.length_range]
  rw [h2, h1] <;> rfl
def Sym (f : Nat → Nat → Bool) : Prop := (∀ a b, f a b = f b a) ∧ ∀ a, f a a = false
theorem webD_ix {n u : Nat} {f : Nat → Nat → Bool} (h : u < n) : ((matOf n f).map D.lst)[u]? = some (.lst (rowOf n (f u))) := by rw [List.getElem?_map, matOf_get h] <;> rfl
end OB
namespace OB
open PySem PySem.Spec PyProof.Rows L2
section
variable {X X' : Cx} {scope : Scope} {k : Nat}
theorem Blk.mg (b : Blk X scope X') : X'.mg = X.mg := by obtain ⟨_, _, _, _, _, rfl⟩ := b; rfl
theorem Blk.room (b : Blk X scope X') (h : Room k X.A) : Room k X'.A := by obtain ⟨_, _, _, _, _, rfl⟩ := b; exact h
theorem Blk.fnD (b : Blk X scope X') {x : PySem.Str} {S : SpD} (h : FnD X.prog X.w X.K X.mg X.base x k S) : FnD X'.prog X'.w X'.K X'.mg X'.base x k S := by obtain ⟨_, _, _, _, _, rfl⟩ := b; exact h
theorem Blk.bi (b : Blk X scope X') (h : Bi X.mg) : Bi X'.mg := by rw [b.mg]; exact h
theorem rng0 (n : Nat) : rngD 0 (n : Int).toNat = (List.range n).map fun (i : Nat) => D.int (i : Int) := by simp [rngD]
theorem rng1 (a n : Nat) : rngD (a : Int) ((n : Int) - (a : Int)).toNat = (List.range (n - a)).map fun (i : Nat) => D.int ((a + i : Nat) : Int) := by
  unfold rngD
  rw [show ((n : Int) - (a : Int)).toNat = n - a by omega]
  refine List.map_congr_left fun i _ => ?_
  congr 1
end
end OB
namespace OB
open PySem PySem.Spec PyProof.Rows L2
section
variable {X : Cx} {B0 H0 : Hp} {sds : List SD} {os : List (Addr × OV)} {E : DE} {body : List Stmt}
theorem forOk_rng {t : Tg} {m : Nat} {enc : Nat → D} (I : LoopI) (h0 : I 0 sds os) (hs : ∀ k sds' os', k < m → I k sds' os' → t.put (enc k) sds' fun sds'' => Go X B0 H0 sds'' os' { E with nx := I (k + 1), ct := I (k + 1), bk := E.nx } body) (he : ∀ sds' os', I m sds' os' → E.nx sds' os') : ForOk X B0 H0 sds os E t body ((List.range m).map enc) := by
  refine ⟨I, h0, fun k u sds' os' hu hI => ?_, by simpa using he⟩
  rw [List.getElem?_map] at hu
  by_cases hk : k < m
  · rw [List.getElem?_range hk] at hu
    cases hu
    exact hs k sds' os' hk hI
  · rw [List.getElem?_eq_none (by simp; omega)] at hu; cases hu
theorem forOk_map {α : Type} {t : Tg} {L : List α} {enc : α → D} (I : LoopI) (h0 : I 0 sds os) (hs : ∀ k x sds' os', L[k]? = some x → I k sds' os' → t.put (enc x) sds' fun sds'' => Go X B0 H0 sds'' os' { E with nx := I (k + 1), ct := I (k + 1), bk := E.nx } body) (he : ∀ sds' os', I L.length sds' os' → E.nx sds' os') : ForOk X B0 H0 sds os E t body (L.map enc) := by
  refine ⟨I, h0, fun k u sds' os' hu hI => ?_, by simpa using he⟩
  rw [List.getElem?_map] at hu
  cases h : L[k]? with
  | none => rw [h] at hu; cases hu
  | some x => rw [h] at hu; cases hu; exact hs k x sds' os' h hI
end
end OB
namespace OB
open PySem PySem.Spec PyProof.Rows L2
theorem ixL {l : List D} {x : D} {P : D → Prop} (j : Nat) (h : l[j]? = some x) (p : P x) : IxD (.lst l) (j : Int) P := ⟨j, x, rfl, h, p⟩
theorem ixT {l : List D} {x : D} {P : D → Prop} (j : Nat) (h : l[j]? = some x) (p : P x) : IxD (.tup l) (j : Int) P := ⟨j, x, rfl, h, p⟩
theorem ixW {n u : Nat} {f : Nat → Nat → Bool} {P : D → Prop} (h : u < n) (p : P (.lst (rowOf n (f u)))) : IxD (webD n f) (u : Int) P := ixL u (webD_ix h) p
theorem ixR {n v : Nat} {f : Nat → Bool} {P : D → Prop} (h : v < n) (p : P (bit (f v))) : IxD (.lst (rowOf n f)) (v : Int) P := ixL v (rowOf_get h) p
end OB
namespace OB
theorem le0 : 0 ≤ 100000 := by decide
theorem le1 : 1 ≤ 100000 := by decide
theorem le2 : 2 ≤ 100000 := by decide
theorem le3 : 3 ≤ 100000 := by decide
theorem le4 : 4 ≤ 100000 := by decide
theorem le8 : 8 ≤ 100000 := by decide
end OB
set_option Elab.async false
set_option linter.all false
set_option maxRecDepth 100000
set_option maxHeartbeats 4000000
namespace OB
open PySem PySem.Spec PyProof.Rows L2
/-! ### a matrix filled entry by entry -/
structure Fil (n : Nat) (v : Nat → Nat → Bool) (k j : Nat) (h : Nat → Nat → Bool) : Prop where
  did : ∀ x y, y < n → (x < k ∨ (x = k ∧ y < j)) → h x y = v x y
  not : ∀ x y, (k < x ∨ (x = k ∧ j ≤ y)) → h x y = false
theorem Fil.zero {n : Nat} {v : Nat → Nat → Bool} : Fil n v 0 0 fun _ _ => false := ⟨fun x y _ h => by omega, fun _ _ _ => rfl⟩
theorem Fil.row {n k : Nat} {v h : Nat → Nat → Bool} (f : Fil n v k n h) : Fil n v (k + 1) 0 h := ⟨fun x y hy hx => f.did x y hy (by omega), fun x y hx => f.not x y (by omega)⟩
theorem Fil.set {n k j : Nat} {v h : Nat → Nat → Bool} (f : Fil n v k j h) {b : Bool} (hb : b = v k j) : Fil n v k (j + 1) (updM h k j b) := by
  refine ⟨fun x y hy hx => ?_, fun x y hx => ?_⟩
  · unfold updM
    by_cases e : x = k ∧ y = j
    · rw [if_pos e, e.1, e.2]; exact hb
    · rw [if_neg e]; exact f.did x y hy (by omega)
  · unfold updM
    rw [if_neg (by omega)]
    exact f.not x y (by omega)
theorem Fil.keep {n k j : Nat} {v h : Nat → Nat → Bool} (f : Fil n v k j h) (hb : v k j = false) : Fil n v k (j + 1) h := by
  refine ⟨fun x y hy hx => ?_, fun x y hx => f.not x y (by omega)⟩
  by_cases e : x = k ∧ y = j
  · rw [e.1, e.2, hb]; exact f.not k j (by omega)
  · exact f.did x y hy (by omega)
theorem Fil.done {n : Nat} {v h : Nat → Nat → Bool} (f : Fil n v n 0 h) : webD n h = webD n v := webD_congr fun a b ha hb => f.did a b hb (.inl ha)
section
variable {X : Cx} {N : List PySem.Str} {S scope : Scope} {B0 H0 : Hp} {E : DE} {pos1 pos2 : Pos} {tg1 tg2 it1 it2 : Expr} {body : List Stmt}
def intsTo (n : Nat) : List D := (List.range n).map fun (i : Nat) => .int (i : Int)
/-- two loops over all places, one invariant -/
theorem g1_two (c : CtxT X N S) (n m : Nat) (mk : SD → SD → List SD) (I : Nat → Nat → List (Addr × OV) → Prop) {ia ib : Nat} {os0 : List (Addr × OV)} {x y : SD} (h0 : I 0 0 os0)
    (hg1 : PG X tg1 ((Tg.nm ia).r X.K)) (hg2 : PG X tg2 ((Tg.nm ib).r X.K))
    (h1 : ∀ Q : List D → Prop, Q (intsTo n) → IX X B0 H0 (mk x y) os0 tg1 it1 Q)
    (h2 : ∀ k os y, k < n → I k 0 os → ∀ Q : List D → Prop, Q (intsTo m) → IX X B0 H0 (mk (.d (.int (k : Nat))) y) os tg2 it2 Q)
    (hb : ∀ k j os, k < n → j < m → I k j os → ∀ E' : DE, (∀ os', I k (j + 1) os' → E'.nx (mk (.d (.int (k : Nat))) (.d (.int (j : Nat)))) os') → Go X B0 H0 (mk (.d (.int (k : Nat))) (.d (.int (j : Nat)))) os E' body)
    (hr : ∀ k os, k < n → I k m os → I (k + 1) 0 os) (he : ∀ x y os, I n 0 os → E.nx (mk x y) os)
    (hm1 : ∀ x y d, (mk x y).set ia (.d d) = mk (.d d) y := by intros; rfl) (hm2 : ∀ x y d, (mk x y).set ib (.d d) = mk x (.d d) := by intros; rfl)
    (hs1 : ∀ x, foldedSetIterable it1 X.env x = pure x := by intro _; rfl) (hs2 : ∀ x, foldedSetIterable it2 X.env x = pure x := by intro _; rfl) :
    Go1 X B0 H0 (mk x y) os0 E (.For tg1 it1 [.For tg2 it2 body [] pos2] [] pos1) := by
  refine g1_for (t := .nm ia) c.own c.calm hg1 (h1 _ ?_) hs1
  refine forOk_rng (fun k sds os => ∃ x y, sds = mk x y ∧ I k 0 os) ⟨_, _, rfl, h0⟩ ?_ (by rintro sds os ⟨x, y, rfl, h⟩; exact he x y os h)
  rintro k sds os hk ⟨x, y, rfl, hI⟩
  show Go X B0 H0 ((mk x y).set ia _) _ _ _
  rw [hm1]
  refine go_cons (g1_for (t := .nm ib) c.own c.calm hg2 (h2 k os y hk hI _ ?_) hs2)
  refine forOk_rng (fun j sds os => ∃ y, sds = mk (.d (.int (k : Nat))) y ∧ I k j os) ⟨_, rfl, hI⟩ ?_ (by rintro sds os ⟨y, rfl, h⟩; exact go_nil ⟨_, _, rfl, hr k os hk h⟩)
  rintro j sds os hj ⟨y, rfl, hI⟩
  show Go X B0 H0 ((mk _ y).set ib _) _ _ _
  rw [hm2]
  exact hb k j os hk hj hI _ fun os' h => ⟨_, rfl, h⟩
end
theorem rngI (n : Nat) : rngD 0 (n : Int).toNat = intsTo n := rng0 n
end OB
set_option Elab.async false
set_option linter.all false
set_option maxRecDepth 100000
set_option maxHeartbeats 4000000
namespace OB
theorem xor_and_self (m k : Nat) : (m ^^^ (m &&& k)) + (m &&& k) = m := by
  have h : ∀ m n : Nat, (m ^^^ n) + 2 * (m &&& n) = m + n := by
    intro m
    induction m using Nat.strongRecOn with
    | _ m ih =>
      intro n
      by_cases h0 : m = 0
      · subst h0; simp
      · have ih' := ih (m / 2) (by omega) (n / 2)
        rw [← Nat.xor_div_two, ← Nat.and_div_two] at ih'
        have o1 := @Nat.xor_mod_two_eq_one m n
        have a1 := @Nat.and_mod_two_eq_one m n
        omega
  have h1 := h m (m &&& k)
  have h2 : m &&& (m &&& k) = m &&& k := by rw [← Nat.and_assoc, Nat.and_self]
  rw [h2] at h1
  omega
/-- m and not k -/
def andNot (m k : Nat) : Nat := m ^^^ (m &&& k)
theorem andNot_sub (m k : Nat) : andNot m k = m - (m &&& k) := by
  have := xor_and_self m k
  unfold andNot; omega
theorem andNot_bit (m k i : Nat) : (andNot m k).testBit i = (m.testBit i && !k.testBit i) := by
  unfold andNot
  rw [Nat.testBit_xor, Nat.testBit_and]
  cases m.testBit i <;> cases k.testBit i <;> rfl
/-- a mask -/
def mskN (n : Nat) (f : Nat → Bool) : Nat := match n with
  | 0 => 0
  | n + 1 => mskN n f ||| (if f n then 2 ^ n else 0)
theorem mskN_bit (f : Nat → Bool) : ∀ n i, (mskN n f).testBit i = (decide (i < n) && f i)
  | 0, i => by simp [mskN]
  | n + 1, i => by
    unfold mskN
    rw [Nat.testBit_or, mskN_bit f n i]
    by_cases e : i = n
    · subst e
      cases h : f i <;> simp
    · have e1 : decide (i < n + 1) = decide (i < n) := decide_eq_decide.mpr (by omega)
      rw [e1]
      cases h : f n
      · simp
      · simp [Ne.symm e]
theorem mskN_eq {n m : Nat} {f : Nat → Bool} (h : ∀ i, m.testBit i = (decide (i < n) && f i)) : m = mskN n f := Nat.eq_of_testBit_eq fun i => by rw [h, mskN_bit]
theorem mskN_congr {n : Nat} {f g : Nat → Bool} (h : ∀ i, i < n → f i = g i) : mskN n f = mskN n g := mskN_eq fun i => by
  rw [mskN_bit]
  by_cases e : i < n
  · rw [h i e]
  · simp [e]
theorem mskN_lt (n : Nat) (f : Nat → Bool) : mskN n f < 2 ^ n := Nat.lt_pow_two_of_testBit _ fun i hi => by rw [mskN_bit]; simp; omega
theorem mskN_or1 {n j : Nat} {f : Nat → Bool} (hj : j < n) : mskN n f ||| 2 ^ j = mskN n fun i => if i = j then true else f i := mskN_eq fun i => by
  rw [Nat.testBit_or, mskN_bit, Nat.testBit_two_pow]
  by_cases e : i = j
  · subst e; simp [hj]
  · simp [e, Ne.symm e]
theorem mskN_zero {n : Nat} : mskN n (fun _ => false) = 0 := (mskN_eq fun i => by simp).symm
/-- the lowest bit -/
theorem low_bit : ∀ m : Nat, 0 < m → ∃ l, m.testBit l = true ∧ (∀ i, i < l → m.testBit i = false) ∧ m &&& (m - 1) = andNot m (2 ^ l) ∧ m - (m &&& (m - 1)) = 2 ^ l := by
  intro m
  induction m using Nat.strongRecOn with
  | _ m ih =>
    intro h0
    by_cases h1 : m % 2 = 1
    · refine ⟨0, by simp [h1], fun i hi => by omega, ?_, ?_⟩
      · apply Nat.eq_of_testBit_eq
        intro i
        rw [andNot_bit, Nat.testBit_and, Nat.testBit_two_pow]
        cases i with
        | zero => simp; omega
        | succ i =>
          rw [Nat.testBit_succ, Nat.testBit_succ]
          have e : (m - 1) / 2 = m / 2 := by omega
          rw [e]; simp
      · have e : m &&& (m - 1) = m - 1 := by
          apply Nat.eq_of_testBit_eq
          intro i
          rw [Nat.testBit_and]
          cases i with
          | zero => simp; omega
          | succ i =>
            rw [Nat.testBit_succ, Nat.testBit_succ]
            have e : (m - 1) / 2 = m / 2 := by omega
            rw [e]; simp
        rw [e]; simp; omega
    · obtain ⟨l, a, b, c, d⟩ := ih (m / 2) (by omega) (by omega)
      have e1 : (m - 1) / 2 = m / 2 - 1 := by omega
      have e2 : m &&& (m - 1) = 2 * ((m / 2) &&& (m / 2 - 1)) := by
        have o := @Nat.and_div_two m (m - 1)
        rw [e1] at o
        have a1 := @Nat.and_mod_two_eq_one m (m - 1)
        omega
      refine ⟨l + 1, by rw [Nat.testBit_succ]; exact a, fun i hi => ?_, ?_, ?_⟩
      · cases i with
        | zero => simp; omega
        | succ i => rw [Nat.testBit_succ]; exact b i (by omega)
      · rw [e2, c]
        apply Nat.eq_of_testBit_eq
        intro i
        cases i with
        | zero => rw [andNot_bit]; simp; omega
        | succ i =>
          rw [Nat.testBit_succ, Nat.mul_div_cancel_left _ (by decide : 0 < 2), andNot_bit, andNot_bit, Nat.testBit_succ, Nat.testBit_two_pow, Nat.testBit_two_pow]
          congr 2
          exact decide_eq_decide.mpr (by omega)
      · rw [e2, Nat.pow_succ]; omega
/-- the bits that are set, ascending -/
def bitsOf (n m : Nat) : List Nat := (List.range n).filter fun i => m.testBit i
theorem range_split {n l : Nat} (h : l < n) : List.range n = List.range l ++ l :: (List.range (n - l - 1)).map fun i => l + 1 + i := by
  have e : n = l + (1 + (n - l - 1)) := by omega
  conv => lhs; rw [e, List.range_add, List.range_add]
  simp [List.map_map, Function.comp_def, Nat.add_assoc]
theorem bitsOf_low {n m l : Nat} (hm : m < 2 ^ n) (h1 : m.testBit l = true) (h2 : ∀ i, i < l → m.testBit i = false) : bitsOf n m = l :: bitsOf n (andNot m (2 ^ l)) ∧ l < n := by
  have hl : l < n := by
    apply Classical.byContradiction
    intro h
    have := Nat.testBit_lt_two_pow (x := m) (i := l) (Nat.lt_of_lt_of_le hm (Nat.pow_le_pow_right (by decide) (by omega)))
    rw [h1] at this; cases this
  refine ⟨?_, hl⟩
  unfold bitsOf
  rw [range_split hl]
  have e1 : (List.range l).filter (fun i => m.testBit i) = [] := List.filter_eq_nil_iff.mpr fun i hi => by simp [h2 i (List.mem_range.mp hi)]
  have e2 : (List.range l).filter (fun i => (andNot m (2 ^ l)).testBit i) = [] := List.filter_eq_nil_iff.mpr fun i hi => by rw [andNot_bit, h2 i (List.mem_range.mp hi)]; simp
  rw [List.filter_append, List.filter_append, e1, e2, List.nil_append, List.nil_append, List.filter_cons, List.filter_cons, if_pos h1, if_neg (by rw [andNot_bit, Nat.testBit_two_pow]; simp)]
  congr 1
  refine List.filter_congr fun i hi => ?_
  obtain ⟨k, _, rfl⟩ := List.mem_map.mp hi
  rw [andNot_bit, Nat.testBit_two_pow]
  have e : decide (l = l + 1 + k) = false := decide_eq_false (by omega)
  rw [e]; simp
theorem bitsOf_zero (n : Nat) : bitsOf n 0 = [] := List.filter_eq_nil_iff.mpr fun i _ => by simp
theorem bitsOf_msk (n : Nat) (f : Nat → Bool) : bitsOf n (mskN n f) = (List.range n).filter f := List.filter_congr fun i hi => by
  rw [mskN_bit]; simp [List.mem_range.mp hi]
theorem andNot_lt {m k : Nat} (h : m.testBit k = true) : andNot m (2 ^ k) < m := by
  have h1 := xor_and_self m (2 ^ k)
  have h2 : 0 < m &&& 2 ^ k := by
    refine Nat.pos_of_ne_zero fun e => ?_
    have := Nat.testBit_and m (2 ^ k) k
    rw [e, h, Nat.testBit_two_pow] at this
    simp at this
  unfold andNot; omega
end OB

namespace OB
open PySem PySem.Spec PyProof.Rows L2
/-! ### Python's ints as masks -/
theorem bor_nat (m k : Nat) : Builtin.bitOr (m : Int) (k : Int) = ((m ||| k : Nat) : Int) := by
  rw [Bits.bitOr_pp (by omega) (by omega)]; rfl
theorem bnot_nat (k : Nat) : Builtin.bitNot (k : Int) = -((k + 1 : Nat) : Int) := by
  show -(k : Int) - 1 = _
  omega
theorem band_nat (m k : Nat) : Builtin.bitAnd (m : Int) (k : Int) = ((m &&& k : Nat) : Int) := by
  rw [bitAnd_pp (by omega) (by omega)]; rfl
theorem band_neg (m k : Nat) : Builtin.bitAnd (m : Int) (-((k + 1 : Nat) : Int)) = ((andNot m k : Nat) : Int) := by
  have e : Builtin.bitNot (-((k + 1 : Nat) : Int)) = (k : Int) := by
    show -(-((k + 1 : Nat) : Int)) - 1 = _
    omega
  rw [bitAnd_pn (by omega) (by omega), e, Int.toNat_natCast, Int.toNat_natCast, andNot_sub]
  have := Nat.and_le_left (n := m) (m := k)
  omega
theorem shl_nat (j : Nat) : (1 : Int) * 2 ^ (j : Int).toNat = ((2 ^ j : Nat) : Int) := by
  rw [Int.one_mul, Int.toNat_natCast]; exact (Int.natCast_pow 2 j).symm
theorem shr_nat (m j : Nat) : (m : Int) / 2 ^ (j : Int).toNat = ((m / 2 ^ j : Nat) : Int) := by
  rw [Int.toNat_natCast, show ((2 : Int) ^ j) = ((2 ^ j : Nat) : Int) from (Int.natCast_pow 2 j).symm]
  exact (Int.natCast_ediv m (2 ^ j)).symm
theorem bit_nat (m j : Nat) : decide (Builtin.bitAnd ((m / 2 ^ j : Nat) : Int) 1 = 1) = m.testBit j := by
  rw [show (1 : Int) = ((1 : Nat) : Int) from rfl, band_nat, Nat.and_one_is_mod, Nat.testBit_eq_decide_div_mod_eq]
  exact decide_eq_decide.mpr (by omega)
theorem cshl (j : Nat) (h : j ≤ 1000000) : CPow 1 (j : Int) := ⟨by omega, by omega, by decide⟩
theorem bits_two (l : Nat) : Builtin.Int.intBits ((2 ^ l : Nat) : Int) = l + 1 := by
  unfold Builtin.Int.intBits
  have h : ((2 ^ l : Nat) : Int) ≠ 0 := by have := Nat.two_pow_pos l; omega
  rw [if_neg (by simpa using h), Int.natAbs_natCast, Nat.log2_two_pow]
/-! ### min, max of a pair -/
def rMinT (K : PySem.W.Frag) : List V → Hp → VK → Prop := fun vs H Q => ∃ (a : Addr) (i j : Int), vs = [V.ref a] ∧ SqT K H a [.int i, .int j] ∧ Q (.int (if j < i then j else i)) H
def rMaxT (K : PySem.W.Frag) : List V → Hp → VK → Prop := fun vs H Q => ∃ (a : Addr) (i j : Int), vs = [V.ref a] ∧ SqT K H a [.int i, .int j] ∧ Q (.int (if i < j then j else i)) H
theorem cr_minT {X : Cx} {k : Nat} (hc : X.calm = true) (hr : Room k X.A) : CallR X (.builtin "min") (rMinT X.K) := by
  intro pins s σ H vs us Q I r h
  obtain ⟨a, i, j, rfl, hs, q⟩ := h
  obtain ⟨its, rv, hl, _⟩ := I.tuple hs
  rw [Vals.ref1 r]
  obtain ⟨u, w, rfl, ⟨t, rfl⟩, ⟨t', rfl⟩⟩ := vals2 rv
  have hu := hr.units
  refine PySem.W.min_tuple_datum (α := Int) (x := i) (xs := [j]) (I.ok.hd hc) hl (PySem.W.HoldAll.of_ints (IntsAre.cons _ _ (IntsAre.cons _ _ IntsAre.nil))) (by show X.A.units + 1 + 0 < cLine; omega) fun n v h' tk hv hh hk => ?_
  have e : PySem.W.minOf i [j] = if j < i then j else i := by
    show (if decide (j < i) = true then j else i) = _
    by_cases hji : j < i <;> simp [hji]
  rw [e] at hh
  obtain ⟨t2, rfl⟩ : ∃ t, v = .int (if j < i then j else i) t := by
    obtain ⟨as, ra⟩ := hh
    cases ra
    exact ⟨_, rfl⟩
  exact ⟨.int _, H, I.kept hk, ⟨_, rfl⟩, q⟩
theorem cr_maxT {X : Cx} {k : Nat} (hc : X.calm = true) (hr : Room k X.A) : CallR X (.builtin "max") (rMaxT X.K) := by
  intro pins s σ H vs us Q I r h
  obtain ⟨a, i, j, rfl, hs, q⟩ := h
  obtain ⟨its, rv, hl, _⟩ := I.tuple hs
  rw [Vals.ref1 r]
  obtain ⟨u, w, rfl, ⟨t, rfl⟩, ⟨t', rfl⟩⟩ := vals2 rv
  have hu := hr.units
  refine PySem.W.max_tuple_datum (α := Int) (x := i) (xs := [j]) (I.ok.hd hc) hl (PySem.W.HoldAll.of_ints (IntsAre.cons _ _ (IntsAre.cons _ _ IntsAre.nil))) (by show X.A.units + 1 + 0 < cLine; omega) fun n v h' tk hv hh hk => ?_
  have e : PySem.W.maxOf i [j] = if i < j then j else i := by
    show (if decide (i < j) = true then j else i) = _
    by_cases hij : i < j <;> simp [hij]
  rw [e] at hh
  obtain ⟨t2, rfl⟩ : ∃ t, v = .int (if i < j then j else i) t := by
    obtain ⟨as, ra⟩ := hh
    cases ra
    exact ⟨_, rfl⟩
  exact ⟨.int _, H, I.kept hk, ⟨_, rfl⟩, q⟩
end OB
set_option Elab.async false
set_option linter.all false
set_option maxRecDepth 100000
set_option maxHeartbeats 4000000
namespace OB
open PySem PySem.Spec PyProof.Rows L2
/-! ### the head: what the top has written, by names -/
section
variable {P : Program} {w : World} {K : PySem.W.Frag} {mg : PySem.Str → Option Value} {base : Heap}
theorem FnM.mono {x : PySem.Str} {k k' : Nat} {S : SpM} (h : FnM P w K mg base x k S) (l : k ≤ k') : FnM P w K mg base x k' S := by
  obtain ⟨f, fd, ps, h1, h2, h3, h4⟩ := h.ex
  exact ⟨f, fd, ps, h1, h2, h3, h4.mono l⟩
theorem ExcD.mono {x : PySem.Str} {C : Addr} {k k' : Nat} {fl : List PySem.Str} (h : ExcD P w K mg base x C k fl) (l : k ≤ k') : ExcD P w K mg base x C k' fl := by
  obtain ⟨f, fd, ps, h1, h2, h3, h4⟩ := h.init
  exact ⟨h.at', h.cls, f, fd, ps, h1, h2, h3.mono l, h4⟩
theorem MkD.mono {x : PySem.Str} {C : Addr} {k k' : Nat} {S : SpI} (h : MkD P w K mg base x C k S) (l : k ≤ k') : MkD P w K mg base x C k' S := by
  obtain ⟨f, fd, ps, h1, h2, h3⟩ := h.init
  exact ⟨h.at', f, fd, ps, h1, h2.mono l, h3⟩
variable {x name qual : PySem.Str} {params : Arguments} {body : List Stmt} {sc : Scope} {dvs : List V} {kws : List (PySem.Str × V)} {f : Addr} {fd : FuncData} {N ps : List PySem.Str} {k : Nat}
theorem fn3 {Sf : SpD} (F : FunD K name qual params body sc dvs kws f fd) (hm : mg x = some (.ref f)) (hb : Binds K fd ps []) (Sc : FnScope N ps sc) (len : ∀ ds P R, Sf ds P R → ds.length = ps.length) (h : Bod P w K mg base k N sc body Sf) : FnD P w K mg base x (k + 1) Sf := by
  obtain ⟨oc, od, dV, kV, doc, pm, an, cdv, ct, osl, rfl, lk, hcd, _, _⟩ := F.ex
  exact fn_mk2 lk hcd F.kp Sc hm hb len h
theorem fnm3 {Sf : SpM} {e : Expr} {rp : Pos} (F : FunD K name qual params body sc dvs kws f fd) (hm : mg x = some (.ref f)) (hb : Binds K fd ps []) (Sc : FnScope N ps sc) (len : ∀ ds P, Sf ds P → ds.length = ps.length) (hbd : body = [.Return (some e) rp])
    (h : ∀ X : Cx, X.prog = P → X.w = w → X.K = K → X.mg = mg → X.base = base → Room k X.A → CtxT X N sc → ∀ ds P, Sf ds P → ∀ B0 H0, EM X B0 H0 (ini N.length ds) [] e P) : FnM P w K mg base x (k + 1) Sf := by
  obtain ⟨oc, od, dV, kV, doc, pm, an, cdv, ct, osl, rfl, lk, hcd, _, _⟩ := F.ex
  exact fnm_mk lk hcd F.kp Sc hm hb len hbd h
theorem init3 {C : Addr} {S : SpI} (F : FunD K name qual params body sc dvs kws f fd) (Sc : FnScope N ps sc) (hN : 0 < N.length) (len : ∀ ds P R, S ds P R → ds.length + 1 = ps.length) (h : BodI P w K mg base k N sc body C S) :
    FnOk P w K mg base (L2.CX P w) (k + 1) f fd ps (toSpI K C S) := by
  obtain ⟨oc, od, dV, kV, doc, pm, an, cdv, ct, osl, rfl, lk, hcd, _, _⟩ := F.ex
  exact init_mk lk hcd Sc hN len h
/-- a def of one parameter that stands for an object as it lies -/
theorem fnr3 {p : PySem.Str} {sp : Sp} (F : FunD K name qual params body sc dvs kws f fd) (Sc : FnScope N [p] sc) (hN : 0 < N.length) (len : ∀ vs H Q E, sp vs H Q E → ∃ a, vs = [.ref a])
    (h : ∀ X : Cx, X.prog = P → X.w = w → X.K = K → X.mg = mg → X.base = base → Room k X.A → CtxT X N sc → ∀ a H Q E, sp [.ref a] H Q E → ∃ (B : Hp) (Pd : D → Prop), Ex B H ∧ Go X B H (.v (.ref a) :: List.replicate (N.length - 1) .un) [] { rt := Pd } body ∧ ∀ v B' H' d, Grow B H B' H' → Is K B' v d → Pd d → Q v H') :
    FnOk P w K mg base (L2.CX P w) (k + 1) f fd [p] sp := by
  obtain ⟨oc, od, dV, kV, doc, pm, an, cdv, ct, osl, rfl, lk, hcd, _, _⟩ := F.ex
  refine fn_of lk hcd Sc (fun vs H Q E hs => by obtain ⟨a, rfl⟩ := len _ _ _ _ hs; rfl) fun A outer s H vs Q E hr hsp => ⟨_, pss_w, ?_⟩
  obtain ⟨a, rfl⟩ := len _ _ _ _ hsp
  obtain ⟨B, Pd, eb, go, q⟩ := h (cxOf (L2.CX P w) P w K mg base N qual sc f cdv A outer s H E) rfl rfl rfl rfl rfl hr (ctxT_of Sc.nd) a H Q E hsp
  refine wSs.imp (go B B H (L2.start N [.ref a]) (Evl.Ex.refl _) ⟨Grow.refl eb, ⟨?_, fun i sd q => ?_⟩, (fun _ h => (nomatch h)), (fun _ h => (nomatch h)), List.nodup_nil⟩) (fun σ' H' ⟨B', sds', os', _, s', p⟩ => p.elim) (fun v H' ⟨B', d, _, g, i, p⟩ => q v B' H' d g i p) (fun σ' H' ⟨B', sds', os', _, s', p⟩ => p.elim) (fun σ' H' ⟨B', sds', os', _, s', p⟩ => p.elim)
  · simp [L2.start]
  · match i, q with
    | 0, q => cases q; rfl
    | i + 1, q =>
      rw [List.getElem?_cons_succ, List.getElem?_replicate] at q
      split at q
      · cases q; trivial
      · cases q
end
/-! ### classes of errors -/
def oexB (K : PySem.W.Frag) (C : Addr) : Bool := match K.lookup C with
  | some ⟨.type t, _, .cls cd, sl⟩ => (match cd.mro, sl.toList with
    | .ref C' :: bm, [_, _, _, _, some (.builtin n), _] => decide (t = "type") && (decide (C' = C) && (decide (n = "ValueError.__new__") && (!cd.hasDel && (cd.hasDict && PySem.HandSPX.refsVE bm))))
    | _, _ => false)
  | _ => false
theorem oexB_ok {K : PySem.W.Frag} {C : Addr} (h : oexB K C = true) : ∃ nm q N bs bm sn sub ab col dd k0 k1 k2 k3 k5, K.lookup C = some (excClassObj nm q C N bs bm true sn sub ab col dd k0 k1 k2 k3 k5 "ValueError.__new__") ∧ PySem.HandSPX.refsVE bm = true := by
  unfold oexB at h
  split at h
  · rename_i t dd cd sl ho
    split at h
    · rename_i C' bm k0 k1 k2 k3 n k5 hm hs
      simp only [Bool.and_eq_true, decide_eq_true_eq, Bool.not_eq_true'] at h
      obtain ⟨rfl, rfl, rfl, hdel, hd, hr⟩ := h
      obtain ⟨nm, bs, mro, ns, qn, hdct, sn, sub, ab, col, del⟩ := cd
      dsimp only at hm hdel hd
      subst hm hdel hd
      have hsl : sl = #[k0, k1, k2, k3, some (.builtin "ValueError.__new__"), k5] := by
        obtain ⟨l⟩ := sl
        simp only at hs
        rw [hs]
      subst hsl
      exact ⟨nm, qn, ns, bs, bm, sn, sub, ab, col, dd, k0, k1, k2, k3, k5, ho, hr⟩
    · cases h
  · cases h
def excB (K : PySem.W.Frag) (C : Addr) : Bool := oexB K C && (decide (PySem.W.findIn K (.ref C) "__setattr__" = some (some (.builtin "object.__setattr__"))) && (decide (PySem.W.subIn K (.ref C) (.type "BaseException") = some true) && (decide (PySem.W.typeIn K (.ref C) = some (.type "type")) && (PySem.W.keepIn K (.ref C) && xfB K C))))
theorem excB_ok {K : PySem.W.Frag} {C : Addr} (h : excB K C = true) : OexC K C ∧ XfC K C := by
  unfold excB at h
  simp only [Bool.and_eq_true, decide_eq_true_eq] at h
  obtain ⟨h1, h2, h3, h4, h5, h6⟩ := h
  exact ⟨⟨oexB_ok h1, h2, h3, h4, h5⟩, xfB_ok h6⟩
section
variable {P : Program} {w : World} {K : PySem.W.Frag} {mg : PySem.Str → Option Value} {base : Heap} {h : Heap}
theorem FunD.fun {x qual : PySem.Str} {st : Stmt} {f : Addr} {fd : FuncData} (F : FunD K x qual (defArgs st) (defBody st) (defScope st) [] [] f fd) : Fun K x qual st f fd := by
  obtain ⟨oc, od, dV, kV, doc, pm, an, cdv, ct, osl, rfl, lk, hcd, hD, _⟩ := F.ex
  rcases hD with ⟨_, rfl⟩ | ⟨e, _⟩
  · exact ⟨⟨oc, od, kV, doc, pm, an, cdv, ct, osl, rfl, lk, hcd⟩, F.kp⟩
  · exact absurd rfl e
end
/-! ### facts -/
def freeL : List He.Fa := [.free "len", .free "range", .free "enumerate", .free "sorted", .free "tuple", .free "list", .free "min", .free "max", .free "all", .free "any", .free "int", .free "isinstance", .free "bool"]
theorem bi_of {K : PySem.W.Frag} {h : Heap} {mg : PySem.Str → Option Value} {fa : List He.Fa} (X : K.In h) (G : h.Ns mainGlobals mg) (c : ∀ f ∈ fa, f.ok K = true) (s : ∀ f ∈ freeL, f ∈ fa) : Bi mg := by
  have k : ∀ f ∈ freeL, f.ok K = true := fun f hf => c f (s f hf)
  have z : ∀ x : PySem.Str, He.Fa.free x ∈ freeL → mg x = none := fun x hx => He.free_ok X G (k _ hx)
  exact ⟨z _ (by simp [freeL]), z _ (by simp [freeL]), z _ (by simp [freeL]), z _ (by simp [freeL]), z _ (by simp [freeL]), z _ (by simp [freeL]), z _ (by simp [freeL]), z _ (by simp [freeL]), z _ (by simp [freeL]), z _ (by simp [freeL]), z _ (by simp [freeL]), z _ (by simp [freeL]), z _ (by simp [freeL])⟩
end OB
set_option Elab.async false
set_option linter.all false
set_option maxRecDepth 100000
set_option maxHeartbeats 4000000
namespace OB
open PySem PySem.Spec PyProof.Rows L2
/-! ### sorted(xs) of any alike data -/
theorem each_vals {xs : List V} {us : List Value} (r : Vals xs us) : ∀ {ds : List D}, xs.length = ds.length → PySem.W.EachIs (fun u (z : V × D) => RelV z.1 u) us (xs.zip ds) := by
  induction r with
  | nil => intro ds _; exact .nil
  | cons h _ ih =>
    intro ds hl
    cases ds with
    | nil => cases hl
    | cons d ds => exact .cons h (ih (by simpa using hl))
theorem vals_each {us : List Value} {zs : List (V × D)} (h : PySem.W.EachIs (fun u (z : V × D) => RelV z.1 u) us zs) : Vals (zs.map (·.1)) us := by
  induction h with
  | nil => exact .nil
  | cons h _ ih => exact .cons h ih
theorem each_reads {hp : Heap} {xs : List V} : ∀ {us : List Value} {ds : List D} {as : List Addr}, xs.length = ds.length → PySem.ReadsAll hp us (ds.map py) as → PySem.W.EachIs (fun u (z : V × D) => ∃ as, PySem.Reads hp u (py z.2) as) us (xs.zip ds) := by
  induction xs with
  | nil =>
    intro us ds as hl r
    cases ds with
    | nil => cases r; exact .nil
    | cons d ds => cases hl
  | cons x xs ih =>
    intro us ds as hl r
    cases ds with
    | nil => cases hl
    | cons d ds =>
      cases r with
      | cons h1 h2 => exact .cons ⟨_, h1⟩ (ih (by simpa using hl) h2)
def rSortD (K : PySem.W.Frag) : List V → Hp → VK → Prop := fun vs H Q => ∃ (a : Addr) (xs : List V) (ds : List D), vs = [V.ref a] ∧ SqL K H a xs ∧ xs.length = ds.length ∧ DpAll K H xs (ds.map py) ∧ PySem.W.AllAlike (ds.map py) ∧ PySem.W.Sortable (ds.map py) ∧ (∀ d ∈ ds, (py d).depth ≤ 40) ∧
  ∀ p, H p = none → Q (.ref p) (upd H p (.lst (((xs.zip ds).mergeSort (PySem.W.dataLe false fun z => py z.2)).map (·.1))))
theorem map_py_snd {xs : List V} {ds : List D} (hl : xs.length = ds.length) : (xs.zip ds).map (fun z => py z.2) = ds.map py := by
  have e : (xs.zip ds).map (fun z => py z.2) = ((xs.zip ds).map Prod.snd).map py := by rw [List.map_map]; rfl
  rw [e, List.map_snd_zip (by omega)]
theorem cr_sortD {X : Cx} {k : Nat} (hr : Room k X.A) : CallR X (.builtin "sorted") (rSortD X.K) := by
  intro pins s σ H vs us Q I r h
  obtain ⟨a, xs, ds, rfl, hs, hl0, hd, hal, hso, hdp, q⟩ := h
  obtain ⟨its, rv, pl, hz⟩ := I.list hs
  rw [Vals.ref1 r]
  obtain ⟨as, hra⟩ := Dp.readsAll I _ _ _ hd rv
  have hu := hr.units
  have e1 := map_py_snd hl0
  refine PySem.W.sorted_data (β := V × D) (R := fun u z => RelV z.1 u) (enc := fun z => py z.2) (bs := xs.zip ds) pl.isList (each_vals rv hl0) (each_reads hl0 hra) (by rw [e1]; exact hal) (by rw [e1]; exact hso) (by rw [List.length_zip, ← hl0, Nat.min_self]; exact hz) (fun z hz => ?_) fun out hlen he => ?_
  · have := hdp z.2 (List.of_mem_zip hz).2
    show X.A.units + 2 + (py z.2).depth < cLine
    omega
  obtain ⟨ep, he'⟩ := PyProof.Rows.sortedAll_at s.heap its (List.toArray out)
  have hv := vals_each he
  refine ⟨.ref _, upd H (s.heap.objs.size + 1) (.lst (((xs.zip ds).mergeSort (PySem.W.dataLe false fun z => py z.2)).map (·.1))), I.laid (t' := s.toks) (fun _ _ => PyProof.Rows.sortedAll_old) (Nat.le_succ _) ⟨?_, out, ep, hv, he'⟩, rfl, q _ (I.hok.fresh (Nat.le_succ _))⟩
  rw [List.length_map, List.length_mergeSort, List.length_zip, ← hl0, Nat.min_self]; exact hz
theorem pyAll_map : ∀ l : List D, pyAll l = l.map py
  | [] => rfl
  | d :: l => by rw [pyAll, pyAll_map l, List.map_cons]
theorem isall_zip {K : PySem.W.Frag} {B : Hp} : ∀ {zs : List (V × D)}, (∀ z ∈ zs, Is K B z.1 z.2) → IsAll K B (zs.map (·.1)) (zs.map (·.2))
  | [], _ => .nil
  | z :: zs, h => .cons (h z (by simp)) (isall_zip fun y hy => h y (List.mem_cons_of_mem _ hy))
theorem isall_mem {K : PySem.W.Frag} {B : Hp} : ∀ {xs : List V} {ds : List D}, IsAll K B xs ds → ∀ z ∈ xs.zip ds, Is K B z.1 z.2
  | _, [], h, z, hz => by cases h; cases hz
  | _, d :: ds, h, z, hz => by
    cases h with
    | cons h1 h2 =>
      rw [List.zip_cons_cons] at hz
      rcases List.mem_cons.mp hz with e | hz
      · subst e; exact h1
      · exact isall_mem h2 z hz
/-- what may be sorted -/
structure SrtOk (l : List D) : Prop where
  ok : pokAll l = true
  al : PySem.W.AllAlike (l.map py)
  so : PySem.W.Sortable (l.map py)
  dp : ∀ d ∈ l, (py d).depth ≤ 40
def srtD (l : List D) : List D := l.mergeSort (PySem.W.dataLe false py)
section
variable {X : Cx} {N : List PySem.Str} {S scope : Scope} {B0 H0 : Hp} {sds : List SD} {os : List (Addr × OV)} {pos p : Pos} {e : Expr} {k : Nat}
theorem el_sortD (c : Ctx X N S) (hr : Room k X.A) {P : List D → Prop} (hm : X.mg "sorted" = none) (h : EX X B0 H0 sds os e fun d => ∃ l : List D, d = .lst l ∧ SrtOk l ∧ P (srtD l)) (hg : glB S "sorted" = true := by decide +kernel) (he : starEach [e] X.env = [(false, eval e X.env)] := by rfl) : EL X B0 H0 sds os (.Call (.Name "sorted" p) [e] [] pos) P :=
  el_callB c (cr_sortD hr) hm (ea_cons (h.imp fun d ⟨l, hn, ok, hp⟩ => ea_nil fun B H vs eb iv Q q => by
    obtain ⟨v, rfl, j⟩ := call1 iv
    subst hn
    cases j with
    | @lst ad xs l' hs ha =>
      have hl := ha.len
      have hd := IsAll.dp eb l _ ha ok.ok
      rw [pyAll_map] at hd
      refine ⟨ad, xs, l, rfl, SqL.of (eb _ _ hs), hl, hd, ok.al, ok.so, ok.dp, fun p hp' => ?_⟩
      have e1 : ((xs.zip l).mergeSort (PySem.W.dataLe false fun z => py z.2)).map (·.2) = srtD l := by
        unfold srtD
        have e0 := List.map_mergeSort (f := Prod.snd) (r := PySem.W.dataLe false fun z : V × D => py z.2) (s := PySem.W.dataLe false py) (l := xs.zip l) (fun a _ b _ => rfl)
        rw [List.map_snd_zip (by omega)] at e0
        exact e0
      have al : IsAll X.K B (((xs.zip l).mergeSort (PySem.W.dataLe false fun z => py z.2)).map (·.1)) (srtD l) := by
        rw [← e1]
        exact isall_zip fun z hz => isall_mem ha z ((List.mergeSort_perm _ _).mem_iff.mp hz)
      exact q p _ B _ _ (Grow.up eb (Evl.Ex.new hp')) hp' (Evl.fresh_back eb hp') upd_same al hp) he) hg (by decide +kernel) (by decide +kernel) (by decide +kernel) he rfl
end
/-! lists of ints, as lists or tuples -/
def iL (r : List Int) : D := .lst (r.map .int)
def iT (r : List Int) : D := .tup (r.map .int)
theorem py_ints : ∀ r : List Int, pyAll (r.map .int) = r.map PyData.int
  | [] => rfl
  | i :: r => by rw [List.map_cons, pyAll, py_ints r]; rfl
theorem pok_ints : ∀ r : List Int, pokAll (r.map .int) = true
  | [] => rfl
  | i :: r => by rw [List.map_cons, pokAll, pok_ints r]; rfl
theorem pokAll_all : ∀ {l : List D}, (∀ d ∈ l, pok d = true) → pokAll l = true
  | [], _ => rfl
  | d :: l, h => by rw [pokAll, h d (by simp), pokAll_all fun x hx => h x (List.mem_cons_of_mem _ hx)]; rfl
theorem srtOk_iL (l : List (List Int)) : SrtOk (l.map iL) := by
  refine ⟨pokAll_all fun d hd => ?_, ?_, ?_, fun d hd => ?_⟩
  · obtain ⟨r, _, rfl⟩ := List.mem_map.mp hd
    exact pok_ints r
  · rw [List.map_map]
    refine PySem.W.AllAlike.of fun r r' => ?_
    show PySem.W.alike (.list (pyAll (r.map .int))) (.list (pyAll (r'.map .int))) = true
    rw [py_ints, py_ints, PySem.W.alike]
    exact PySem.W.alike_ints r r'
  · rw [List.map_map]
    exact PySem.W.Sortable.others fun r => ⟨(fun e => by cases e), (fun xs e => by cases e)⟩
  · obtain ⟨r, _, rfl⟩ := List.mem_map.mp hd
    show PyData.depth (.list (pyAll (r.map .int))) ≤ 40
    rw [py_ints, PyData.depth, PySem.W.depth_ints]
    omega
theorem srtOk_iT (l : List (List Int)) (hne : ∀ r ∈ l, r ≠ []) : SrtOk (l.map iT) := by
  refine ⟨pokAll_all fun d hd => ?_, ?_, ?_, fun d hd => ?_⟩
  · obtain ⟨r, _, rfl⟩ := List.mem_map.mp hd
    exact pok_ints r
  · rw [List.map_map]
    refine PySem.W.AllAlike.of fun r r' => ?_
    show PySem.W.alike (.tuple (pyAll (r.map .int))) (.tuple (pyAll (r'.map .int))) = true
    rw [py_ints, py_ints, PySem.W.alike]
    exact PySem.W.alike_ints r r'
  · refine .inl fun d hd => ?_
    obtain ⟨x, hx, rfl⟩ := List.mem_map.mp hd
    obtain ⟨r, hr, rfl⟩ := List.mem_map.mp hx
    cases r with
    | nil => exact absurd rfl (hne _ hr)
    | cons i r => exact ⟨.int i, r.map PyData.int, by show PyData.tuple (pyAll (D.int i :: r.map .int)) = _; rw [pyAll, py_ints]; rfl⟩
  · obtain ⟨r, _, rfl⟩ := List.mem_map.mp hd
    show PyData.depth (.tuple (pyAll (r.map .int))) ≤ 40
    rw [py_ints, PyData.depth, PySem.W.depth_ints]
    omega
/-- the lists in their order -/
def srtL (l : List (List Int)) : List (List Int) := l.mergeSort fun p q => decide (p ≤ q)
theorem srtD_iL (l : List (List Int)) : srtD (l.map iL) = (srtL l).map iL := by
  unfold srtD srtL
  refine (List.map_mergeSort (fun a _ b _ => ?_)).symm
  have := congrFun (congrFun (PySem.W.dataLe_rows (fun r : List Int => r)) a) b
  show _ = (!PySem.W.dataLt (.list (pyAll (b.map .int))) (.list (pyAll (a.map .int))))
  rw [py_ints, py_ints]
  exact this.symm
theorem srtD_iT (l : List (List Int)) : srtD (l.map iT) = (srtL l).map iT := by
  unfold srtD srtL
  refine (List.map_mergeSort (fun a _ b _ => ?_)).symm
  have := congrFun (congrFun (PySem.W.dataLe_rows (fun r : List Int => r)) a) b
  show _ = (!PySem.W.dataLt (.tuple (pyAll (b.map .int))) (.tuple (pyAll (a.map .int))))
  rw [py_ints, py_ints, PySem.W.dataLt_tuple, ← PySem.W.dataLt_list]
  exact this.symm
end OB
set_option Elab.async false
set_option linter.all false
set_option maxRecDepth 100000
set_option maxHeartbeats 4000000
namespace OB
open PySem PySem.Spec PyProof.Rows L2
/-! ### dicts whose keys are tuples of ints and texts -/
def kD : Key → D
  | .inl i => .int i
  | .inr x => .str x
def keyD (ks : List Key) : D := .tup (ks.map kD)
theorem is_kD {K : PySem.W.Frag} {B : Hp} {v : V} : ∀ {k : Key}, Is K B v (kD k) → v = kV k
  | .inl i, h => by cases h; rfl
  | .inr x, h => by cases h; rfl
theorem isall_kD {K : PySem.W.Frag} {B : Hp} : ∀ {ks : List Key} {vs : List V}, IsAll K B vs (ks.map kD) → vs = ks.map kV
  | [], _, h => by cases h; rfl
  | k :: ks, _, h => by
    cases h with
    | cons h1 h2 => rw [is_kD h1, isall_kD h2]; rfl
theorem is_key {K : PySem.W.Frag} {B : Hp} {v : V} {ks : List Key} (h : Is K B v (keyD ks)) : ∃ b, v = .ref b ∧ B b = some (.tup (ks.map kV)) := by
  cases h with
  | tup h1 h2 => rw [isall_kD h2] at h1; exact ⟨_, rfl, h1⟩
abbrev DM := List (List Key × D)
def valM (m : DM) (k : List Key) : Option D := (m.find? fun kv => decide (kv.1 = k)).map (·.2)
def putM (m : DM) (k : List Key) (d : D) : DM := if (m.any fun kv => decide (kv.1 = k)) = true then m.map (fun kv => if kv.1 = k then (kv.1, d) else kv) else m ++ [(k, d)]
theorem valM_nil {k : List Key} : valM [] k = none := rfl
theorem valM_cons (p : List Key × D) (m : DM) (k : List Key) : valM (p :: m) k = if p.1 = k then some p.2 else valM m k := by
  unfold valM
  rw [List.find?_cons]
  by_cases e : p.1 = k
  · rw [if_pos e, decide_eq_true e]; rfl
  · rw [if_neg e, decide_eq_false e]
theorem valM_any (k : List Key) : ∀ m : DM, (m.any fun kv => decide (kv.1 = k)) = (valM m k).isSome
  | [] => rfl
  | p :: m => by
    rw [List.any_cons, valM_cons, valM_any k m]
    by_cases e : p.1 = k
    · rw [if_pos e, decide_eq_true e, Bool.true_or]; rfl
    · rw [if_neg e, decide_eq_false e, Bool.false_or]
theorem valM_mem {k : List Key} : ∀ {m : DM}, (valM m k).isSome = true ↔ k ∈ m.map (·.1)
  | [] => by simp [valM]
  | p :: m => by
    rw [valM_cons, List.map_cons, List.mem_cons]
    by_cases e : p.1 = k
    · rw [if_pos e]; simp [e]
    · rw [if_neg e, valM_mem (m := m)]
      constructor
      · exact .inr
      · rintro (z | z)
        · exact absurd z.symm e
        · exact z
theorem putM_new {m : DM} {k : List Key} {d : D} (h : valM m k = none) : putM m k d = m ++ [(k, d)] := by
  unfold putM
  rw [valM_any, h]; rfl
theorem valM_app (m : DM) (q : List Key × D) (j : List Key) : valM (m ++ [q]) j = (valM m j).or (if q.1 = j then some q.2 else none) := by
  induction m with
  | nil => rw [List.nil_append, valM_cons]; rfl
  | cons p m ih =>
    rw [List.cons_append, valM_cons, valM_cons, ih]
    by_cases e : p.1 = j
    · rw [if_pos e, if_pos e]; rfl
    · rw [if_neg e, if_neg e]
theorem valM_put (m : DM) (k j : List Key) (d : D) : valM (putM m k d) j = if j = k then some d else valM m j := by
  cases h : valM m k with
  | none =>
    rw [putM_new h, valM_app]
    by_cases e : j = k
    · subst e; rw [h, if_pos rfl]; rfl
    · rw [if_neg e]
      show (valM m j).or (if k = j then some d else none) = _
      rw [if_neg (fun z => e z.symm)]; cases valM m j <;> rfl
  | some x =>
    unfold putM
    rw [valM_any, h, if_pos (show (some x).isSome = true from rfl)]
    have g : ∀ m : DM, (valM m k).isSome = true → valM (m.map fun kv => if kv.1 = k then (kv.1, d) else kv) j = if j = k then some d else valM m j := by
      intro m
      induction m with
      | nil => intro z; simp [valM] at z
      | cons p m ih =>
        intro z
        rw [List.map_cons, valM_cons, valM_cons]
        rw [valM_cons] at z
        by_cases e : p.1 = k
        · rw [if_pos e]
          by_cases ej : j = k
          · rw [if_pos ej]; show (if p.1 = j then _ else _) = _; rw [if_pos (e.trans ej.symm)]
          · rw [if_neg ej]
            have ne : ¬ p.1 = j := fun z => ej (z.symm.trans e)
            show (if p.1 = j then some d else valM (m.map _) j) = _
            rw [if_neg ne, if_neg ne]
            by_cases zm : (valM m k).isSome = true
            · rw [ih zm, if_neg ej]
            · have nm : ∀ q ∈ m, ¬ q.1 = k := fun q hq e2 => zm (valM_mem.mpr (List.mem_map.mpr ⟨q, hq, e2⟩))
              have : (m.map fun kv => if kv.1 = k then (kv.1, d) else kv) = m := by
                conv => rhs; rw [← List.map_id m]
                exact List.map_congr_left fun q hq => by rw [if_neg (nm q hq)]; rfl
              rw [this]
        · rw [if_neg e] at z ⊢
          rw [ih z]
          by_cases ej : p.1 = j
          · rw [if_pos ej, if_pos ej, if_neg (fun q => e (ej.trans q))]
          · rw [if_neg ej, if_neg ej]
    exact g m (by rw [h]; rfl)
section
variable {K : PySem.W.Frag} {B : Hp}
theorem IsKs.len : ∀ {kvs : List (List Key × V)} {m : DM}, IsKs K B kvs m → kvs.length = m.length
  | _, _, .nil => rfl
  | _, _, .cons _ h => by rw [List.length_cons, List.length_cons, h.len]
theorem IsKs.app : ∀ {kvs ws : List (List Key × V)} {m n : DM}, IsKs K B kvs m → IsKs K B ws n → IsKs K B (kvs ++ ws) (m ++ n)
  | _, _, _, _, .nil, h => h
  | _, _, _, _, .cons h1 h2, h => .cons h1 (h2.app h)
theorem IsKs.any (k : List Key) : ∀ {kvs : List (List Key × V)} {m : DM}, IsKs K B kvs m → (kvs.any fun kv => decide (kv.1 = k)) = (m.any fun kv => decide (kv.1 = k))
  | _, _, .nil => rfl
  | _, _, .cons _ h => by rw [List.any_cons, List.any_cons, h.any k]
theorem IsKs.repl (k : List Key) {v : V} {d : D} (hv : Is K B v d) : ∀ {kvs : List (List Key × V)} {m : DM}, IsKs K B kvs m → IsKs K B (kvs.map fun kv => if kv.1 = k then (kv.1, v) else kv) (m.map fun kv => if kv.1 = k then (kv.1, d) else kv)
  | _, _, .nil => .nil
  | _, _, .cons (k := k1) h1 h => by
    rw [List.map_cons, List.map_cons]
    by_cases e : k1 = k
    · rw [if_pos e, if_pos e]; exact .cons hv (h.repl k hv)
    · rw [if_neg e, if_neg e]; exact .cons h1 (h.repl k hv)
theorem IsKs.put {kvs : List (List Key × V)} {m : DM} (h : IsKs K B kvs m) (k : List Key) {v : V} {d : D} (hv : Is K B v d) : IsKs K B (putK kvs k v) (putM m k d) := by
  unfold putK putM
  rw [h.any k]
  by_cases e : (m.any fun kv => decide (kv.1 = k)) = true
  · rw [if_pos e, if_pos e]; exact h.repl k hv
  · rw [if_neg e, if_neg e]; exact h.app (.cons hv .nil)
theorem IsKs.val (k : List Key) : ∀ {kvs : List (List Key × V)} {m : DM}, IsKs K B kvs m → (valM m k = none → valV kvs k = none) ∧ ∀ d, valM m k = some d → ∃ v, valV kvs k = some v ∧ Is K B v d
  | _, _, .nil => ⟨fun _ => rfl, fun d h => by simp [valM] at h⟩
  | _, _, .cons (k := k1) (v := v1) (vs := vs1) h1 h => by
    rw [valM_cons]
    by_cases e : k1 = k
    · have ev : valV ((k1, v1) :: vs1) k = some v1 := valV_pos e
      rw [if_pos e, ev]
      exact ⟨fun z => (by cases z), fun d z => by cases z; exact ⟨_, rfl, h1⟩⟩
    · have ev : valV ((k1, v1) :: vs1) k = valV vs1 k := valV_neg e
      rw [if_neg e, ev]
      exact h.val k
theorem IsKs.isSome (k : List Key) {kvs : List (List Key × V)} {m : DM} (h : IsKs K B kvs m) : (valV kvs k).isSome = (valM m k).isSome := by
  cases e : valM m k with
  | none => rw [(h.val k).1 e]; rfl
  | some d => obtain ⟨v, q, _⟩ := (h.val k).2 d e; rw [q]; rfl
end

/-! ### owned objects changed, frozen, whatever they are -/
section
variable {K : PySem.W.Frag} {B0 H0 B H : Hp} {σ : L2.St} {sds : List SD} {os : List (Addr × OV)}
theorem St.putG {p : Addr} {ov ov' : OV} {u : HO} {os1 os2 : List (Addr × OV)} (s : St K B0 H0 B H σ sds (os1 ++ (p, ov) :: os2)) (f1 : fpt (p, ov) = [p]) (f2 : fpt (p, ov') = [p]) (ho' : Own K B (upd H p u) (p, ov')) : St K B0 H0 B (upd H p u) σ sds (os1 ++ (p, ov') :: os2) := by
  have fp := s.fr p (by rw [List.flatMap_append, List.flatMap_cons, f1]; simp)
  have nd := s.nd
  rw [List.flatMap_append, List.flatMap_cons, f1] at nd
  have nd2 := List.nodup_append.mp nd
  have np : ∀ e ∈ os1 ++ os2, p ∉ fpt e := fun e he hm => by
    rcases List.mem_append.mp he with z | z
    · exact nd2.2.2 p (List.mem_flatMap.mpr ⟨e, z, hm⟩) p (by simp) rfl
    · exact (List.nodup_cons.mp nd2.2.1).1 (List.mem_flatMap.mpr ⟨e, z, hm⟩)
  have keep : ∀ a o, a ≠ p → H a = some o → upd H p u a = some o := fun a o hn q => by rw [upd_ne hn]; exact q
  have rows : ∀ {rs : List Addr} {M : List (List D)}, Rows K B H rs M → (∀ a ∈ rs, a ≠ p) → Rows K B (upd H p u) rs M := by
    intro rs M h
    induction h with
    | nil => intro _; exact .nil
    | cons h1 h2 h3 ih => intro hn; exact .cons (keep _ _ (hn _ (by simp)) h1) h2 (ih fun a ha => hn a (List.mem_cons_of_mem _ ha))
  have other : ∀ e ∈ os1 ++ os2, Own K B (upd H p u) e := fun e he => by
    have hn := np e he
    have ho := s.ow e (by
      rcases List.mem_append.mp he with z | z
      · exact List.mem_append_left _ z
      · exact List.mem_append_right _ (List.mem_cons_of_mem _ z))
    obtain ⟨q, o⟩ := e
    cases o with
    | lst l => obtain ⟨ys, h1, h2⟩ := ho; exact ⟨ys, keep _ _ (fun z => hn (by simp [fpt, z])) h1, h2⟩
    | dct l => obtain ⟨ys, h1, h2⟩ := ho; exact ⟨ys, keep _ _ (fun z => hn (by simp [fpt, z])) h1, h2⟩
    | dck l => obtain ⟨ys, h1, h2⟩ := ho; exact ⟨ys, keep _ _ (fun z => hn (by simp [fpt, z])) h1, h2⟩
    | ins C dx fs => obtain ⟨ys, h1, h2⟩ := ho; exact ⟨ys, keep _ _ (fun z => hn (by simp [fpt, z])) h1, h2⟩
    | mat rs M => obtain ⟨h1, h2⟩ := ho; exact ⟨keep _ _ (fun z => hn (by simp [fpt, z])) h1, rows h2 fun a ha z => hn (by rw [← z]; simp [fpt, ha])⟩
  have fl : (os1 ++ (p, ov') :: os2).flatMap fpt = (os1 ++ (p, ov) :: os2).flatMap fpt := by
    rw [List.flatMap_append, List.flatMap_append, List.flatMap_cons, List.flatMap_cons, f1, f2]
  refine ⟨⟨s.g.b, s.g.h.mut fp.2, Evl.Ex.mut s.g.bh fp.1, s.g.fr⟩, s.sl, fun e he => ?_, fun a ha => s.fr a (fl ▸ ha), fl ▸ s.nd⟩
  rcases List.mem_append.mp he with z | z
  · exact other e (List.mem_append_left _ z)
  · rcases List.mem_cons.mp z with z | z
    · subst z; exact ho'
    · exact other e (List.mem_append_right _ z)
theorem St.putGAt {p : Addr} {ov ov' : OV} {u : HO} {j : Nat} (s : St K B0 H0 B H σ sds os) (hj : os[j]? = some (p, ov)) (f1 : fpt (p, ov) = [p]) (f2 : fpt (p, ov') = [p]) (ho' : Own K B (upd H p u) (p, ov')) : St K B0 H0 B (upd H p u) σ sds (os.set j (p, ov')) := by
  rw [set_at hj]
  rw [split_at hj] at s
  exact s.putG f1 f2 ho'
theorem St.freezeG {p : Addr} {ov : OV} {u : HO} {d : D} {os1 os2 : List (Addr × OV)} (s : St K B0 H0 B H σ sds (os1 ++ (p, ov) :: os2)) (f1 : fpt (p, ov) = [p]) (hp : H p = some u) (hi' : ∀ B', Ex B B' → B' p = some u → Is K B' (.ref p) d) {i : Nat} (hi : sds[i]? = some (.v (.ref p))) :
    ∃ B', Ex B B' ∧ St K B0 H0 B' H σ (sds.set i (.d d)) (os1 ++ os2) := by
  have fp := s.fr p (by rw [List.flatMap_append, List.flatMap_cons, f1]; simp)
  have e1 : Ex B (upd B p u) := Evl.Ex.new fp.1
  have nd := s.nd
  rw [List.flatMap_append, List.flatMap_cons, f1] at nd
  have nd2 := List.nodup_append.mp nd
  have np : p ∉ (os1 ++ os2).flatMap fpt := fun hm => by
    rw [List.flatMap_append] at hm
    rcases List.mem_append.mp hm with z | z
    · exact nd2.2.2 p z p (by simp) rfl
    · exact (List.nodup_cons.mp nd2.2.1).1 z
  refine ⟨_, e1, ⟨s.g.b.trans e1, s.g.h, ex_join s.g.bh hp, fun a h => ?_⟩, ⟨by rw [List.length_set]; exact s.sl.len, fun j sd q => ?_⟩, fun e he => ?_, fun a ha => ?_, ?_⟩
  · by_cases hb : a = p
    · subst hb; exact .inr (.inl fp.2)
    · rw [upd_ne hb] at h; exact s.g.fr a h
  · by_cases hj : i = j
    · subst hj
      have hl : i < sds.length := (List.getElem?_eq_some_iff.mp hi).1
      rw [List.getElem?_set_self hl] at q
      cases q
      exact ⟨.ref p, s.varV hi, hi' _ e1 upd_same⟩
    · rw [List.getElem?_set_ne hj] at q
      exact (s.sl.at' j sd q).mono e1
  · refine (s.ow e ?_).mono e1 (Evl.Ex.refl _)
    rcases List.mem_append.mp he with z | z
    · exact List.mem_append_left _ z
    · exact List.mem_append_right _ (List.mem_cons_of_mem _ z)
  · have hap : a ≠ p := fun z => np (z ▸ ha)
    rw [upd_ne hap]
    refine s.fr a ?_
    rw [List.flatMap_append] at ha ⊢
    rw [List.flatMap_cons]
    rcases List.mem_append.mp ha with z | z
    · exact List.mem_append_left _ z
    · exact List.mem_append_right _ (List.mem_append_right _ z)
  · rw [List.flatMap_append]
    exact List.nodup_append.mpr ⟨nd2.1, (List.nodup_cons.mp nd2.2.1).2, fun x hx y hy => nd2.2.2 x hx y (List.mem_cons_of_mem _ hy)⟩
end
end OB
set_option Elab.async false
set_option linter.all false
set_option maxRecDepth 100000
set_option maxHeartbeats 4000000
namespace OB
open PySem PySem.Spec PyProof.Rows L2
/-! ### rules for dicts with tuple keys -/
section
variable {X : Cx} {pos : Pos}
/-- {k: v}: one pair, its key a tuple -/
def tDisp1 (tk tv : TE) : TE := fun σ H Q => ∀ p, H p = none → tPairs [(tk, tv)] σ (upd H p (.dT [])) fun ps H2 => H2 p = some (.dT []) ∧ ∃ (b : Addr) (ks : List Key) (y : V), ps = [(.ref b, y)] ∧ H2 b = some (.tup (ks.map kV)) ∧ Q (.ref p) (upd H2 p (.dT [(ks, y)]))
theorem disp_at {prog : Program} {w : World} {K : Type} [DecidableEq K] {knd : HeapKind prog w K} {A : Around} {E : Value → Shared → Prop} {s : Shared} {env : Env} {keys : List (Option Expr)} {values : List Expr} {pairs : List (Sem Value × Sem Value)} {Q : Value → Shared → Prop} (hu : knd.room A)
    (hshape : (evalEachOpt keys env).zip ((evalEach values env).map fun v => do let x ← v; standAt pos; pure x) = pairs.map fun p => (some p.1, p.2)) (h0 : pairs ≠ []) (hlen : pairs.length ≤ 15)
    (h : wpAny (model prog w) A (evalPairs pairs) (fun vs s₁ => ∃ ps, CarriesH knd s₁.heap vs ps ∧ s₁.heap.DictOfH knd s.heap.objs.size [] ∧
      ∀ h' tk, h'.DictOfH knd s.heap.objs.size (storedAllH [] ps) → Heap.SameBut s.heap.objs.size s₁.heap h' → Q (.ref s.heap.objs.size) { s₁ with heap := h', toks := tk }) E
      { s with heap := s.heap.push { cls := .type "dict", data := .dict #[] } }) :
    wpAny (model prog w) A (eval (.Dict keys values pos) env) Q E s := by
  rw [arm_eval_Dict, hshape, dictDisplay_pairs pairs h0 (by omega)]
  refine wpAny_bind (wpAny_standAt (wpAny_bind ?_))
  refine wpAny_subDictH (knd := knd) (Q := fun d s' => wpAny (model prog w) A (pure (Value.ref d)) Q E s') hu hlen ?_
  refine wpAny_mono h (fun vs s₁ h₁ => ?_) fun _ _ e => e
  obtain ⟨ps, hc, hm, hq⟩ := h₁
  exact ⟨ps, hc, hm, fun h' tk a b => wpAny_pure (hq h' tk a b)⟩
theorem pe_disp1 {k v : Expr} {tk tv : TE} (hu : X.A.units + 1 < cLine) (hk : PE X k tk) (hv : PE X v tv) : PE X (.Dict [some k] [v] pos) (tDisp1 tk tv) := by
  refine ⟨fun pins s σ H Q I q => ?_⟩
  have hn := I.hok.fresh (Nat.le_refl s.heap.objs.size)
  have I1 := I.laid (a := s.heap.objs.size) (o := .dT []) (h' := s.heap.push { cls := .type "dict", data := .dict #[] }) (t' := s.toks) (fun _ _ q => Heap.get?_push_of_some _ q) (Nat.le_refl _) (dt_empty s.heap I.big)
  refine disp_at (knd := tupleKind (mixKind X.prog X.w)) (pairs := pairTrees [some k] [v] X.env pos) (show X.A.units < cLine by omega) (zip_pairTrees _ _ _ _ rfl rfl) (by intro z; exact nomatch z) (by show 1 ≤ 15; omega) ?_
  refine thn ((pps_cons hk hv pps_nil).run pins _ σ _ _ I1 (q _ hn)) fun ws s2 ⟨ps, H2, I2, rel, e, b, ks, y, ep, eb, q2⟩ => ?_
  subst ep
  cases rel with
  | @cons pa pr pas prs h1 h2 =>
    cases h2
    obtain ⟨u, yv⟩ := pr
    obtain ⟨r1, r2⟩ := h1
    cases (show u = Value.ref b from r1)
    obtain ⟨z, hd, xs, rx, dd⟩ := dt_of I2.hok e
    cases rx
    refine ⟨[(ks, b, yv)], ⟨rfl, rfl, key_of I2.hok eb, True.intro⟩, dd, fun h' tk' dd' hs => ⟨.ref s.heap.objs.size, _, ?_, rfl, q2⟩⟩
    obtain ⟨o, es, ep2, hq, g2, g3, g4, _, g5⟩ := dd'
    refine d_write I2 (by rw [e]; exact True.intro) hs ⟨o, hq⟩ ⟨by rw [sizeLine_eq]; show 1 ≤ _; omega, hd, [(ks, b, yv)], .cons ⟨rfl, ?_, r2⟩ .nil, o, es, ep2, hq, g2, g3, g4, g5⟩
    rw [upd_ne (ne_of eb e (fun z => nomatch z))]
    exact eb
end
section
variable {X : Cx} {N : List PySem.Str} {S scope : Scope} {B0 H0 : Hp} {sds : List SD} {os : List (Addr × OV)} {E : DE} {pos spos p p2 : Pos} {a b e : Expr} {P : D → Prop} {k : Nat}
theorem St.ownG {K : PySem.W.Frag} {B H : Hp} {σ : L2.St} {ad : Addr} {m : DM} {j : Nat} (s : St K B0 H0 B H σ sds os) (hj : os[j]? = some (ad, .dct m)) : ∃ kvs, H ad = some (.dT kvs) ∧ IsKs K B kvs m := s.ow (ad, .dct m) (List.mem_of_getElem? hj)
/-- x = {k: v} -/
theorem g1_disp1 (c : CtxD X N S) (hr : Room k X.A) (i : Nat) {x : PySem.Str} {pos' : Pos} (h : EX X B0 H0 sds os a fun dk => ∃ ks, dk = keyD ks ∧ EX X B0 H0 sds os b fun d => ∀ p, E.nx (sds.set i (.v (.ref p))) ((p, .dct [(ks, d)]) :: os)) (hN : N[i]? = some x := by rfl) (hv : locB S x = true := by decide +kernel)
    (hs : swapsWith (.Dict [some a] [b] spos) (some (.Name x pos')) pos.line X.env = pure false := by rfl) : Go1 X B0 H0 sds os E (.Assign [.Name x pos'] (.Dict [some a] [b] spos) pos) := fun A B H σ ea s => by
  have hu := hr.units
  refine PS.to (ps_set (i := i) (by rw [c.hN]; exact c.nd) (by rw [c.hN]; exact hN) (c.toCtx.loc hv) (pe_disp1 (by omega) pe_w pe_w) hs c.locf) ?_
  intro p hp
  have g0 : Grow B H B (upd H p (.dT [])) := Grow.up s.g.bh (Evl.Ex.new hp)
  refine h B _ σ (s.grow g0) _ fun vk B1 H1 dk g1 i1 ⟨ks, ek, hk⟩ => ?_
  subst ek
  refine hk B1 H1 σ ((s.grow g0).grow g1) _ fun v B2 H2 d g2 i2 kk => ?_
  obtain ⟨bb, rfl, eb⟩ := is_key i1
  have e2 : H2 p = some (.dT []) := g2.h _ _ (g1.h _ _ upd_same)
  refine ⟨e2, bb, ks, v, rfl, g2.h _ _ (g1.bh _ _ eb), ?_⟩
  have s2 := ((s.grow g0).grow g1).grow g2
  have bp : B p = none := Evl.fresh_back s.g.bh hp
  have bp2 : B2 p = none := g2.out (g1.out bp upd_same) (g1.h _ _ upd_same)
  have s3 := s2.add (p := p) (ov := .dct []) (i := i) bp2 (Evl.fresh_back s.g.h hp) rfl (s.notin hp) ⟨[], e2, .nil⟩
  exact ⟨B2, _, _, (ea.trans g1.b).trans g2.b, s3.putG (os1 := []) (ov := .dct []) (ov' := .dct [(ks, d)]) rfl rfl ⟨[(ks, v)], upd_same, .cons i2 .nil⟩, kk p⟩
/-- x = {} -/
theorem g1_disp0 (c : CtxD X N S) (i : Nat) {x : PySem.Str} {pos' : Pos} (h : ∀ p, E.nx (sds.set i (.v (.ref p))) ((p, .dct []) :: os)) (hN : N[i]? = some x := by rfl) (hv : locB S x = true := by decide +kernel)
    (hs : swapsWith (.Dict [] [] spos) (some (.Name x pos')) pos.line X.env = pure false := by rfl) : Go1 X B0 H0 sds os E (.Assign [.Name x pos'] (.Dict [] [] spos) pos) := fun A B H σ ea s => by
  refine PS.to (ps_set (i := i) (by rw [c.hN]; exact c.nd) (by rw [c.hN]; exact hN) (c.toCtx.loc hv) pe_dnewT hs c.locf) ?_
  intro p hp
  have g0 : Grow B H B (upd H p (.dT [])) := Grow.up s.g.bh (Evl.Ex.new hp)
  have bp : B p = none := Evl.fresh_back s.g.bh hp
  exact ⟨B, _, _, ea, (s.grow g0).add (p := p) (ov := .dct []) (i := i) bp (Evl.fresh_back s.g.h hp) rfl (s.notin hp) ⟨[], upd_same, .nil⟩, h p⟩
/-- x[b] = e of an owned dict -/
theorem g1_dput (c : Ctx X N S) (hr : Room k X.A) (i j : Nat) {x : PySem.Str} {ad : Addr} {m : DM} {px ps : Pos} (h : EX X B0 H0 sds os e fun d => EX X B0 H0 sds os b fun dk => ∃ ks, dk = keyD ks ∧ m.length < 100000 ∧ E.nx sds (os.set j (ad, .dct (putM m ks d)))) (hj : os[j]? = some (ad, .dct m) := by rfl) (hi : sds[i]? = some (.v (.ref ad)) := by rfl)
    (hN : N[i]? = some x := by rfl) (hv : visB S x = true := by decide +kernel) (hd : (x == ("__debug__" : PySem.Str)) = false := by decide +kernel) (hcd : (x == ("__classdict__" : PySem.Str)) = false := by decide +kernel)
    (hs : swapsWith e (some (.Subscript (.Name x px) b ps)) pos.line X.env = pure false := by rfl) : Go1 X B0 H0 sds os E (.Assign [.Subscript (.Name x px) b ps] e pos) := fun A B H σ ea s => by
  have hu := hr.units
  refine PS.to (ps_dput (by omega) (pe_var (i := i) (by rw [c.hN]; exact hN) (c.vis hv) hd hcd) pe_w pe_w hs) ?_
  obtain ⟨kvs, hp, hk⟩ := s.ownG hj
  refine h B H σ s _ fun v B1 H1 d g1 i1 k1 => ?_
  refine ⟨.ref ad, s.varV hi, ?_⟩
  refine k1 B1 H1 σ (s.grow g1) _ fun w B2 H2 dk g2 i2 ⟨ks, e2, hl, kk⟩ => ?_
  subst e2
  obtain ⟨bb, rfl, eb⟩ := is_key i2
  have s2 := (s.grow g1).grow g2
  have hk2 := IsKs.mono g2.b _ _ (IsKs.mono g1.b _ _ hk)
  refine ⟨ad, _, rfl, DPut.t (g2.h _ _ (g1.h _ _ hp)) (g2.bh _ _ eb) (by rw [hk.len]; exact Nat.lt_of_lt_of_le hl (by decide)), ?_⟩
  exact ⟨B2, _, _, (ea.trans g1.b).trans g2.b, s2.putGAt (ov' := .dct (putM m ks d)) hj rfl rfl ⟨_, upd_same, hk2.put ks (i1.mono g2.b)⟩, kk⟩
/-- e in x, x an owned dict -/
theorem ex_din (c : Ctx X N S) (hr : Room k X.A) (i j : Nat) {x : PySem.Str} {ad : Addr} {m : DM} (h : EX X B0 H0 sds os e fun d => ∃ ks, d = keyD ks ∧ P (.bl (valM m ks).isSome)) (hj : os[j]? = some (ad, .dct m) := by rfl) (hi : sds[i]? = some (.v (.ref ad)) := by rfl)
    (hN : N[i]? = some x := by rfl) (hv : visB S x = true := by decide +kernel) (hd : (x == ("__debug__" : PySem.Str)) = false := by decide +kernel) (hcd : (x == ("__classdict__" : PySem.Str)) = false := by decide +kernel)
    (hm : behindInMarks .In (.Name x p) = false := by rfl) : EX X B0 H0 sds os (.Compare e [.In] [.Name x p] pos) P := fun B H σ s Q q => by
  have hu := hr.units
  refine PE.to (pe_cmp (pc_din (by omega) pe_w (pe_var (i := i) (by rw [c.hN]; exact hN) (c.vis hv) hd hcd)) hm) ?_
  obtain ⟨kvs, hp, hk⟩ := s.ownG hj
  refine h B H σ s _ fun v B1 H1 d g1 i1 ⟨ks, e2, pp⟩ => ?_
  subst e2
  obtain ⟨bb, rfl, eb⟩ := is_key i1
  exact ⟨.ref ad, s.varV hi, ad, _, rfl, DGet.t (g1.h _ _ hp) (g1.bh _ _ eb), q _ B1 H1 _ g1 (by rw [hk.isSome]; exact .bl _) pp⟩
theorem ex_dnin (c : Ctx X N S) (hr : Room k X.A) (i j : Nat) {x : PySem.Str} {ad : Addr} {m : DM} (h : EX X B0 H0 sds os e fun d => ∃ ks, d = keyD ks ∧ P (.bl (!(valM m ks).isSome))) (hj : os[j]? = some (ad, .dct m) := by rfl) (hi : sds[i]? = some (.v (.ref ad)) := by rfl)
    (hN : N[i]? = some x := by rfl) (hv : visB S x = true := by decide +kernel) (hd : (x == ("__debug__" : PySem.Str)) = false := by decide +kernel) (hcd : (x == ("__classdict__" : PySem.Str)) = false := by decide +kernel)
    (hm : behindInMarks .NotIn (.Name x p) = false := by rfl) : EX X B0 H0 sds os (.Compare e [.NotIn] [.Name x p] pos) P := fun B H σ s Q q => by
  have hu := hr.units
  refine PE.to (pe_cmp (pc_dnotin (by omega) pe_w (pe_var (i := i) (by rw [c.hN]; exact hN) (c.vis hv) hd hcd)) hm) ?_
  obtain ⟨kvs, hp, hk⟩ := s.ownG hj
  refine h B H σ s _ fun v B1 H1 d g1 i1 ⟨ks, e2, pp⟩ => ?_
  subst e2
  obtain ⟨bb, rfl, eb⟩ := is_key i1
  exact ⟨.ref ad, s.varV hi, ad, _, rfl, DGet.t (g1.h _ _ hp) (g1.bh _ _ eb), q _ B1 H1 _ g1 (by rw [hk.isSome]; exact .bl _) pp⟩
/-- x[e], x an owned dict -/
theorem ex_dget (c : Ctx X N S) (hr : Room k X.A) (i j : Nat) {x : PySem.Str} {ad : Addr} {m : DM} (h : EX X B0 H0 sds os e fun d => ∃ ks y, d = keyD ks ∧ valM m ks = some y ∧ P y) (hj : os[j]? = some (ad, .dct m) := by rfl) (hi : sds[i]? = some (.v (.ref ad)) := by rfl)
    (hN : N[i]? = some x := by rfl) (hv : visB S x = true := by decide +kernel) (hd : (x == ("__debug__" : PySem.Str)) = false := by decide +kernel) (hcd : (x == ("__classdict__" : PySem.Str)) = false := by decide +kernel)
    (hs : NoSl e := by exact fun _ _ => rfl) : EX X B0 H0 sds os (.Subscript (.Name x p) e pos) P := fun B H σ s Q q => by
  have hu := hr.units
  refine PE.to (pe_dget (by omega) (pe_var (i := i) (by rw [c.hN]; exact hN) (c.vis hv) hd hcd) pe_w hs) ?_
  obtain ⟨kvs, hp, hk⟩ := s.ownG hj
  refine ⟨.ref ad, s.varV hi, ?_⟩
  refine h B H σ s _ fun v B1 H1 d g1 i1 ⟨ks, y, e2, hy, pp⟩ => ?_
  subst e2
  obtain ⟨bb, rfl, eb⟩ := is_key i1
  obtain ⟨u, hu2, iu⟩ := (hk.val ks).2 y hy
  refine ⟨ad, u, rfl, ?_, q u B1 H1 y g1 (iu.mono g1.b) pp⟩
  rw [← hu2]
  exact DGet.t (g1.h _ _ hp) (g1.bh _ _ eb)
/-- the same of a dict that is data -/
theorem ex_dinD (hr : Room k X.A) (h : EX X B0 H0 sds os e fun dk => EX X B0 H0 sds os a fun d => ∃ ks m, dk = keyD ks ∧ d = .dct m ∧ P (.bl (valM m ks).isSome)) (hm : behindInMarks .In a = false := by rfl) : EX X B0 H0 sds os (.Compare e [.In] [a] pos) P := fun B H σ s Q q => by
  have hu := hr.units
  refine PE.to (pe_cmp (pc_din (by omega) pe_w pe_w) hm) ?_
  refine h B H σ s _ fun v B1 H1 d g1 i1 k1 => k1 B1 H1 σ (s.grow g1) _ fun w B2 H2 d2 g2 i2 ⟨ks, m, e1, e2, pp⟩ => ?_
  subst e1 e2
  obtain ⟨bb, rfl, eb⟩ := is_key i1
  cases i2 with
  | dct hs hk => exact ⟨_, _, rfl, DGet.t (g2.bh _ _ hs) (g2.bh _ _ (g2.b _ _ eb)), q _ B2 H2 _ (g1.trans g2) (by rw [hk.isSome]; exact .bl _) pp⟩
theorem ex_dninD (hr : Room k X.A) (h : EX X B0 H0 sds os e fun dk => EX X B0 H0 sds os a fun d => ∃ ks m, dk = keyD ks ∧ d = .dct m ∧ P (.bl (!(valM m ks).isSome))) (hm : behindInMarks .NotIn a = false := by rfl) : EX X B0 H0 sds os (.Compare e [.NotIn] [a] pos) P := fun B H σ s Q q => by
  have hu := hr.units
  refine PE.to (pe_cmp (pc_dnotin (by omega) pe_w pe_w) hm) ?_
  refine h B H σ s _ fun v B1 H1 d g1 i1 k1 => k1 B1 H1 σ (s.grow g1) _ fun w B2 H2 d2 g2 i2 ⟨ks, m, e1, e2, pp⟩ => ?_
  subst e1 e2
  obtain ⟨bb, rfl, eb⟩ := is_key i1
  cases i2 with
  | dct hs hk => exact ⟨_, _, rfl, DGet.t (g2.bh _ _ hs) (g2.bh _ _ (g2.b _ _ eb)), q _ B2 H2 _ (g1.trans g2) (by rw [hk.isSome]; exact .bl _) pp⟩
theorem ex_dgetD (hr : Room k X.A) (h : EX X B0 H0 sds os a fun d => EX X B0 H0 sds os e fun dk => ∃ ks m y, dk = keyD ks ∧ d = .dct m ∧ valM m ks = some y ∧ P y) (hs : NoSl e := by exact fun _ _ => rfl) : EX X B0 H0 sds os (.Subscript a e pos) P := fun B H σ s Q q => by
  have hu := hr.units
  refine PE.to (pe_dget (by omega) pe_w pe_w hs) ?_
  refine h B H σ s _ fun v B1 H1 d g1 i1 k1 => k1 B1 H1 σ (s.grow g1) _ fun w B2 H2 d2 g2 i2 ⟨ks, m, y, e1, e2, hy, pp⟩ => ?_
  subst e1 e2
  obtain ⟨bb, rfl, eb⟩ := is_key i2
  cases i1 with
  | dct hs hk =>
    obtain ⟨u, hu2, iu⟩ := (hk.val ks).2 y hy
    refine ⟨_, u, rfl, ?_, q u B2 H2 y (g1.trans g2) (iu.mono g2.b) pp⟩
    rw [← hu2]
    exact DGet.t (g2.bh _ _ (g2.b _ _ hs)) (g2.bh _ _ eb)
/-- an owned dict becomes data -/
theorem go_freezeT (i j : Nat) {ad : Addr} {m : DM} {sts : List Stmt} (h : Go X B0 H0 (sds.set i (.d (.dct m))) (os.eraseIdx j) E sts) (hj : os[j]? = some (ad, .dct m) := by rfl) (hi : sds[i]? = some (.v (.ref ad)) := by rfl) : Go X B0 H0 sds os E sts := fun A B H σ ea s => by
  obtain ⟨kvs, hp, hk⟩ := s.ownG hj
  rw [split_at hj] at s
  obtain ⟨B', e1, s'⟩ := s.freezeG (d := .dct m) rfl hp (fun B' eb q => .dct q (IsKs.mono eb _ _ hk)) hi
  rw [← erase_at] at s'
  exact h A B' H σ (ea.trans e1) s'
end
end OB
set_option Elab.async false
set_option linter.all false
set_option maxRecDepth 100000
set_option maxHeartbeats 4000000
namespace OB
open PySem PySem.Spec PyProof.Rows L2
/-! ### sorted(d), d a dict with tuple keys -/
theorem py_kD : ∀ k : Key, py (kD k) = (match k with | .inl i => PyData.int i | .inr x => PyData.str x)
  | .inl _ => rfl
  | .inr _ => rfl
theorem reads_keys {h : Heap} : ∀ {ks : List Key} {us : List Value}, Vals (ks.map kV) us → ReadsAll h us (pyAll (ks.map kD)) []
  | [], _, r => by rw [List.map_nil] at r; cases r; exact .nil
  | k :: ks, _, r => by
    rw [List.map_cons] at r
    cases r with
    | @cons a u as us h1 h2 =>
      have t := reads_keys (h := h) h2
      show ReadsAll h (u :: us) (py (kD k) :: pyAll (ks.map kD)) ([] ++ [])
      refine .cons ?_ t
      cases k with
      | inl i => obtain ⟨t, e⟩ := (show ∃ t, u = Value.int i t from h1); subst e; exact .int i t
      | inr x => obtain ⟨t, e⟩ := (show ∃ t, u = Value.str x t from h1); subst e; exact .str x t
theorem reads_key {P : Program} {w : World} {H : Hp} {h : Heap} {b : Addr} {ks : List Key} (ok : HOk P w H h) (e : H b = some (.tup (ks.map kV))) : Reads h (.ref b) (py (keyD ks)) [] := by
  obtain ⟨_, its, r, o, h1, h2, n, h3⟩ := (show ObjOk P w H h b (.tup (ks.map kV)) from ok b _ e)
  exact .tuple h1 h2 h3 (by simpa using reads_keys r)
theorem each_of {α β : Type} {R : α → β → Prop} : ∀ {as : List α} {bs : List β}, as.length = bs.length → (∀ (j : Nat) a b, as[j]? = some a → bs[j]? = some b → R a b) → PySem.W.EachIs R as bs
  | [], [], _, _ => .nil
  | [], _ :: _, h, _ => by cases h
  | _ :: _, [], h, _ => by cases h
  | a :: as, b :: bs, h, k => .cons (k 0 a b rfl rfl) (each_of (by simpa using h) fun j a' b' h1 h2 => k (j + 1) a' b' (by simpa using h1) (by simpa using h2))
def keysOf (kvs : List (List Key × V)) : List (List Key) := kvs.map (·.1)
def rSortKT : List V → Hp → VK → Prop := fun vs H Q => ∃ (a : Addr) (kvs : List (List Key × V)), vs = [V.ref a] ∧ H a = some (.dT kvs) ∧ SrtOk (kvs.map fun p => keyD p.1) ∧
  ∀ (p : Addr) (zs : List (Addr × List Key)), H p = none → (∀ z ∈ zs, H z.1 = some (.tup (z.2.map kV))) → zs.map (fun z => keyD z.2) = srtD (kvs.map fun p => keyD p.1) → Q (.ref p) (upd H p (.lst (zs.map fun z => V.ref z.1)))
theorem kt_keys {H : Hp} {kvs : List (List Key × V)} {xs : List (List Key × Addr × Value)} (r : KT H kvs xs) : (kvs.map fun p => keyD p.1) = xs.map (fun x => keyD x.1) ∧ ∀ x ∈ xs, H x.2.1 = some (.tup (x.1.map kV)) := by
  induction r with
  | nil => exact ⟨rfl, fun x hx => by cases hx⟩
  | @cons p q ps qs h t ih =>
    refine ⟨by rw [List.map_cons, List.map_cons, ih.1, h.1], fun x hx => ?_⟩
    rcases List.mem_cons.mp hx with e | hx
    · subst e; rw [← h.1]; exact h.2.1
    · exact ih.2 x hx
theorem cr_sortKT {X : Cx} {k : Nat} (hc : X.calm = true) (hr : Room k X.A) : CallR X (.builtin "sorted") rSortKT := by
  intro pins s σ H vs us Q I r h
  obtain ⟨a, kvs, rfl, ha, ok, q⟩ := h
  rw [Vals.ref1 r]
  have hu := hr.units
  obtain ⟨z, hs, xs, pr, o, es, ep, ho, hx, hdt, he, hn⟩ := (show ObjOk X.prog X.w H s.heap a (.dT kvs) from I.hok a _ ha)
  have hz : es.size = xs.length := by rw [← Array.length_toList, he, List.length_map]
  have hl2 : kvs.length = xs.length := Paired.length pr
  obtain ⟨k1, k2⟩ := kt_keys pr
  let bs : List (Addr × List Key) := xs.map fun x => (x.2.1, x.1)
  have ebs : bs.map (fun b => keyD b.2) = kvs.map fun p => keyD p.1 := by rw [k1]; show (xs.map _).map _ = _; rw [List.map_map]; rfl
  have ebp : bs.map (fun b => py (keyD b.2)) = (kvs.map fun p => keyD p.1).map py := by
    have g : ∀ l : List (Addr × List Key), l.map (fun b => py (keyD b.2)) = (l.map fun b => keyD b.2).map py := fun l => by rw [List.map_map]; rfl
    rw [← ebs]; exact g bs
  have hb : ∀ b ∈ bs, H b.1 = some (.tup (b.2.map kV)) := fun b hb => by
    obtain ⟨x, hx, rfl⟩ := List.mem_map.mp hb
    exact k2 x hx
  refine Calls.call_function_entry kind_sorted plain_sorted entry_sorted (args_sorted1 _) ?_
  unfold Builtin.«sorted»
  refine wpAny_bind (m := checkCount "sorted" 1 1 _) (wpAny_pure ?_)
  refine wpAny_bind (PySem.W.kdu_collect (A := X.A.in1) (kdl_raw hs hx hdt) (I.ok.hd hc) ho (by omega) fun h' tk acc hk hacc => ?_)
  have lb : bs.length = xs.length := List.length_map ..
  have hal : acc.toList.length = bs.length := by rw [Array.length_toList, hacc.1, hz, lb]
  refine wpAny_bind (wpAny_newList ?_ (by rw [hal, lb]; omega))
  have hv : ∀ (j : Nat) (v : Value) (b : Addr × List Key), acc.toList[j]? = some v → bs[j]? = some b → v = Value.ref b.1 := fun j v b h1 h2 => by
    obtain ⟨en, h3, h4⟩ := hacc.2 j v (by rw [← Array.getElem?_toList]; exact h1)
    rw [entry_at he j] at h3
    obtain ⟨x, hx1, hx2⟩ := Option.map_eq_some_iff.mp h3
    have h5 : bs[j]? = some (x.2.1, x.1) := by show (xs.map _)[j]? = _; rw [List.getElem?_map, hx1]; rfl
    rw [h5] at h2
    cases h2
    rw [h4, ← hx2]; rfl
  have hk2 : ∀ b o, s.heap.get? b = some o → (h'.push { cls := .type "list", data := .seq acc.toList.toArray }).get? b = some o := fun b o e => Heap.get?_push_of_some _ (hk b o e)
  have hoL : (h'.push { cls := .type "list", data := .seq acc.toList.toArray }).get? h'.objs.size = some (seqObj "list" acc.toList.toArray 0) := Heap.get?_push_size _ rfl
  have e1 : PySem.W.EachIs (fun (u : Value) (b : Addr × List Key) => u = Value.ref b.1) acc.toList bs := each_of hal hv
  have e2 : PySem.W.EachIs (fun (u : Value) (b : Addr × List Key) => ∃ as, Reads (h'.push { cls := .type "list", data := .seq acc.toList.toArray }) u (py (keyD b.2)) as ∧ h'.objs.size ∉ as) acc.toList bs := each_of hal fun j v b h1 h2 => by
    rw [hv j v b h1 h2]
    exact ⟨[], PyProof.Rows.Reads.keeps hk2 (reads_key I.hok (hb b (List.mem_of_getElem? h2))), fun z => by cases z⟩
  refine wpAny_bind (wpAny_holding (PySem.W.list_sort_data (β := Addr × List Key) (s := { s with heap := h'.push { cls := .type "list", data := .seq acc.toList.toArray }, toks := tk }) (R := fun u b => u = Value.ref b.1) (enc := fun b => py (keyD b.2)) (bs := bs) hoL e1 e2 (by rw [ebp]; exact ok.al) (by rw [ebp]; exact ok.so) (by rw [lb]; omega) (fun b hb' => ?_) fun out g1 g2 => ?_))
  · have : keyD b.2 ∈ kvs.map fun p => keyD p.1 := by rw [← ebs]; exact List.mem_map.mpr ⟨b, hb', rfl⟩
    have := ok.dp _ this
    show X.A.units + 1 + 1 + (py (keyD b.2)).depth < cLine
    omega
  · refine wpAny_pure ⟨_, rfl, ?_⟩
    have hH : H h'.objs.size = none := (I.hok.kept hk).fresh (Nat.le_refl _)
    have hn0 : s.heap.get? h'.objs.size = none := by
      cases q0 : s.heap.get? h'.objs.size with
      | none => rfl
      | some u => exact absurd (Heap.lt_size (hk _ _ q0)) (Nat.lt_irrefl _)
    obtain ⟨c, hc⟩ := sortedHeap_at (vs := acc.toList) (out := out.toArray) hoL
    have ez : (bs.mergeSort (PySem.W.dataLe false fun b => py (keyD b.2))).map (fun b => keyD b.2) = srtD (kvs.map fun p => keyD p.1) := by
      have e0 := List.map_mergeSort (f := fun b : Addr × List Key => keyD b.2) (r := PySem.W.dataLe false fun b : Addr × List Key => py (keyD b.2)) (s := PySem.W.dataLe false py) (l := bs) (fun a _ b _ => rfl)
      rw [e0, ebs]; rfl
    generalize hzs : bs.mergeSort (PySem.W.dataLe false fun b => py (keyD b.2)) = zs at g2 ez
    have hm : ∀ z ∈ zs, z ∈ bs := fun z hz => by rw [← hzs] at hz; exact (List.mergeSort_perm _ _).mem_iff.mp hz
    have hlz : zs.length = bs.length := by rw [← hzs]; exact (List.mergeSort_perm _ _).length_eq
    have vz : ∀ {us : List Value} {zs : List (Addr × List Key)}, PySem.W.EachIs (fun (u : Value) (b : Addr × List Key) => u = Value.ref b.1) us zs → Vals (zs.map fun z => V.ref z.1) us := by
      intro us zs h
      induction h with
      | nil => exact .nil
      | cons h _ ih => exact .cons h ih
    refine ⟨.ref h'.objs.size, _, I.laidN (t' := tk) (o := .lst (zs.map fun z => V.ref z.1)) (fun b u qb => ?_) hn0 hH ⟨?_, out, c, vz g2, hc⟩, rfl, q _ zs hH (fun z hz => hb z (hm z hz)) ez⟩
    · have q1 := hk b u qb
      have hlt := Heap.lt_size q1
      rw [sortedHeap_old (Nat.ne_of_lt hlt) (by rw [size_push']; exact Nat.lt_succ_of_lt hlt)]
      exact Heap.get?_push_of_some _ q1
    · rw [List.length_map, hlz, lb]; omega
/-- the tuples of the heap become the base's -/
def tupB (B H : Hp) : Hp := fun a => match B a with
  | some o => some o
  | none => match H a with
    | some (.tup xs) => some (.tup xs)
    | _ => none
theorem tupB_old {B H : Hp} {a : Addr} {o : HO} (h : B a = some o) : tupB B H a = some o := by unfold tupB; rw [h]
theorem tupB_tup {B H : Hp} {a : Addr} {xs : List V} (e : Ex B H) (h : H a = some (.tup xs)) : tupB B H a = some (.tup xs) := by
  unfold tupB
  cases q : B a with
  | some o => have := e _ _ q; rw [h] at this; exact this.symm
  | none => show (match H a with | some (.tup xs) => some (HO.tup xs) | _ => none) = _; rw [h]
theorem tupB_inv {B H : Hp} {a : Addr} {o : HO} (h : tupB B H a = some o) : B a = some o ∨ ∃ xs, H a = some (.tup xs) ∧ o = .tup xs := by
  unfold tupB at h
  cases q : B a with
  | some o' => rw [q] at h; exact .inl h
  | none =>
    rw [q] at h
    revert h
    show (match H a with | some (.tup xs) => some (HO.tup xs) | _ => none) = some o → _
    split
    · intro z; cases z; exact .inr ⟨_, by assumption, rfl⟩
    · intro z; cases z
theorem Grow.tups {B H : Hp} (e : Ex B H) : Grow B H (tupB B H) H := ⟨fun a o h => tupB_old h, Evl.Ex.refl _, fun a o h => by
  rcases tupB_inv h with z | ⟨xs, z, rfl⟩
  · exact e _ _ z
  · exact z, fun a h => by
  cases q : tupB B H a with
  | none => exact absurd q h
  | some o =>
    rcases tupB_inv q with z | ⟨xs, z, _⟩
    · exact .inl (by rw [z]; exact fun y => nomatch y)
    · exact .inr (.inr ⟨xs, z⟩)⟩
theorem isks_keys {K : PySem.W.Frag} {B : Hp} : ∀ {kvs : List (List Key × V)} {m : DM}, IsKs K B kvs m → (kvs.map fun p => keyD p.1) = m.map fun p => keyD p.1
  | _, _, .nil => rfl
  | _, _, .cons _ h => by rw [List.map_cons, List.map_cons, isks_keys h]
theorem isall_kV {K : PySem.W.Frag} {B : Hp} : ∀ ks : List Key, IsAll K B (ks.map kV) (ks.map kD)
  | [] => .nil
  | .inl i :: ks => .cons (.int i) (isall_kV ks)
  | .inr x :: ks => .cons (.str x) (isall_kV ks)
theorem is_of_key {K : PySem.W.Frag} {B : Hp} {b : Addr} {ks : List Key} (h : B b = some (.tup (ks.map kV))) : Is K B (.ref b) (keyD ks) := .tup h (isall_kV ks)
section
variable {X : Cx} {N : List PySem.Str} {S : Scope} {B0 H0 : Hp} {sds : List SD} {os : List (Addr × OV)} {pos p : Pos} {e : Expr} {k : Nat}
/-- sorted(x), x an owned dict -/
theorem el_sortM (c : Ctx X N S) (hr : Room k X.A) (i j : Nat) {x : PySem.Str} {ad : Addr} {m : DM} {px : Pos} {P : List D → Prop} (hm : X.mg "sorted" = none) (ok : SrtOk (m.map fun p => keyD p.1)) (hP : P (srtD (m.map fun p => keyD p.1))) (hj : os[j]? = some (ad, .dct m) := by rfl) (hi : sds[i]? = some (.v (.ref ad)) := by rfl)
    (hN : N[i]? = some x := by rfl) (hv : visB S x = true := by decide +kernel) (hd : (x == ("__debug__" : PySem.Str)) = false := by decide +kernel) (hcd : (x == ("__classdict__" : PySem.Str)) = false := by decide +kernel)
    (hg : glB S "sorted" = true := by decide +kernel) (he : starEach [.Name x px] X.env = [(false, eval (.Name x px) X.env)] := by rfl) : EL X B0 H0 sds os (.Call (.Name "sorted" p) [.Name x px] [] pos) P := fun B H σ s Q q => by
  refine PE.to (pe_callB (cr_sortKT c.calm hr) (c.gl hg) hm (by decide +kernel) (pa_cons (pe_var (i := i) (by rw [c.hN]; exact hN) (c.vis hv) hd hcd) pa_nil he) (by decide +kernel) (by decide +kernel) he rfl) ?_
  obtain ⟨kvs, hp, hk⟩ := s.ownG hj
  have ek := isks_keys hk
  refine ⟨.ref ad, s.varV hi, ad, kvs, rfl, hp, by rw [ek]; exact ok, fun p zs hn hz ez => ?_⟩
  rw [ek] at ez
  have g1 := Grow.tups s.g.bh
  have bn : tupB B H p = none := Evl.fresh_back g1.bh hn
  refine q p _ (tupB B H) _ _ ⟨g1.b, Evl.Ex.new hn, g1.bh.trans (Evl.Ex.new hn), g1.fr⟩ hn bn upd_same ?_ (ez ▸ hP)
  have al : ∀ zs : List (Addr × List Key), (∀ z ∈ zs, H z.1 = some (.tup (z.2.map kV))) → IsAll X.K (tupB B H) (zs.map fun z => V.ref z.1) (zs.map fun z => keyD z.2) := by
    intro zs
    induction zs with
    | nil => intro _; exact .nil
    | cons z zs ih => intro h; exact .cons (is_of_key (tupB_tup s.g.bh (h z (by simp)))) (ih fun y hy => h y (List.mem_cons_of_mem _ hy))
  exact al zs hz
end
end OB
set_option Elab.async false
set_option linter.all false
set_option maxRecDepth 100000
set_option maxHeartbeats 4000000
namespace OB
open PySem PySem.Spec PyProof.Rows L2
/-! ### is None; slices; places from the end; sum; zip; pop -/
def isNon : D → Bool
  | .non => true
  | _ => false
theorem Is.isNon {K : PySem.W.Frag} {B : Hp} {v : V} {d : D} (h : Is K B v d) : decide (v = .non) = isNon d := by
  cases h <;> first | rfl | exact decide_eq_false (fun z => nomatch z)
section
variable {X : Cx} {N : List PySem.Str} {S scope : Scope} {B0 H0 : Hp} {sds : List SD} {os : List (Addr × OV)} {E : DE} {pos spos p p2 : Pos} {a b e : Expr} {P : D → Prop} {k : Nat}
theorem ex_isN {j} {pos'} (h : EX X B0 H0 sds os e fun d => P (.bl (isNon d))) : EX X B0 H0 sds os (.Compare e [.Is] [.Constant .none j pos'] pos) P := fun B H σ s Q q =>
  PE.to (pe_cmp (pc_isN pe_w)) (h B H σ s _ fun v B1 H1 d g1 i1 pp => q _ B1 H1 _ g1 (by rw [i1.isNon]; exact .bl _) pp)
theorem ex_isNN {j} {pos'} (h : EX X B0 H0 sds os e fun d => P (.bl (!isNon d))) : EX X B0 H0 sds os (.Compare e [.IsNot] [.Constant .none j pos'] pos) P := fun B H σ s Q q =>
  PE.to (pe_cmp (pc_notN pe_w)) (h B H σ s _ fun v B1 H1 d g1 i1 pp => q _ B1 H1 _ g1 (by rw [i1.isNon]; exact .bl _) pp)
/-- an end of a slice -/
structure wO (X : Cx) (e : Option Expr) (σ : L2.St) (H : Hp) (Q : Option Int → Hp → Prop) : Prop where
  run : ∀ (pins : List (Addr × Obj)) (s : Shared), Inv X pins σ H s → wpAny (model X.prog X.w) X.A (evalPart e X.env) (fun u s' => ∃ o H', Inv X pins σ H' s' ∧ IsPart u o ∧ Q o H') X.xe s
theorem po_w {e : Option Expr} : PO X e (wO X e) := ⟨fun pins s _ _ _ I h => h.run pins s I⟩
theorem PO.to {e : Option Expr} {t : TO} {σ : L2.St} {H : Hp} (h : PO X e t) {Q : Option Int → Hp → Prop} (q : t σ H Q) : wO X e σ H Q := ⟨fun pins s I => h.run pins s σ H Q I q⟩
def OX (X : Cx) (B0 H0 : Hp) (sds : List SD) (os : List (Addr × OV)) (e : Option Expr) (P : Option Int → Prop) : Prop := ∀ B H σ, St X.K B0 H0 B H σ sds os → ∀ Q : Option Int → Hp → Prop, (∀ i B' H', Grow B H B' H' → P i → Q i H') → wO X e σ H Q
theorem ox_none {P : Option Int → Prop} (h : P none) : OX X B0 H0 sds os none P := fun B H σ s Q q => PO.to po_none (q none B H (Grow.refl s.g.bh) h)
theorem ox_some {P : Option Int → Prop} (h : EX X B0 H0 sds os e fun d => ∃ i, d = .int i ∧ P (some i)) : OX X B0 H0 sds os (some e) P := fun B H σ s Q q => PO.to (po_some pe_w) (h B H σ s _ fun v B1 H1 d g1 i1 ⟨i, e1, pp⟩ => by
  subst e1; cases i1
  exact ⟨i, rfl, q _ B1 H1 g1 pp⟩)
def cutD (l : List D) (lo hi : Option Int) : List D := (l.drop (HT.sIx l.length 0 lo)).take (HT.sIx l.length l.length hi - HT.sIx l.length 0 lo)
theorem IsAll.drop {K : PySem.W.Frag} {B : Hp} : ∀ (n : Nat) {xs : List V} {l : List D}, IsAll K B xs l → IsAll K B (xs.drop n) (l.drop n)
  | 0, _, _, h => h
  | n + 1, _, _, .nil => .nil
  | n + 1, _, _, .cons _ h => by rw [List.drop_succ_cons, List.drop_succ_cons]; exact h.drop n
theorem IsAll.take {K : PySem.W.Frag} {B : Hp} : ∀ (n : Nat) {xs : List V} {l : List D}, IsAll K B xs l → IsAll K B (xs.take n) (l.take n)
  | 0, _, _, _ => by rw [List.take_zero, List.take_zero]; exact .nil
  | n + 1, _, _, .nil => by rw [List.take_nil, List.take_nil]; exact .nil
  | n + 1, _, _, .cons h1 h => by rw [List.take_succ_cons, List.take_succ_cons]; exact .cons h1 (h.take n)
theorem IsAll.cut {K : PySem.W.Frag} {B : Hp} {xs : List V} {l : List D} (h : IsAll K B xs l) (lo hi : Option Int) : IsAll K B (cutV xs lo hi) (cutD l lo hi) := by
  unfold cutV cutD
  rw [h.len]
  exact (h.drop _).take _
/-- e[lo:hi] of a list: a new list -/
theorem el_slL {lo hi : Option Expr} {P : List D → Prop} (h : EX X B0 H0 sds os e fun d => ∃ l, d = .lst l ∧ OX X B0 H0 sds os lo fun i => OX X B0 H0 sds os hi fun j => P (cutD l i j)) : EL X B0 H0 sds os (.Subscript e (.Slice lo hi none p2) pos) P := fun B H σ s Q q =>
  PE.to (pe_slice sl_list pe_w po_w po_w) (h B H σ s _ fun v B1 H1 d g1 i1 ⟨l, e1, k1⟩ => k1 B1 H1 σ (s.grow g1) _ fun i B2 H2 g2 k2 => k2 B2 H2 σ ((s.grow g1).grow g2) _ fun j B3 H3 g3 pp => by
    subst e1
    cases i1 with
    | @lst a xs _ hs ha =>
      refine ⟨a, xs, rfl, SqL.of (g3.h _ _ (g2.h _ _ (g1.bh _ _ hs))), fun p hp => ?_⟩
      have g := (g1.trans g2).trans g3
      exact q p _ B3 _ _ ⟨g.b, g.h.trans (Evl.Ex.new hp), g.bh.trans (Evl.Ex.new hp), g.fr⟩ (Evl.fresh_back g.h hp) (Evl.fresh_back g.bh hp) upd_same (IsAll.mono (g2.b.trans g3.b) _ _ (ha.cut i j)) pp)
/-- e[lo:hi] of a tuple -/
theorem ex_slT {lo hi : Option Expr} (h : EX X B0 H0 sds os e fun d => ∃ l, d = .tup l ∧ OX X B0 H0 sds os lo fun i => OX X B0 H0 sds os hi fun j => P (.tup (cutD l i j))) : EX X B0 H0 sds os (.Subscript e (.Slice lo hi none p2) pos) P := fun B H σ s Q q =>
  PE.to (pe_slice sl_tupA pe_w po_w po_w) (h B H σ s _ fun v B1 H1 d g1 i1 ⟨l, e1, k1⟩ => k1 B1 H1 σ (s.grow g1) _ fun i B2 H2 g2 k2 => k2 B2 H2 σ ((s.grow g1).grow g2) _ fun j B3 H3 g3 pp => by
    subst e1
    cases i1 with
    | @tup a xs _ hs ha =>
      have g := (g1.trans g2).trans g3
      have hs3 := g3.b _ _ (g2.b _ _ hs)
      have ha3 := IsAll.mono (g2.b.trans g3.b) _ _ ha
      refine ⟨a, xs, rfl, SqT.of (g3.bh _ _ hs3), fun hw => ?_, fun _ p hp => ?_⟩
      · refine q (.ref a) B3 H3 _ g (.tup hs3 ?_) pp
        have e2 : cutD l i j = l := by
          unfold cutD
          rw [← ha.len, hw.1, hw.2, List.drop_zero, Nat.sub_zero, ha.len, List.take_length]
        rw [e2]; exact ha3
      · have g4 := Grow.new (o := .tup (cutV xs i j)) g3.bh hp
        exact q (.ref p) _ _ _ (g.trans g4) (.tup upd_same (IsAll.mono g4.b _ _ (ha3.cut i j))) pp)
/-- an item of a list or tuple by any place -/
def IxN (d : D) (i : Int) (P : D → Prop) : Prop := match d with
  | .lst l => ∃ x, atI l i = some x ∧ P x
  | .tup l => ∃ x, atI l i = some x ∧ P x
  | _ => False
theorem IsAll.atI {K : PySem.W.Frag} {B : Hp} {xs : List V} {l : List D} (h : IsAll K B xs l) {i : Int} {x : D} (hx : atI l i = some x) : ∃ y, atI xs i = some y ∧ Is K B y x := by
  unfold L2.atI at hx ⊢
  rw [h.len]
  obtain ⟨j, h1, h2⟩ := Option.bind_eq_some_iff.mp hx
  obtain ⟨y, hy, iy⟩ := h.get h2
  exact ⟨y, Option.bind_eq_some_iff.mpr ⟨j, h1, hy⟩, iy⟩
theorem ex_ixN (h : EX X B0 H0 sds os a fun d => EX X B0 H0 sds os b fun db => ∃ i, db = .int i ∧ IxN d i P) (hs : PlainIx b := by exact fun _ _ => rfl) : EX X B0 H0 sds os (.Subscript a b pos) P := fun B H σ s Q q =>
  PE.to (pe_ix ix_seq pe_w pe_w hs) (h B H σ s _ fun v B1 H1 d g1 i1 k => k B1 H1 σ (s.grow g1) _ fun w B2 H2 d' g2 i2 ⟨i, e, kx⟩ => by
    subst e; cases i2
    cases i1 with
    | lst hs ha =>
      obtain ⟨x, hx, pp⟩ := kx
      obtain ⟨y, hy, iy⟩ := ha.atI hx
      exact .inl ⟨_, _, _, y, rfl, rfl, SqL.of (g2.bh _ _ (g2.b _ _ hs)), hy, q y B2 H2 x (g1.trans g2) (iy.mono g2.b) pp⟩
    | tup hs ha =>
      obtain ⟨x, hx, pp⟩ := kx
      obtain ⟨y, hy, iy⟩ := ha.atI hx
      exact .inr (.inl ⟨_, _, _, y, rfl, rfl, SqT.of (g2.bh _ _ (g2.b _ _ hs)), hy, q y B2 H2 x (g1.trans g2) (iy.mono g2.b) pp⟩)
    | non => exact kx.elim
    | bl _ => exact kx.elim
    | int _ => exact kx.elim
    | str _ => exact kx.elim
    | ins _ _ => exact kx.elim
    | drw _ => exact kx.elim
    | dct _ _ => exact kx.elim
    | dck _ _ => exact kx.elim
    | rng _ => exact kx.elim
    | tpk _ _ _ _ _ _ => exact kx.elim)
/-- sum of a list of ints -/
theorem ex_sum (c : Ctx X N S) (hm : X.mg "sum" = none) (h : EX X B0 H0 sds os e fun d => ∃ l : List Int, d = .lst (l.map .int) ∧ P (.int l.sum)) (hg : glB S "sum" = true := by decide +kernel) (he : starEach [e] X.env = [(false, eval e X.env)] := by rfl) : EX X B0 H0 sds os (.Call (.Name "sum" p) [e] [] pos) P :=
  ex_callB c (cr_sum c.calm) hm (ea_cons (h.imp fun d ⟨l, hn, hp⟩ => ea_nil fun B H vs eb iv Q q => by
    obtain ⟨v, rfl, j⟩ := call1 iv
    subst hn
    cases j with
    | lst hs ha =>
      rw [ints_of ha] at hs
      exact ⟨_, _, rfl, SqL.of (eb _ _ hs), q _ B H _ (Grow.refl eb) (.int _) hp⟩) he) hg (by decide +kernel) (by decide +kernel) (by decide +kernel) he rfl
end
end OB
set_option Elab.async false
set_option linter.all false
set_option maxRecDepth 100000
set_option maxHeartbeats 4000000
namespace OB
open PySem PySem.Spec PyProof.Rows L2 RZ
/-! ### zip -/
def zipD (l m : List D) : List D := List.zipWith (fun x y => .tup [x, y]) l m
theorem zipD_len (l m : List D) : (zipD l m).length = min l.length m.length := List.length_zipWith ..
theorem zipD_get {l m : List D} {k : Nat} {x y : D} (h1 : l[k]? = some x) (h2 : m[k]? = some y) : (zipD l m)[k]? = some (.tup [x, y]) := by
  unfold zipD
  rw [List.getElem?_zipWith, h1, h2]
section
variable {K : PySem.W.Frag} {B : Hp} {a b : Addr} {xs ys : List V} {l m : List D}
theorem walk_zip (hs : B a = some (.lst xs)) (ht : B b = some (.lst ys)) (h1 : IsAll K B xs l) (h2 : IsAll K B ys m) : Walk K (Itz K a b) B (zipD l m) := by
  refine ⟨fun k H hb hk => ?_, fun k H hb hk => ?_, fun k B2 H2 v H3 hb hb2 hk hy => ?_⟩
  · rw [zipD_len] at hk
    obtain ⟨v, hv, _⟩ := h1.get (List.getElem?_eq_getElem (show k < l.length by omega))
    obtain ⟨w, hw, _⟩ := h2.get (List.getElem?_eq_getElem (show k < m.length by omega))
    exact ⟨xs, ys, v, w, SqL.of (hb _ _ hs), SqL.of (hb _ _ ht), hv, hw⟩
  · rw [zipD_len] at hk
    refine ⟨xs, ys, SqL.of (hb _ _ hs), SqL.of (hb _ _ ht), ?_⟩
    rw [h1.len, h2.len]; omega
  · obtain ⟨T, x, y, e1, hT, e2, g1, g2⟩ := hy
    subst e1; subst e2
    obtain ⟨d, hd, id⟩ := h1.got (g1 xs (SqL.of (hb2 _ _ (hb _ _ hs))))
    obtain ⟨d', hd', id'⟩ := h2.got (g2 ys (SqL.of (hb2 _ _ (hb _ _ ht))))
    have g := Grow.new (o := .tup [x, y]) hb2 hT
    exact ⟨_, _, zipD_get hd hd', g, .tup upd_same (.cons (id.mono (hb.trans g.b)) (.cons (id'.mono (hb.trans g.b)) .nil))⟩
theorem walk_zipT (hs : B a = some (.tup xs)) (ht : B b = some (.tup ys)) (h1 : IsAll K B xs l) (h2 : IsAll K B ys m) : Walk K (ItzT K a b) B (zipD l m) := by
  refine ⟨fun k H hb hk => ?_, fun k H hb hk => ?_, fun k B2 H2 v H3 hb hb2 hk hy => ?_⟩
  · rw [zipD_len] at hk
    obtain ⟨v, hv, _⟩ := h1.get (List.getElem?_eq_getElem (show k < l.length by omega))
    obtain ⟨w, hw, _⟩ := h2.get (List.getElem?_eq_getElem (show k < m.length by omega))
    exact ⟨xs, ys, v, w, SqT.of (hb _ _ hs), SqT.of (hb _ _ ht), hv, hw⟩
  · rw [zipD_len] at hk
    refine ⟨xs, ys, SqT.of (hb _ _ hs), SqT.of (hb _ _ ht), ?_⟩
    rw [h1.len, h2.len]; omega
  · obtain ⟨T, x, y, e1, hT, e2, g1, g2⟩ := hy
    subst e1; subst e2
    obtain ⟨d, hd, id⟩ := h1.got (g1 xs (SqT.of (hb2 _ _ (hb _ _ hs))))
    obtain ⟨d', hd', id'⟩ := h2.got (g2 ys (SqT.of (hb2 _ _ (hb _ _ ht))))
    have g := Grow.new (o := .tup [x, y]) hb2 hT
    exact ⟨_, _, zipD_get hd hd', g, .tup upd_same (.cons (id.mono (hb.trans g.b)) (.cons (id'.mono (hb.trans g.b)) .nil))⟩
end
section
variable {X : Cx} {N : List PySem.Str} {S scope : Scope} {B0 H0 : Hp} {sds : List SD} {os : List (Addr × OV)} {E : DE} {pos spos p p2 : Pos} {a b e : Expr} {k : Nat}
theorem ix_zip (c : Ctx X N S) {P : List D → Prop} {tpos : Pos} {elts : List Expr} {kk : Nat} (hm : X.mg "zip" = none) (h : EX X B0 H0 sds os a fun d => EX X B0 H0 sds os b fun d' => ∃ l m, ((d = .lst l ∧ d' = .lst m) ∨ (d = .tup l ∧ d' = .tup m)) ∧ P (zipD l m)) (hg : glB S "zip" = true := by decide +kernel)
    (hs : starEach [a, b] X.env = (false, eval a X.env) :: starEach [b] X.env := by rfl) (hs2 : starEach [b] X.env = [(false, eval b X.env)] := by rfl) : IX X B0 H0 sds os (.Tuple elts kk tpos) (.Call (.Name "zip" p) [a, b] [] pos) P :=
  ⟨_, pi_zipA (c.gl hg) hm (pa_cons pe_w (pa_cons pe_w pa_nil hs2) hs) hs (by rw [hs2]; rfl), fun B H σ s R q => h B H σ s _ fun v B1 H1 d g1 i1 k => k B1 H1 σ (s.grow g1) _ fun w B2 H2 d' g2 i2 ⟨l, m, hd, p⟩ => by
    rcases hd with ⟨rfl, rfl⟩ | ⟨rfl, rfl⟩
    · cases i1 with
      | lst hs1 ha1 =>
        cases i2 with
        | lst ht ha2 =>
          have hs3 := g2.b _ _ hs1
          exact ⟨_, _, _, _, rfl, .inl ⟨SqL.of (g2.bh _ _ hs3), SqL.of (g2.bh _ _ ht), q _ B2 H2 _ (g1.trans g2) p (walk_zip hs3 ht (IsAll.mono g2.b _ _ ha1) ha2)⟩⟩
    · cases i1 with
      | tup hs1 ha1 =>
        cases i2 with
        | tup ht ha2 =>
          have hs3 := g2.b _ _ hs1
          exact ⟨_, _, _, _, rfl, .inr ⟨SqT.of (g2.bh _ _ hs3), SqT.of (g2.bh _ _ ht), q _ B2 H2 _ (g1.trans g2) p (walk_zipT hs3 ht (IsAll.mono g2.b _ _ ha1) ha2)⟩⟩⟩
/-- x = ys.pop() of an owned list -/
theorem g1_popSet (c : CtxD X N S) (i j i' : Nat) {x y : PySem.Str} {ad : Addr} {l : List D} {px py pa pc : Pos} (h : ∃ d, l.getLast? = some d ∧ E.nx (sds.set i' (.d d)) (os.set j (ad, .lst l.dropLast))) (hj : os[j]? = some (ad, .lst l) := by rfl) (hi : sds[i]? = some (.v (.ref ad)) := by rfl)
    (hN : N[i]? = some y := by rfl) (hv : visB S y = true := by decide +kernel) (hd : (y == ("__debug__" : PySem.Str)) = false := by decide +kernel) (hcd : (y == ("__classdict__" : PySem.Str)) = false := by decide +kernel)
    (hN2 : N[i']? = some x := by rfl) (hv2 : locB S x = true := by decide +kernel)
    (hs : swapsWith (.Call (.Attribute (.Name y py) "pop" pa) [] [] pc) (some (.Name x px)) pos.line X.env = pure false := by rfl) (hbase : attributeBase (.Name y py) "pop" X.env (eval (.Name y py) X.env) = eval (.Name y py) X.env := by rfl) (hline : (pa.endLine == pc.line) = true := by rfl) :
    Go1 X B0 H0 sds os E (.Assign [.Name x px] (.Call (.Attribute (.Name y py) "pop" pa) [] [] pc) pos) := fun A B H σ ea s => by
  refine PS.to (ps_set (i := i') (by rw [c.hN]; exact c.nd) (by rw [c.hN]; exact hN2) (c.toCtx.loc hv2) (pe_bm0 PySem.F.plainAttrs_list PySem.F.slot_list_pop PySem.F.type_list_pop mt_pop (pe_var (i := i) (by rw [c.hN]; exact hN) (c.toCtx.vis hv) hd hcd) hbase hline) hs c.locf) ?_
  obtain ⟨xs, hp, ha⟩ := s.ownAt hj
  obtain ⟨d, hd, k⟩ := h
  have hl := List.getLast?_eq_getElem? (l := l)
  rw [hd] at hl
  obtain ⟨v, hv, iv⟩ := ha.get hl.symm
  refine ⟨.ref ad, s.varV hi, .inl ⟨rfl, _, SqL.of hp⟩, ad, xs, v, rfl, rfl, hp, by rw [ha.len]; exact hv, ?_⟩
  have ha2 : IsAll X.K B xs.dropLast l.dropLast := by
    rw [List.dropLast_eq_take, List.dropLast_eq_take, ha.len]; exact ha.take _
  exact ⟨B, _, _, ea, (s.putAt hj ha2).set iv, k⟩
end
end OB
set_option Elab.async false
set_option linter.all false
set_option maxRecDepth 100000
set_option maxHeartbeats 4000000
namespace OB
open PySem PySem.Spec PyProof.Rows L2
/-! ### dicts whose keys are ints or texts -/
abbrev DK := List (Key × D)
def valK (m : DK) (k : Key) : Option D := (m.find? fun kv => decide (kv.1 = k)).map (·.2)
def putKD (m : DK) (k : Key) (d : D) : DK := if (m.any fun kv => decide (kv.1 = k)) = true then m.map (fun kv => if kv.1 = k then (kv.1, d) else kv) else m ++ [(k, d)]
theorem valK_cons (p : Key × D) (m : DK) (k : Key) : valK (p :: m) k = if p.1 = k then some p.2 else valK m k := by
  unfold valK
  rw [List.find?_cons]
  by_cases e : p.1 = k
  · rw [if_pos e, decide_eq_true e]; rfl
  · rw [if_neg e, decide_eq_false e]
theorem valK_any (k : Key) : ∀ m : DK, (m.any fun kv => decide (kv.1 = k)) = (valK m k).isSome
  | [] => rfl
  | p :: m => by
    rw [List.any_cons, valK_cons, valK_any k m]
    by_cases e : p.1 = k
    · rw [if_pos e, decide_eq_true e, Bool.true_or]; rfl
    · rw [if_neg e, decide_eq_false e, Bool.false_or]
theorem valK_mem {k : Key} : ∀ {m : DK}, (valK m k).isSome = true ↔ k ∈ m.map (·.1)
  | [] => by simp [valK]
  | p :: m => by
    rw [valK_cons, List.map_cons, List.mem_cons]
    by_cases e : p.1 = k
    · rw [if_pos e]; simp [e]
    · rw [if_neg e, valK_mem (m := m)]
      constructor
      · exact .inr
      · rintro (z | z)
        · exact absurd z.symm e
        · exact z
theorem putKD_new {m : DK} {k : Key} {d : D} (h : valK m k = none) : putKD m k d = m ++ [(k, d)] := by
  unfold putKD
  rw [valK_any, h]; rfl
theorem valK_app (m : DK) (q : Key × D) (j : Key) : valK (m ++ [q]) j = (valK m j).or (if q.1 = j then some q.2 else none) := by
  induction m with
  | nil => rw [List.nil_append, valK_cons]; rfl
  | cons p m ih =>
    rw [List.cons_append, valK_cons, valK_cons, ih]
    by_cases e : p.1 = j
    · rw [if_pos e, if_pos e]; rfl
    · rw [if_neg e, if_neg e]
theorem putKD_len (m : DK) (k : Key) (d : D) : (putKD m k d).length ≤ m.length + 1 := by
  unfold putKD
  split
  · rw [List.length_map]; omega
  · rw [List.length_append]; simp
section
variable {K : PySem.W.Frag} {B : Hp}
theorem IsKk.len : ∀ {kvs : List (Key × V)} {m : DK}, IsKk K B kvs m → kvs.length = m.length
  | _, _, .nil => rfl
  | _, _, .cons _ h => by rw [List.length_cons, List.length_cons, h.len]
theorem IsKk.app : ∀ {kvs ws : List (Key × V)} {m n : DK}, IsKk K B kvs m → IsKk K B ws n → IsKk K B (kvs ++ ws) (m ++ n)
  | _, _, _, _, .nil, h => h
  | _, _, _, _, .cons h1 h2, h => .cons h1 (h2.app h)
theorem IsKk.any (k : Key) : ∀ {kvs : List (Key × V)} {m : DK}, IsKk K B kvs m → (kvs.any fun kv => decide (kv.1 = k)) = (m.any fun kv => decide (kv.1 = k))
  | _, _, .nil => rfl
  | _, _, .cons _ h => by rw [List.any_cons, List.any_cons, h.any k]
theorem IsKk.repl (k : Key) {v : V} {d : D} (hv : Is K B v d) : ∀ {kvs : List (Key × V)} {m : DK}, IsKk K B kvs m → IsKk K B (kvs.map fun kv => if kv.1 = k then (kv.1, v) else kv) (m.map fun kv => if kv.1 = k then (kv.1, d) else kv)
  | _, _, .nil => .nil
  | _, _, .cons (k := k1) h1 h => by
    rw [List.map_cons, List.map_cons]
    by_cases e : k1 = k
    · rw [if_pos e, if_pos e]; exact .cons hv (h.repl k hv)
    · rw [if_neg e, if_neg e]; exact .cons h1 (h.repl k hv)
theorem IsKk.put {kvs : List (Key × V)} {m : DK} (h : IsKk K B kvs m) (k : Key) {v : V} {d : D} (hv : Is K B v d) : IsKk K B (putK kvs k v) (putKD m k d) := by
  unfold putK putKD
  rw [h.any k]
  by_cases e : (m.any fun kv => decide (kv.1 = k)) = true
  · rw [if_pos e, if_pos e]; exact h.repl k hv
  · rw [if_neg e, if_neg e]; exact h.app (.cons hv .nil)
theorem IsKk.val (k : Key) : ∀ {kvs : List (Key × V)} {m : DK}, IsKk K B kvs m → (valK m k = none → valV kvs k = none) ∧ ∀ d, valK m k = some d → ∃ v, valV kvs k = some v ∧ Is K B v d
  | _, _, .nil => ⟨fun _ => rfl, fun d h => by simp [valK] at h⟩
  | _, _, .cons (k := k1) (v := v1) (vs := vs1) h1 h => by
    rw [valK_cons]
    by_cases e : k1 = k
    · have ev : valV ((k1, v1) :: vs1) k = some v1 := valV_pos e
      rw [if_pos e, ev]
      exact ⟨fun z => (by cases z), fun d z => by cases z; exact ⟨_, rfl, h1⟩⟩
    · have ev : valV ((k1, v1) :: vs1) k = valV vs1 k := valV_neg e
      rw [if_neg e, ev]
      exact h.val k
theorem IsKk.isSome (k : Key) {kvs : List (Key × V)} {m : DK} (h : IsKk K B kvs m) : (valV kvs k).isSome = (valK m k).isSome := by
  cases e : valK m k with
  | none => rw [(h.val k).1 e]; rfl
  | some d => obtain ⟨v, q, _⟩ := (h.val k).2 d e; rw [q]; rfl
end
/-- the dict of a comprehension -/
def dcM {α : Type} (κ : α → Key) (g : α → D) (L : List α) : DK := L.foldl (fun m x => putKD m (κ x) (g x)) []
theorem dcM_take {α : Type} {κ : α → Key} {g : α → D} {L : List α} {k : Nat} {x : α} (h : L[k]? = some x) : dcM κ g (L.take (k + 1)) = putKD (dcM κ g (L.take k)) (κ x) (g x) := by
  unfold dcM
  rw [List.take_succ, h, List.foldl_append] <;> rfl
theorem dcM_len {α : Type} {κ : α → Key} {g : α → D} (L : List α) : (dcM κ g L).length ≤ L.length := by
  unfold dcM
  have h : ∀ (L : List α) (m : DK), (L.foldl (fun m x => putKD m (κ x) (g x)) m).length ≤ m.length + L.length := by
    intro L
    induction L with
    | nil => intro m; exact Nat.le_refl _
    | cons x L ih =>
      intro m
      have h1 := ih (putKD m (κ x) (g x))
      have h2 := putKD_len m (κ x) (g x)
      rw [List.foldl_cons, List.length_cons]; omega
  have := h L []
  simpa using this
/-- unlike keys: the pairs in their order -/
theorem dcM_map {α : Type} {κ : α → Key} {g : α → D} (L : List α) (hn : (L.map κ).Nodup) : dcM κ g L = L.map fun x => (κ x, g x) := by
  unfold dcM
  have h : ∀ (L : List α) (m : DK), (m.map (·.1) ++ L.map κ).Nodup → L.foldl (fun m x => putKD m (κ x) (g x)) m = m ++ L.map fun x => (κ x, g x) := by
    intro L
    induction L with
    | nil => intro m _; simp
    | cons x L ih =>
      intro m hn
      have hx : valK m (κ x) = none := by
        cases q : valK m (κ x) with
        | none => rfl
        | some d =>
          have hm : κ x ∈ m.map (·.1) := valK_mem.mp (by rw [q]; rfl)
          exact absurd rfl ((List.nodup_append.mp hn).2.2 _ hm (κ x) (by simp))
      rw [List.foldl_cons, putKD_new hx, ih _ (by simpa [List.append_assoc] using hn), List.map_cons, List.append_assoc]; rfl
  simpa using h L [] (by simpa using hn)
section
variable {X : Cx} {N : List PySem.Str} {S scope : Scope} {B0 H0 : Hp} {sds : List SD} {os : List (Addr × OV)} {E : DE} {pos spos p p2 : Pos} {a b e kx vx tg iter : Expr} {P : D → Prop} {k : Nat}
def DcOk0 (X : Cx) (scope : Scope) (B0 H0 : Hp) (sds : List SD) (os : List (Addr × OV)) (t : Tg) (vs : List Nat) (kx vx : Expr) (P : D → Prop) (l : List D) : Prop :=
  ∃ (α : Type) (L : List α) (enc : α → D) (κ : α → Key) (g : α → D), l = L.map enc ∧ L.length ≤ 100000 ∧ (∀ x ∈ L, t.put (enc x) (wipeS sds vs) fun s' => ∀ X', Blk X scope X' → EX X' B0 H0 s' os kx (· = kD (κ x)) ∧ EX X' B0 H0 s' os vx (· = g x)) ∧ P (.dck (dcM κ g L))
/-- {kx: vx for tg in iter}, its keys ints or texts -/
theorem ex_dc0 (c : Ctx X N S) (own : List (PySem.Str × Nat)) (t : Tg) (hg : ∀ X', Blk X scope X' → PG X' tg (t.r X'.K))
    (hi : IX X B0 H0 sds os tg iter (DcOk0 X scope B0 H0 sds os t (own.map (·.2)) kx vx P))
    (hb : blkC N S scope own = true := by decide +kernel) (hv : (t.idx.all fun i => decide (i ∈ own.map (·.2))) = true := by decide) (hs : ∀ x, foldedSetIterable iter X.env x = pure x := by intro _; rfl) :
    EX X B0 H0 sds os (.DictComp kx vx [⟨tg, iter, [], 0⟩] scope pos) P := fun B H σ s Q q => by
  obtain ⟨wi, hpi, hw⟩ := hi
  have hv' : ∀ i ∈ t.idx, i ∈ own.map (·.2) := fun i h => of_decide_eq_true (List.all_eq_true.mp hv i h)
  refine PE.to (pe_dc (g := t.r X.K) (tt := tYes) (tk := fun σ H Q => ∀ X', Blk X scope X' → wE X' kx σ H Q) (tv := fun σ H Q => ∀ X', Blk X scope X' → wE X' vx σ H Q) c.calm (by rw [c.hN]; exact c.nd) hpi (blkOk_by (by rw [c.hN, c.hS]; exact hb)) (fun s H C cl fp => hg _ ⟨s, H, C, cl, fp, rfl⟩) (fun _ _ _ _ _ => pts_nil)
    (fun s H C cl fp => ⟨fun pins sh σ' H' Q' I h => (h _ ⟨s, H, C, cl, fp, rfl⟩).run pins sh I⟩) (fun s H C cl fp => ⟨fun pins sh σ' H' Q' I h => (h _ ⟨s, H, C, cl, fp, rfl⟩).run pins sh I⟩) hs) ?_
  refine hw B H σ s _ fun J B1 H1 l g1 ⟨α, L, enc, κ, g, hl, hz, ht, hp⟩ wk => ?_
  have s1 := s.grow g1
  intro Dl hD
  have ll : l.length = L.length := by rw [hl, List.length_map]
  refine ⟨fun k m H' => m = L.length - k ∧ k ≤ L.length ∧ ∃ B' kvs, Grow B1 H1 B' H' ∧ B' Dl = none ∧ H' Dl = some (.dK kvs) ∧ IsKk X.K B' kvs (dcM κ g (L.take k)), ⟨L.length, by simp, Nat.zero_le _, B1, [], ⟨Evl.Ex.refl _, Evl.Ex.new hD, g1.bh.trans (Evl.Ex.new hD), fun _ h => .inl h⟩, Evl.fresh_back g1.bh hD, upd_same, .nil⟩, ?_⟩
  rintro k m H' ⟨rfl, hk, B', kvs, gr, b', h', al⟩
  by_cases hlt : k < L.length
  · refine .inr ⟨wk.go k H' (gr.b.trans gr.bh) (by rw [ll]; exact hlt), fun H2 => k + 1 ≤ L.length ∧ ∃ B2 ys, Grow B1 H1 B2 H2 ∧ B2 Dl = none ∧ H2 Dl = some (.dK ys) ∧ IsKk X.K B2 ys (dcM κ g (L.take (k + 1))), fun H2 ⟨hk2, h2⟩ => ⟨L.length - (k + 1), by omega, rfl, hk2, h2⟩, fun x H2 hy => ?_⟩
    obtain ⟨d, B2, hd, g2, i2⟩ := wk.yld k B' H' x H2 gr.b gr.bh (by rw [ll]; exact hlt) hy
    obtain ⟨y, hy'⟩ : ∃ y, L[k]? = some y := ⟨_, List.getElem?_eq_getElem hlt⟩
    have ed : d = enc y := by
      rw [hl, List.getElem?_map, hy'] at hd
      exact (Option.some.inj hd).symm
    subst ed
    have ym : y ∈ L := List.mem_of_getElem? hy'
    have gr2 := gr.trans g2
    have s2 := (s1.grow gr2).wipe (own.map (·.2))
    have h2 : H2 Dl = some (.dK kvs) := g2.h _ _ h'
    have b2 : B2 Dl = none := g2.out b' h'
    refine Tg.runW (vv := own.map (·.2)) hv' s2 i2 (ht y ym) fun σ3 sds3 we s3 kk => ⟨we.trans wipe_wipe, ?_⟩
    unfold tYes
    dsimp only
    rw [if_pos rfl]
    intro X' bx
    have hk' : X'.K = X.K := by obtain ⟨_, _, _, _, _, rfl⟩ := bx; rfl
    obtain ⟨ek, _⟩ := kk X' bx
    have s3' := s3
    rw [← hk'] at s3'
    refine ek B2 H2 σ3 s3' _ fun w B3 H3 d3 g3 i3 e3 => ?_
    subst e3
    intro X2 bx2
    have hk2 : X2.K = X.K := by obtain ⟨_, _, _, _, _, rfl⟩ := bx2; rfl
    obtain ⟨_, ev⟩ := kk X2 bx2
    have s4 := s3.grow g3
    rw [← hk2] at s4
    refine ev B3 H3 σ3 s4 _ fun w2 B4 H4 d4 g4 i4 e4 => ?_
    subst e4
    rw [hk2] at i4
    have g34 := g3.trans g4
    have gr4 := gr2.trans g34
    have h4 : H4 Dl = some (.dK kvs) := g34.h _ _ h2
    have b4 : B4 Dl = none := g34.out b2 h2
    have al4 := IsKk.mono (g2.trans g34).b _ _ al
    have len : kvs.length ≤ 100000 := by
      rw [al.len]
      refine Nat.le_trans (dcM_len _) ?_
      rw [List.length_take]; omega
    refine ⟨kvs, κ y, is_kD i3, h4, Nat.lt_of_le_of_lt len (by decide), hlt, B4, putK kvs (κ y) w2, ⟨gr4.b, gr4.h.mut hD, Evl.Ex.mut gr4.bh b4, gr4.fr⟩, b4, upd_same, ?_⟩
    rw [dcM_take hy']
    exact al4.put (κ y) i4
  · have e : k = L.length := by omega
    subst e
    refine .inl ⟨wk.stop _ H' (gr.b.trans gr.bh) (by rw [ll]; exact Nat.le_refl _), ?_⟩
    rw [List.take_length] at al
    have e1 : Ex B' (upd B' Dl (.dK kvs)) := Evl.Ex.new b'
    have g := g1.trans gr
    refine q _ (upd B' Dl (.dK kvs)) H' _ ⟨g.b.trans e1, g.h, ex_join g.bh h', fun a ha => ?_⟩ (.dck upd_same (IsKk.mono e1 _ _ al)) hp
    by_cases hb : a = Dl
    · subst hb; exact .inr (.inl (Evl.fresh_back g1.h hD))
    · rw [upd_ne hb] at ha; exact g.fr a ha
/-- d[e], e in d of such a dict -/
theorem ex_dgetK (hr : Room k X.A) (h : EX X B0 H0 sds os a fun d => EX X B0 H0 sds os e fun dk => ∃ j m y, dk = kD j ∧ d = .dck m ∧ valK m j = some y ∧ P y) (hs : NoSl e := by exact fun _ _ => rfl) : EX X B0 H0 sds os (.Subscript a e pos) P := fun B H σ s Q q => by
  have hu := hr.units
  refine PE.to (pe_dget (by omega) pe_w pe_w hs) ?_
  refine h B H σ s _ fun v B1 H1 d g1 i1 k1 => k1 B1 H1 σ (s.grow g1) _ fun w B2 H2 d2 g2 i2 ⟨j, m, y, e1, e2, hy, pp⟩ => ?_
  subst e1 e2
  obtain rfl := is_kD i2
  cases i1 with
  | dck hs hk =>
    obtain ⟨u, hu2, iu⟩ := (hk.val j).2 y hy
    refine ⟨_, u, rfl, ?_, q u B2 H2 y (g1.trans g2) (iu.mono g2.b) pp⟩
    rw [← hu2]
    exact DGet.k (g2.bh _ _ (g2.b _ _ hs))
theorem ex_dinK (hr : Room k X.A) (h : EX X B0 H0 sds os e fun dk => EX X B0 H0 sds os a fun d => ∃ j m, dk = kD j ∧ d = .dck m ∧ P (.bl (valK m j).isSome)) (hm : behindInMarks .In a = false := by rfl) : EX X B0 H0 sds os (.Compare e [.In] [a] pos) P := fun B H σ s Q q => by
  have hu := hr.units
  refine PE.to (pe_cmp (pc_din (by omega) pe_w pe_w) hm) ?_
  refine h B H σ s _ fun v B1 H1 d g1 i1 k1 => k1 B1 H1 σ (s.grow g1) _ fun w B2 H2 d2 g2 i2 ⟨j, m, e1, e2, pp⟩ => ?_
  subst e1 e2
  obtain rfl := is_kD i1
  cases i2 with
  | dck hs hk => exact ⟨_, _, rfl, DGet.k (g2.bh _ _ hs), q _ B2 H2 _ (g1.trans g2) (by rw [hk.isSome]; exact .bl _) pp⟩
theorem ex_dninK (hr : Room k X.A) (h : EX X B0 H0 sds os e fun dk => EX X B0 H0 sds os a fun d => ∃ j m, dk = kD j ∧ d = .dck m ∧ P (.bl (!(valK m j).isSome))) (hm : behindInMarks .NotIn a = false := by rfl) : EX X B0 H0 sds os (.Compare e [.NotIn] [a] pos) P := fun B H σ s Q q => by
  have hu := hr.units
  refine PE.to (pe_cmp (pc_dnotin (by omega) pe_w pe_w) hm) ?_
  refine h B H σ s _ fun v B1 H1 d g1 i1 k1 => k1 B1 H1 σ (s.grow g1) _ fun w B2 H2 d2 g2 i2 ⟨j, m, e1, e2, pp⟩ => ?_
  subst e1 e2
  obtain rfl := is_kD i1
  cases i2 with
  | dck hs hk => exact ⟨_, _, rfl, DGet.k (g2.bh _ _ hs), q _ B2 H2 _ (g1.trans g2) (by rw [hk.isSome]; exact .bl _) pp⟩
end
end OB
set_option Elab.async false
set_option linter.all false
set_option maxRecDepth 100000
set_option maxHeartbeats 4000000
namespace OB
open PySem PySem.Spec PyProof.Rows L2
/-! ### ranges that have a name -/
section
variable {X : Cx} {tg e : Expr} {te : TE}
def iRngD (te : TE) : TI := fun σ H R => te σ H fun x H1 => ∃ a lo hi, x = .ref a ∧ H1 a = some (.rng lo hi) ∧ (-(2 ^ 62) ≤ lo ∧ lo < 2 ^ 62 ∧ -(2 ^ 62) ≤ hi ∧ hi < 2 ^ 62) ∧ R (Itr lo (hi - lo).toNat) H1
theorem pi_rngD (he : PE X e te) : PI X tg e (iRngD te) := by
  refine ⟨fun pins s σ H R I h => ?_⟩
  refine thn (he.run pins s σ H _ I h) fun v s1 ⟨x, H1, I1, r1, a, lo, hi, ex, ha, ⟨b1, b2, b3, b4⟩, q⟩ => ?_
  subst ex
  cases r1
  obtain ⟨t, u, w, ho⟩ := (show ObjOk X.prog X.w H1 s1.heap a (.rng lo hi) from I1.hok a _ ha)
  refine wpAny_pyIter_range (r := a) (t := t) (u := u) (v := w) ho (small_one b1 b2 b3 b4) ?_
  have hz := Nat.le_refl s1.heap.objs.size
  refine ⟨s1.heap.objs.size, [s1.heap.objs.size], _, _, H1, rfl, I1.kept (t' := s1.toks) fun b o z => Heap.get?_push_of_some _ z, turn_range _ lo (hi - lo).toNat, ?_, fun b hb => ?_, q⟩
  · have n0 : lo + ((0 : Nat) : Int) * 1 = lo := by omega
    have n1 : (((hi - lo).toNat : Nat) : Int) - ((0 : Nat) : Int) = Builtin.Range.rangeSize lo hi 1 := by
      rw [rangeSize_one]
      split <;> omega
    unfold IsRangeIter
    rw [n0, n1]
    exact Heap.get?_push_size _ rfl
  · rw [List.mem_singleton.mp hb]
    exact I1.fpOk hz (I1.hok.fresh hz)
end
section
variable {X : Cx} {N : List PySem.Str} {S : Scope} {B0 H0 : Hp} {sds : List SD} {os : List (Addr × OV)} {pos p : Pos} {a b e tg : Expr}
theorem ix_rngD {P : List D → Prop} (h : EX X B0 H0 sds os e fun d => ∃ lo hi, d = .rng lo hi ∧ (-(2 ^ 62) ≤ lo ∧ lo < 2 ^ 62 ∧ -(2 ^ 62) ≤ hi ∧ hi < 2 ^ 62) ∧ P (rngD lo (hi - lo).toNat)) : IX X B0 H0 sds os tg e P := ⟨_, pi_rngD pe_w, fun B H σ s R q => h B H σ s _ fun v B1 H1 d g1 i1 ⟨lo, hi, e1, hb, pp⟩ => by
  subst e1
  cases i1 with
  | rng hs => exact ⟨_, lo, hi, rfl, g1.bh _ _ hs, hb, q _ B1 H1 _ g1 pp walk_rng⟩⟩
/-- range(a, b), kept -/
theorem ex_range2 (c : Ctx X N S) {P : D → Prop} (hm : X.mg "range" = none) (h : EX X B0 H0 sds os a fun d => EX X B0 H0 sds os b fun d' => ∃ lo hi : Int, d = .int lo ∧ d' = .int hi ∧ P (.rng lo hi)) (hg : glB S "range" = true := by decide +kernel)
    (hs : starEach [a, b] X.env = (false, eval a X.env) :: starEach [b] X.env := by rfl) (hs2 : starEach [b] X.env = [(false, eval b X.env)] := by rfl) : EX X B0 H0 sds os (.Call (.Name "range" p) [a, b] [] pos) P := fun B H σ s Q q => by
  refine PE.to (pe_callTy cr_range2 (c.gl hg) hm (by decide +kernel) (pa_cons pe_w (pa_cons pe_w pa_nil hs2) hs) (by decide +kernel) (by decide +kernel) hs (by rw [hs2]; rfl)) ?_
  refine h B H σ s _ fun v B1 H1 d g1 i1 k => k B1 H1 σ (s.grow g1) _ fun w B2 H2 d' g2 i2 ⟨lo, hi, e1, e2, pp⟩ => ?_
  subst e1; subst e2
  cases i1; cases i2
  refine ⟨lo, hi, rfl, fun p hp => ?_⟩
  have g3 := Grow.new (o := .rng lo hi) g2.bh hp
  exact q (.ref p) _ _ _ ((g1.trans g2).trans g3) (.rng upd_same) pp
end
end OB
set_option Elab.async false
set_option linter.all false
set_option maxRecDepth 100000
set_option maxHeartbeats 4000000
namespace OB
open PySem PySem.Spec PyProof.Rows L2
/-! ### enumerate of a tuple -/
theorem meets_enumT (t : Addr) (items : Array Value) :
    Meets (Builtin.«enumerate.__new__» ⟨[.type "enumerate", .ref t], []⟩) (fun _ R s => s.heap.IsTuple t items ∧
      R (.ok (.ret (.ref (s.heap.push { cls := .type "tuple_iterator", data := .fields #[.ref t, .int 0 0] }).objs.size)))
        { s with heap := (s.heap.push { cls := .type "tuple_iterator", data := .fields #[.ref t, .int 0 0] }).push { cls := .type "enumerate", data := .fields #[.none, .bool false, .ref s.heap.objs.size, rawInt 0, .none, .none] } }) :=
  .of_wp fun prog w A R s h => by
    obtain ⟨hp, g, d, tk, os⟩ := s
    obtain ⟨h1, h⟩ := h
    have hsub := sub_enumerate
    have go : ∀ {A' : Around} {E : Value → Shared → Prop} {Q : Value → Shared → Prop}, Q (.ref hp.objs.size) ⟨hp.push { cls := .type "tuple_iterator", data := .fields #[.ref t, .int 0 0] }, g, d, tk, os⟩ → wpAny (model prog w) A' (pyIter (.ref t)) Q E ⟨hp, g, d, tk, os⟩ :=
      fun q => wpAny_pyIter_tuple (s := ⟨hp, g, d, tk, os⟩) h1 q
    wp_walk using go
    refine wpAny_stack_any fun st => wpAny_pure ?_
    split
    · rename_i c _ _ _ _ _
      cases (c == Value.type "enumerate") <;> (wp_walk using go; exact ⟨_, rfl, h⟩)
    · wp_walk using go
      exact ⟨_, rfl, h⟩
theorem call_enumT {prog : Program} {w : World} {A : Around} {E : Value → Shared → Prop} {s : Shared} {t : Addr} {items : Array Value} {Q : Value → Shared → Prop} (h1 : s.heap.IsTuple t items)
    (h : ∀ h', IsEnum h' (s.heap.objs.size + 1) s.heap.objs.size 0 .none → h'.IsTupleIter s.heap.objs.size t 0 → (∀ b o, s.heap.get? b = some o → h'.get? b = some o) → Q (.ref (s.heap.objs.size + 1)) { s with heap := h' }) :
    wpAny (model prog w) A (call (.type "enumerate") [.ref t]) Q E s := by
  refine callType_new F.called_enumerate (by decide) (F.typeCall_enumerate_1 _) (F.newCall_enumerate_1 _) (fun obj => F.args_object_init_2 obj _) F.entry_enumerate_new (meets_enumT t items) ⟨h1, ?_⟩
  generalize hg : s.heap.push { cls := .type "tuple_iterator", data := .fields #[.ref t, .int 0 0] } = g
  have gz : g.objs.size = s.heap.objs.size + 1 := by rw [← hg]; exact Heap.size_push ..
  have gt : g.get? s.heap.objs.size = some { cls := .type "tuple_iterator", data := .fields #[.ref t, .int 0 0] } := by rw [← hg]; exact Heap.get?_push_size _ rfl
  have gk : ∀ b o, s.heap.get? b = some o → g.get? b = some o := fun b o x => by rw [← hg]; exact Heap.get?_push_of_some _ x
  have he : IsEnum (g.push { cls := .type "enumerate", data := .fields #[.none, .bool false, .ref s.heap.objs.size, rawInt 0, .none, .none] }) g.objs.size s.heap.objs.size 0 .none := Heap.get?_push_size g rfl
  rw [gz] at he ⊢
  exact ⟨⟨_, he, rfl⟩, h _ he ⟨_, Heap.get?_push_of_some _ gt, rfl, rfl⟩ fun b o x => Heap.get?_push_of_some _ (gk b o x)⟩
theorem next_enumT_end {prog : Program} {w : World} {A : Around} {E : Value → Shared → Prop} {s : Shared} {e it a : Addr} {n : Int} {i : Nat} {items : Array Value} {old : Value} {Q : Option Value → Shared → Prop} (hh : A.handled = none) (he : IsEnum s.heap e it n old) (hit : s.heap.IsTupleIter it a i) (ht : s.heap.IsTuple a items) (hx : items[i]? = none)
    (hQ : ∀ h', Heap.ExtBut it s.heap h' → Q none { s with heap := h' }) : wpAny (model prog w) A (pyNext (.ref e)) Q E s := by
  have ty : s.TypeIs (.ref e) "enumerate" := ⟨_, he, rfl⟩
  unfold pyNext
  refine wpAny_bind (wpAny_attempt (wpAny_callSpecial?_slot (name := Str.ofString "__next__") ty F.slot_enumerate_next (wpAny_call_entry F.slot_enumerate_next ty F.entry_enumerate_next ?_ (F.args_enumerate_next_1 _))))
  show wpAny _ _ (field (.ref e) 2 >>= _) _ _ _
  refine wpAny_bind (wpAny_field he rfl (x := .ref it) rfl (wpAny_bind ?_))
  refine wpAny_nextOf_tuple_end (A := A.in1) hh hit ht hx fun h' x he' ⟨o, ho, hc⟩ => ?_
  exact wpAny_bind (wpAny_isInstance (T := "StopIteration") (b := true) ⟨o, ho, hc⟩ isSubtype_stop (wpAny_pure (hQ _ he')))
def IteT (K : PySem.W.Frag) (a : Addr) : It :=
  ⟨fun i H => ∃ (xs : List V) (x : V), SqT K H a xs ∧ xs[i]? = some x, fun i H v H' => ∃ T x, v = .ref T ∧ H T = none ∧ H' = upd H T (.tup [.int (i : Nat), x]) ∧ ∀ xs, SqT K H a xs → xs[i]? = some x, fun i H => ∃ xs : List V, SqT K H a xs ∧ xs.length ≤ i⟩
theorem turn_enumT {P : Program} {w : World} {K : PySem.W.Frag} {elts : List Expr} {kk : Nat} {tpos : Pos} (a e it : Addr) :
    Turn P w K (.Tuple elts kk tpos) (IteT K a) [e, it] e (fun i h => (∃ old, IsEnum h e it ((i : Nat) : Int) old) ∧ h.IsTupleIter it a i) where
  mem := by simp
  obj := fun i h st b hb => by
    obtain ⟨⟨old, he⟩, o, ho, hc, hd⟩ := st
    rcases (show b = e ∨ b = it by simpa using hb) with z | z
    · rw [z]; exact ⟨_, he, fun v q => nomatch q⟩
    · rw [z]; exact ⟨o, ho, fun v q => by rw [hd] at q; cases q⟩
  keep := fun i h h' st k => let ⟨⟨old, he⟩, hi⟩ := st; ⟨⟨old, k e (by simp) _ he⟩, hi.at fun o q => k it (by simp) o q⟩
  item := by
    intro X hP hw hK hc i pins s σ H E I hf st hg
    subst hP hw hK
    obtain ⟨⟨old, he⟩, hit⟩ := st
    obtain ⟨xs, x, hq, hx⟩ := hg
    obtain ⟨its, rv, p, hz⟩ := I.tuple hq
    obtain ⟨u, hu, ru⟩ := rv.get hx
    have hel : e < s.heap.objs.size := Heap.lt_size he
    have hil : it < s.heap.objs.size := by obtain ⟨_, q, _⟩ := hit; exact Heap.lt_size q
    obtain ⟨oi, hoi, ci, _⟩ := id hit
    obtain ⟨oa, hoa, ca, _⟩ := id p
    have ne1 : e ≠ it := fun z => by rw [z] at he; rw [he] at hoi; rw [← Option.some.inj hoi] at ci; exact absurd (show Value.type "enumerate" = Value.type "tuple_iterator" from ci) (by decide)
    have ne2 : e ≠ a := fun z => by rw [z] at he; rw [he] at hoa; rw [← Option.some.inj hoa] at ca; exact absurd (show Value.type "enumerate" = Value.type "tuple" from ca) (by decide)
    have ne3 : a ≠ it := fun z => by rw [z] at hoa; rw [hoa] at hoi; rw [← Option.some.inj hoi, ca] at ci; exact absurd ci (by decide)
    have hl : i < its.toArray.size := by
      have := (List.getElem?_eq_some_iff.mp hu).1
      simpa using this
    refine wpAny_pyNext_enum_itemD (Draws.tuple (A := X.A.in1) (show X.A.in1.handled = none from I.ok.hd hc) it a ne3 its.toArray) he ⟨hit, p⟩ hl ne1 (by simp [ne1, ne2]) fun y h' tk hy ho hit' hT hsz hk => ?_
    have ey : y = u := by
      have : its.toArray[i]? = some u := by simpa using hu
      rw [this] at hy; exact (Option.some.inj hy).symm
    subst ey
    refine ⟨_, rfl, wpAny_letOwnedTupleGo_enum (s := { s with heap := h', toks := tk + 1 }) ho fun h'' he' sb => ?_⟩
    have hT2 : h''.get? s.heap.objs.size = some { cls := .type "tuple", data := .seq #[.int i tk, y] } := (sb.2 _ (Nat.ne_of_gt hel)).trans hT
    have new : ObjOk X.prog X.w (upd H s.heap.objs.size (.tup [.int (i : Nat), x])) h'' s.heap.objs.size (.tup [.int (i : Nat), x]) :=
      ⟨by show 2 ≤ sizeLine; decide, [.int i tk, y], .cons ⟨_, rfl⟩ (.cons ru .nil), ⟨_, hT2, rfl, _, rfl⟩⟩
    have I1 : Inv X pins σ (upd H s.heap.objs.size (.tup [.int (i : Nat), x])) { s with heap := h'', toks := tk + 1 } :=
      I.turnedNew (ch := [e, it]) (fun b ob hb q => (sb.2 b (fun z => hb (by simp [z]))).trans (hk b ob (fun z => hb (by simp [z])) (fun z => hb (by simp [z])) q)) hf (Nat.le_refl _) new
    refine ⟨.ref s.heap.objs.size, _, I1, rfl, ⟨_, x, rfl, I.hok.fresh (Nat.le_refl _), rfl, fun ys hy => by rw [I.tuple_inj hy hq]; exact hx⟩, ⟨⟨y, ?_⟩, hit'.1.at fun o q => (sb.2 it (Ne.symm ne1)).trans q⟩, fun b hb => ?_⟩
    · have e1 : ((i + 1 : Nat) : Int) = (i : Int) + 1 := by omega
      rw [e1]; exact he'
    · have hb' : b < s.heap.objs.size := by
        rcases (show b = e ∨ b = it by simpa using hb) with z | z
        · rw [z]; exact hel
        · rw [z]; exact hil
      rw [upd_ne (Nat.ne_of_lt hb')]
      exact (hf b hb).1
  done := by
    intro X hP hw hK hc i pins s σ H E I hf st hg
    subst hP hw hK
    obtain ⟨⟨old, he⟩, hit⟩ := st
    obtain ⟨xs, hq, hx⟩ := hg
    obtain ⟨its, rv, p, hz⟩ := I.tuple hq
    obtain ⟨f0, f1, f2, f3, f4, f5⟩ := hf it (by simp)
    have hl := rv.length
    exact next_enumT_end (I.ok.hd hc) he hit p (by simp; omega) fun h' eb => ⟨rfl, I.turned (t' := s.toks) (fun b o hb q => eb b o hb q) f0 f1 f3 f4 f5⟩
  self := fun A i s Q E st h => let ⟨⟨_, he⟩, _⟩ := st; wpAny_pyIter_enum he h
def iEnumT (K : PySem.W.Frag) (ta : TA) : TI := fun σ H R => ta σ H fun vs H1 => ∃ a xs, vs = [.ref a] ∧ SqT K H1 a xs ∧ R (IteT K a) H1
theorem pi_enumT {X : Cx} {e : Expr} {ta : TA} {p pos tpos : Pos} {elts : List Expr} {kk : Nat} (hg : Gl X "enumerate") (hm : X.mg "enumerate" = none) (ha : PA X [e] ta) (hs : starEach [e] X.env = [(false, eval e X.env)] := by rfl) :
    PI X (.Tuple elts kk tpos) (.Call (.Name "enumerate" p) [e] [] pos) (iEnumT X.K ta) := by
  refine ⟨fun pins s σ H R I h => ?_⟩
  refine Call_ (ld_blt I hg hm boot_enumerate (PyProof.Rows.callWith_type1 (thn (ha.run pos pins s σ H _ I h) fun us s1 ⟨vs, H1, I1, r1, a, xs, ex, hq, q⟩ => ?_) hs rfl))
  subst ex
  obtain rfl := Vals.ref1 r1
  obtain ⟨its, rv, pt, hz⟩ := I1.tuple hq
  refine call_enumT pt fun h' he hit hk => wpAny_pyIter_enum he ?_
  have I2 : Inv X pins σ H1 { s1 with heap := h' } := I1.kept (t' := s1.toks) hk
  refine ⟨s1.heap.objs.size + 1, [s1.heap.objs.size + 1, s1.heap.objs.size], _, _, H1, rfl, I2, turn_enumT a (s1.heap.objs.size + 1) s1.heap.objs.size, ⟨⟨.none, he⟩, hit⟩, fun b hb => ?_, q⟩
  have hle : s1.heap.objs.size ≤ b := by
    rcases (show b = s1.heap.objs.size + 1 ∨ b = s1.heap.objs.size by simpa using hb) with z | z
    · rw [z]; exact Nat.le_succ _
    · rw [z]; exact Nat.le_refl _
  exact I1.fpOk hle (I1.hok.fresh hle)
section
variable {X : Cx} {N : List PySem.Str} {S : Scope} {B0 H0 : Hp} {sds : List SD} {os : List (Addr × OV)} {P : List D → Prop} {e : Expr}
theorem ix_enumT (c : Ctx X N S) {p pos tpos : Pos} {elts : List Expr} {kk : Nat} (hm : X.mg "enumerate" = none) (h : EX X B0 H0 sds os e fun d => ∃ l, d = .tup l ∧ P (enumD l)) (hg : glB S "enumerate" = true := by decide +kernel) (hs : starEach [e] X.env = [(false, eval e X.env)] := by rfl) :
    IX X B0 H0 sds os (.Tuple elts kk tpos) (.Call (.Name "enumerate" p) [e] [] pos) P :=
  ⟨_, pi_enumT (c.gl hg) hm (pa_cons pe_w pa_nil hs) hs, fun B H σ s R q => h B H σ s _ fun v B1 H1 d g1 i1 ⟨l, e1, p⟩ => by
    subst e1
    cases i1 with
    | @tup a xs _ hs ha =>
      refine ⟨a, xs, rfl, SqT.of (g1.bh _ _ hs), q _ B1 H1 _ g1 p ⟨fun k H hb hk => ?_, fun k H hb hk => ?_, fun k B2 H2 v H3 hb hb2 hk hy => ?_⟩⟩
      · rw [enumD_len] at hk
        obtain ⟨v, hv, _⟩ := ha.get (List.getElem?_eq_getElem hk)
        exact ⟨xs, v, SqT.of (hb _ _ hs), hv⟩
      · rw [enumD_len] at hk
        exact ⟨xs, SqT.of (hb _ _ hs), by rw [ha.len]; exact hk⟩
      · obtain ⟨T, x, e1, hT, e2, hy⟩ := hy
        subst e1; subst e2
        obtain ⟨d, hd, id⟩ := ha.got (hy xs (SqT.of (hb2 _ _ (hb _ _ hs))))
        have g := Grow.new (o := .tup [.int (k : Nat), x]) hb2 hT
        exact ⟨_, _, enumD_get hd, g, .tup upd_same (.cons (.int _) (.cons (id.mono (hb.trans g.b)) .nil))⟩⟩
end
end OB
set_option Elab.async false
set_option linter.all false
set_option maxRecDepth 100000
set_option maxHeartbeats 4000000
namespace OB
open PySem PySem.Spec PyProof.Rows L2
/-! ### sorted of a tuple -/
mutual
theorem reads_at {h : Heap} : ∀ {v : Value} {d : PyData} {as : List Addr}, Reads h v d as → ∀ b ∈ as, ∃ o, h.get? b = some o
  | _, _, _, .none, b, hb => by cases hb
  | _, _, _, .bool _, b, hb => by cases hb
  | _, _, _, .int _ _, b, hb => by cases hb
  | _, _, _, .str _ _, b, hb => by cases hb
  | _, _, _, .list ho _ _ r, b, hb => by
    rcases List.mem_cons.mp hb with z | z
    · rw [z]; exact ⟨_, ho⟩
    · exact readsAll_at r b z
  | _, _, _, .tuple _ _ _ r, b, hb => readsAll_at r b hb
  | _, _, _, .dict ho _ _ r1 r2, b, hb => by
    rcases List.mem_append.mp hb with z | z
    · rcases List.mem_cons.mp z with z | z
      · rw [z]; exact ⟨_, ho⟩
      · exact readsAll_at r1 b z
    · exact readsAll_at r2 b z
theorem readsAll_at {h : Heap} : ∀ {vs : List Value} {ds : List PyData} {as : List Addr}, ReadsAll h vs ds as → ∀ b ∈ as, ∃ o, h.get? b = some o
  | _, _, _, .nil, b, hb => by cases hb
  | _, _, _, .cons r1 r2, b, hb => by
    rcases List.mem_append.mp hb with z | z
    · exact reads_at r1 b z
    · exact readsAll_at r2 b z
end
theorem collect_tupV {prog : Program} {w : World} {A : Around} {E : Value → Shared → Prop} {s : Shared} {t : Addr} {us : List Value} {Q : List Value → Shared → Prop} (ht : s.heap.IsTuple t us.toArray) (hz : us.length ≤ sizeLine)
    (q : ∀ h', (∀ b o, s.heap.get? b = some o → h'.get? b = some o) → Q us { s with heap := h' }) : wpAny (model prog w) A (collect (.ref t)) Q E s := by
  obtain ⟨ob, hob, hcls, m, hdat⟩ := id ht
  generalize hg : s.heap.push (seqObj "list" #[] 0) = g
  have gk : ∀ b o, s.heap.get? b = some o → g.get? b = some o := fun b o x => by rw [← hg]; exact Heap.get?_push_of_some _ x
  have gn : g.get? s.heap.objs.size = some (seqObj "list" #[] 0) := by rw [← hg]; exact Heap.get?_push_size _ rfl
  unfold collect
  refine wpAny_bind (wpAny_runValue (codeAny_builtin entry_proto_collect' (show wpAny _ _ (do again (.builtin "list.__iadd__" ⟨[← newList [], .ref t], []⟩)) _ _ s from wpAny_bind (wpAny_newList (wpAny_pure ⟨Code.quiet_builtin _ (by decide +kernel), codeAny_builtin entry_list_iadd' ?_⟩)))))
  show wpAny _ _ (Builtin.List.listExtendWith (.ref s.heap.objs.size) (.ref t) (.ref s.heap.objs.size)) _ _ { s with heap := s.heap.push (seqObj "list" #[] 0) }
  rw [hg]
  unfold Builtin.List.listExtendWith
  refine wpAny_bind (wpAny_typeOf (s := { s with heap := g }) (T := "tuple") ⟨ob, gk _ _ hob, hcls⟩ ?_)
  rw [if_pos (by have e : (Value.type "tuple" == Value.type "tuple") = true := rfl; rw [e]; simp)]
  refine wpAny_bind (listItems_at (s := { s with heap := g }) (gk _ _ hob) hdat (wpAny_bind (listItems_at (s := { s with heap := g }) (xs := #[]) (n := 0) gn rfl ?_)))
  rw [if_neg (by simp)]
  refine wpAny_bind (listUpdate_at (s := { s with heap := g }) (xs := #[]) (n := 0) gn rfl (wpAny_pure ?_) (Nat.zero_le _) (by show (#[] ++ us.toArray).size ≤ sizeLine + 1; simp only [Array.size_append, List.size_toArray, List.length_nil]; omega))
  show wpAny (model prog w) A (load s.heap.objs.size >>= _) Q E { s with heap := g.update s.heap.objs.size (Obj.mapSeq (· ++ us.toArray)) }
  refine wpAny_bind (wpAny_load (s := { s with heap := g.update s.heap.objs.size (Obj.mapSeq (· ++ us.toArray)) }) (get?_update_seq gn _) ?_)
  show wpAny _ _ (pure ((#[] : Array Value) ++ us.toArray).toList) Q E _
  rw [show ((#[] : Array Value) ++ us.toArray).toList = us by simp]
  refine wpAny_pure (q _ fun b o x => ?_)
  have hb := Nat.ne_of_lt (Heap.lt_size x)
  rw [Heap.get?_update_ne _ _ _ _ hb]
  exact gk b o x
def rSortDT (K : PySem.W.Frag) : List V → Hp → VK → Prop := fun vs H Q => ∃ (a : Addr) (xs : List V) (ds : List D), vs = [V.ref a] ∧ SqT K H a xs ∧ xs.length = ds.length ∧ DpAll K H xs (ds.map py) ∧ PySem.W.AllAlike (ds.map py) ∧ PySem.W.Sortable (ds.map py) ∧ (∀ d ∈ ds, (py d).depth ≤ 40) ∧
  ∀ p, H p = none → Q (.ref p) (upd H p (.lst (((xs.zip ds).mergeSort (PySem.W.dataLe false fun z => py z.2)).map (·.1))))
theorem each_readsL {hp : Heap} {xs : List V} : ∀ {us : List Value} {ds : List D} {as : List Addr}, xs.length = ds.length → ReadsAll hp us (ds.map py) as → PySem.W.EachIs (fun u (z : V × D) => ∃ as, Reads hp u (py z.2) as ∧ ∀ b ∈ as, ∃ o, hp.get? b = some o) us (xs.zip ds) := by
  induction xs with
  | nil =>
    intro us ds as hl r
    cases ds with
    | nil => cases r; exact .nil
    | cons d ds => cases hl
  | cons x xs ih =>
    intro us ds as hl r
    cases ds with
    | nil => cases hl
    | cons d ds =>
      cases r with
      | cons h1 h2 => exact .cons ⟨_, h1, reads_at h1⟩ (ih (by simpa using hl) h2)
theorem cr_sortDT {X : Cx} {k : Nat} (hr : Room k X.A) : CallR X (.builtin "sorted") (rSortDT X.K) := by
  intro pins s σ H vs us Q I r h
  obtain ⟨a, xs, ds, rfl, hs, hl0, hd, hal, hso, hdp, q⟩ := h
  obtain ⟨its, rv, pl, hz⟩ := I.tuple hs
  rw [Vals.ref1 r]
  obtain ⟨as, hra⟩ := Dp.readsAll I _ _ _ hd rv
  have hu := hr.units
  have e1 := map_py_snd hl0
  have hli : its.length = xs.length := rv.length.symm
  refine Calls.call_function_entry kind_sorted plain_sorted entry_sorted (args_sorted1 _) ?_
  unfold Builtin.«sorted»
  refine wpAny_bind (m := checkCount "sorted" 1 1 _) (wpAny_pure ?_)
  refine wpAny_bind (collect_tupV (A := X.A.in1) pl (by omega) fun h' hk => ?_)
  refine wpAny_bind (wpAny_newList ?_ (by omega))
  generalize hg : h'.push { cls := .type "list", data := .seq its.toArray } = g
  have gn : g.get? h'.objs.size = some (seqObj "list" its.toArray 0) := by rw [← hg]; exact Heap.get?_push_size _ rfl
  have gs : g.objs.size = h'.objs.size + 1 := by rw [← hg]; exact Heap.size_push ..
  have gk : ∀ b o, s.heap.get? b = some o → g.get? b = some o := fun b o x => by rw [← hg]; exact Heap.get?_push_of_some _ (hk b o x)
  have hlt : ∀ b o, s.heap.get? b = some o → b < h'.objs.size := fun b o x => Heap.lt_size (hk b o x)
  have er : PySem.W.EachIs (fun u (z : V × D) => ∃ as, Reads g u (py z.2) as ∧ h'.objs.size ∉ as) its (xs.zip ds) := by
    refine (each_readsL hl0 hra).mono fun u z ⟨as, h1, h2⟩ => ⟨as, PyProof.Rows.Reads.keeps gk h1, fun hm => ?_⟩
    obtain ⟨o, ho⟩ := h2 _ hm
    exact Nat.lt_irrefl _ (hlt _ _ ho)
  refine wpAny_bind (wpAny_holding (PySem.W.list_sort_data (β := V × D) (s := { s with heap := g }) (R := fun u z => RelV z.1 u) (enc := fun z => py z.2) (bs := xs.zip ds) gn (each_vals rv hl0) er (by rw [e1]; exact hal) (by rw [e1]; exact hso) (by rw [List.length_zip, ← hl0, Nat.min_self]; exact hz) (fun z hz' => ?_) fun out g1 g2 => ?_))
  · have := hdp z.2 (List.of_mem_zip hz').2
    show X.A.units + 1 + 1 + (py z.2).depth < cLine
    omega
  · refine wpAny_pure ⟨_, rfl, ?_⟩
    have hH : H h'.objs.size = none := (I.hok.kept hk).fresh (Nat.le_refl _)
    have hn0 : s.heap.get? h'.objs.size = none := by
      cases q0 : s.heap.get? h'.objs.size with
      | none => rfl
      | some u => exact absurd (hlt _ _ q0) (Nat.lt_irrefl _)
    obtain ⟨c, hc⟩ := sortedHeap_at (vs := its) (out := out.toArray) gn
    have hv := vals_each g2
    refine ⟨.ref h'.objs.size, _, I.laidN (t' := s.toks) (o := .lst (((xs.zip ds).mergeSort (PySem.W.dataLe false fun z => py z.2)).map (·.1))) (fun b u qb => ?_) hn0 hH ⟨?_, out, c, hv, hc⟩, rfl, q _ hH⟩
    · have hlb := hlt b u qb
      rw [sortedHeap_old (Nat.ne_of_lt hlb) (by rw [gs]; exact Nat.lt_succ_of_lt hlb)]
      exact gk b u qb
    · rw [List.length_map, List.length_mergeSort, List.length_zip, ← hl0, Nat.min_self]; exact hz
section
variable {X : Cx} {N : List PySem.Str} {S scope : Scope} {B0 H0 : Hp} {sds : List SD} {os : List (Addr × OV)} {pos p : Pos} {e : Expr} {k : Nat}
theorem el_sortDT (c : Ctx X N S) (hr : Room k X.A) {P : List D → Prop} (hm : X.mg "sorted" = none) (h : EX X B0 H0 sds os e fun d => ∃ l : List D, d = .tup l ∧ SrtOk l ∧ P (srtD l)) (hg : glB S "sorted" = true := by decide +kernel) (he : starEach [e] X.env = [(false, eval e X.env)] := by rfl) : EL X B0 H0 sds os (.Call (.Name "sorted" p) [e] [] pos) P :=
  el_callB c (cr_sortDT hr) hm (ea_cons (h.imp fun d ⟨l, hn, ok, hp⟩ => ea_nil fun B H vs eb iv Q q => by
    obtain ⟨v, rfl, j⟩ := call1 iv
    subst hn
    cases j with
    | @tup ad xs l' hs ha =>
      have hl := ha.len
      have hd := IsAll.dp eb l _ ha ok.ok
      rw [pyAll_map] at hd
      refine ⟨ad, xs, l, rfl, SqT.of (eb _ _ hs), hl, hd, ok.al, ok.so, ok.dp, fun p hp' => ?_⟩
      have e1 : ((xs.zip l).mergeSort (PySem.W.dataLe false fun z => py z.2)).map (·.2) = srtD l := by
        unfold srtD
        have e0 := List.map_mergeSort (f := Prod.snd) (r := PySem.W.dataLe false fun z : V × D => py z.2) (s := PySem.W.dataLe false py) (l := xs.zip l) (fun a _ b _ => rfl)
        rw [List.map_snd_zip (by omega)] at e0
        exact e0
      have al : IsAll X.K B (((xs.zip l).mergeSort (PySem.W.dataLe false fun z => py z.2)).map (·.1)) (srtD l) := by
        rw [← e1]
        exact isall_zip fun z hz => isall_mem ha z ((List.mergeSort_perm _ _).mem_iff.mp hz)
      exact q p _ B _ _ (Grow.up eb (Evl.Ex.new hp')) hp' (Evl.fresh_back eb hp') upd_same al hp) he) hg (by decide +kernel) (by decide +kernel) (by decide +kernel) he rfl
/-- sorted of a list or tuple -/
theorem el_sortS (c : Ctx X N S) (hr : Room k X.A) {P : List D → Prop} (hm : X.mg "sorted" = none) {d : D} {l : List D} (hd : (d = .lst l ∨ d = .tup l)) (h : EX X B0 H0 sds os e fun d' => d' = d ∧ SrtOk l ∧ P (srtD l)) (hg : glB S "sorted" = true := by decide +kernel) (he : starEach [e] X.env = [(false, eval e X.env)] := by rfl) : EL X B0 H0 sds os (.Call (.Name "sorted" p) [e] [] pos) P := by
  rcases hd with rfl | rfl
  · exact el_sortD c hr hm (h.imp fun d' ⟨e1, q⟩ => ⟨l, e1, q⟩) hg he
  · exact el_sortDT c hr hm (h.imp fun d' ⟨e1, q⟩ => ⟨l, e1, q⟩) hg he
end
/-- ints -/
theorem srtOk_ints (l : List Int) : SrtOk (l.map .int) := by
  refine ⟨pok_ints l, ?_, ?_, fun d hd => ?_⟩
  · rw [List.map_map]
    exact PySem.W.AllAlike.of (enc := fun i : Int => PyData.int i) fun b b' => rfl
  · rw [List.map_map]
    exact PySem.W.Sortable.others (enc := fun i : Int => PyData.int i) fun b => ⟨(fun e => by cases e), (fun xs e => by cases e)⟩
  · obtain ⟨i, _, rfl⟩ := List.mem_map.mp hd
    show PyData.depth (.int i) ≤ 40
    rw [PyData.depth]; omega
def srtI (l : List Int) : List Int := l.mergeSort fun p q => decide (p ≤ q)
theorem srtD_ints (l : List Int) : srtD (l.map .int) = (srtI l).map .int := by
  unfold srtD srtI
  refine (List.map_mergeSort (fun a _ b _ => ?_)).symm
  have := congrFun (congrFun (PySem.W.dataLe_int (fun r : Int => r)) a) b
  exact this.symm
theorem srtI_perm (l : List Int) : (srtI l).Perm l := List.mergeSort_perm _ _
theorem srtI_sorted (l : List Int) : (srtI l).Pairwise (· ≤ ·) := by
  have h := List.pairwise_mergeSort (le := fun p q : Int => decide (p ≤ q)) (fun a b c h1 h2 => by simp at *; omega) (fun a b => by simp; omega) l
  exact h.imp fun h => by simpa using h
end OB
set_option Elab.async false
set_option linter.all false
set_option maxRecDepth 100000
set_option maxHeartbeats 4000000
namespace OB
open PySem PySem.Spec PyProof.Rows L2
/-! ### defs whose last parameters stand at their defaults, dd -/
structure FnDd (P : Program) (w : World) (K : PySem.W.Frag) (mg : PySem.Str → Option Value) (base : Heap) (x : PySem.Str) (k : Nat) (S : SpD) (dd : List D) : Prop where
  ex : ∃ (f : Addr) (fd : FuncData) (ps : List PySem.Str) (ds : List Value) (dvs : List V), mg x = some (.ref f) ∧ PySem.W.keepIn K (.ref f) = true ∧ Binds K fd ps ds ∧ Vals dvs ds ∧ (∀ B, IsAll K B dvs dd) ∧ FnOk P w K mg base (L2.CX P w) k f fd ps (toSp K S)
theorem FnDd.mono {P : Program} {w : World} {K : PySem.W.Frag} {mg : PySem.Str → Option Value} {base : Heap} {x : PySem.Str} {k k' : Nat} {S : SpD} {dd : List D} (h : FnDd P w K mg base x k S dd) (l : k ≤ k') : FnDd P w K mg base x k' S dd := by
  obtain ⟨f, fd, ps, ds, dvs, h1, h2, h3, h4, h5, h6⟩ := h.ex
  exact ⟨f, fd, ps, ds, dvs, h1, h2, h3, h4, h5, h6.mono l⟩
section
variable {X : Cx} {N : List PySem.Str} {S scope : Scope} {B0 H0 : Hp} {sds : List SD} {os : List (Addr × OV)} {pos : Pos} {e : Expr} {es : List Expr} {P : D → Prop} {R : Addr → List (PySem.Str × D) → Prop}
theorem ex_callDX (c : Ctx X N S) {x : PySem.Str} {k : Nat} {p : Pos} {Sf : SpD} {dd : List D} (F : FnDd X.prog X.w X.K X.mg X.base x k Sf dd) (hr : Room k X.A) (air : Air X B0 H0 R) (h : EA X B0 H0 sds os (e :: es) fun ds => Sf (ds ++ dd) P R) (hg : glB S x = true := by decide +kernel)
    (hdb : (x == ("__debug__" : PySem.Str)) = false := by decide +kernel) (he : starEach (e :: es) X.env = (false, eval e X.env) :: starEach es X.env := by rfl) (hpl : (backTo pos (starEach es X.env)).any (·.1) = false := by rfl) : EX X B0 H0 sds os (.Call (.Name x p) (e :: es) [] pos) P := fun B H σ s Q q => by
  obtain ⟨f, fd, ps, dz, dvs, h1, h2, h3, h4, h5, h6⟩ := F.ex
  obtain ⟨Ew, tk, hE⟩ := air
  refine PE.to (pe_call h6 hr (c.gl hg) h1 h2 h3 h4 (E := Ew) (passes_call tk fun _ _ _ _ h => h) pa_w hdb he hpl) ?_
  refine h B H σ s _ fun vs B1 H1 ds g1 i1 hs => ?_
  exact ⟨B1, ds ++ dd, P, _, g1.bh, i1.app (h5 B1), hs, fun v B2 H2 d g2 i2 p => q v B2 H2 d (g1.trans g2) i2 p, fun C fs d2 ws B' H' g2 h1 h2 h3 => hE C fs d2 ws B' H' ((s.g.trans g1).trans g2) h1 h2 h3⟩
theorem ex_callD (c : Ctx X N S) {x : PySem.Str} {k : Nat} {p : Pos} {Sf : SpD} {dd : List D} (F : FnDd X.prog X.w X.K X.mg X.base x k Sf dd) (hr : Room k X.A) (h : EA X B0 H0 sds os (e :: es) fun ds => Sf (ds ++ dd) P fun _ _ => False) (hg : glB S x = true := by decide +kernel)
    (hdb : (x == ("__debug__" : PySem.Str)) = false := by decide +kernel) (he : starEach (e :: es) X.env = (false, eval e X.env) :: starEach es X.env := by rfl) (hpl : (backTo pos (starEach es X.env)).any (·.1) = false := by rfl) : EX X B0 H0 sds os (.Call (.Name x p) (e :: es) [] pos) P := fun B H σ s Q q => by
  obtain ⟨f, fd, ps, dz, dvs, h1, h2, h3, h4, h5, h6⟩ := F.ex
  refine PE.to (pe_call h6 hr (c.gl hg) h1 h2 h3 h4 passL pa_w hdb he hpl) ?_
  refine h B H σ s _ fun vs B1 H1 ds g1 i1 hs => ?_
  exact ⟨B1, ds ++ dd, P, _, g1.bh, i1.app (h5 B1), hs, fun v B2 H2 d g2 i2 p => q v B2 H2 d (g1.trans g2) i2 p, fun _ _ _ _ _ _ _ _ _ z => z.elim⟩
end
section
variable {P : Program} {w : World} {K : PySem.W.Frag} {mg : PySem.Str → Option Value} {base : Heap} {x name qual : PySem.Str} {params : Arguments} {body : List Stmt} {sc : Scope} {dvs : List V} {kws : List (PySem.Str × V)} {f : Addr} {fd : FuncData} {N ps : List PySem.Str} {k : Nat}
theorem fn3d {Sf : SpD} {dz : List Value} {dw : List V} {dd : List D} (F : FunD K name qual params body sc dvs kws f fd) (hm : mg x = some (.ref f)) (hb : Binds K fd ps dz) (hv : Vals dw dz) (hd : ∀ B, IsAll K B dw dd) (Sc : FnScope N ps sc) (len : ∀ ds P R, Sf ds P R → ds.length = ps.length) (h : Bod P w K mg base k N sc body Sf) : FnDd P w K mg base x (k + 1) Sf dd := by
  obtain ⟨oc, od, dV, kV, doc, pm, an, cdv, ct, osl, rfl, lk, hcd, _, _⟩ := F.ex
  refine ⟨f, _, ps, dz, dw, hm, F.kp, hb, hv, hd, fn_of lk hcd Sc (fun vs H Q E ⟨B, ds, P, R, _, h1, h2, _⟩ => by rw [h1.len]; exact len _ _ _ h2) fun A outer s H vs Q E hr hsp => ⟨_, pss_w, ?_⟩⟩
  obtain ⟨B, ds, P', R, eb, h1, h2, h3, h4⟩ := hsp
  have go := h (cxOf (L2.CX P w) P w K mg base N qual sc f cdv A outer s H E) rfl rfl rfl rfl rfl hr (ctxT_of Sc.nd) ds P' R h2 B H ⟨E, takes_of rfl rfl rfl rfl, h4⟩
  refine wSs.imp (go B B H (L2.start N vs) (Evl.Ex.refl _) ⟨Grow.refl eb, slots_ini h1, (fun _ h => (nomatch h)), (fun _ h => (nomatch h)), List.nodup_nil⟩) (fun σ' H' ⟨B', sds', os', _, s', p⟩ => h3 _ _ _ _ s'.g .non p) (fun v H' ⟨B', d, _, g, i, p⟩ => h3 _ _ _ _ g i p) (fun σ' H' ⟨B', sds', os', _, s', p⟩ => p.elim) (fun σ' H' ⟨B', sds', os', _, s', p⟩ => p.elim)
end
end OB
set_option Elab.async false
set_option linter.all false
set_option maxRecDepth 100000
set_option maxHeartbeats 4000000
namespace OB
open PySem PySem.Spec PyProof.Rows L2
/-! ### not in, of data -/
section
variable {X : Cx} {N : List PySem.Str} {S : Scope} {B0 H0 : Hp} {sds : List SD} {os : List (Addr × OV)} {pos : Pos} {a b : Expr} {k : Nat}
theorem any_py (l : List D) (a : D) : ((pyAll l).any fun z => PyData.eqv z (py a)) = l.any fun z => eqd z a := by
  induction l with
  | nil => rfl
  | cons x r ih => rw [pyAll, List.any_cons, List.any_cons, ih]; rfl
def rNotInT (K : PySem.W.Frag) : R2 := fun x y H Q => ∃ d ds, Dp K H x d ∧ Dp K H y (.tuple ds) ∧ SeqAt.shaped d = true ∧ SeqAt.shaped (.tuple ds) = true ∧ Q (.bl (!ds.any fun z => PyData.eqv z d)) H
theorem op_notInT (hu : X.A.units + 65 < cLine) : OpR X (compareOp .NotIn) (rNotInT X.K) := by
  intro pins s σ H x y v u Q I rx ry ⟨d, ds, hd, he, sd, se, q⟩
  obtain ⟨as, r1⟩ := Dp.reads I d x v hd rx
  obtain ⟨bs, r2⟩ := Dp.reads I _ y u he ry
  exact SeqAt.notIn_tuple_reads r2 r1 (SeqAt.canLay_of_shaped se) (SeqAt.canLay_of_shaped sd) (room_in_shaped sd hu) ⟨.bl _, H, I, rfl, q⟩
theorem cmp_notInD {K : PySem.W.Frag} {a : D} {l : List D} {P : Bool → Prop} (ha : shp a = true) (hb : shp (.lst l) = true) (p : P (!l.any fun z => eqd z a)) : CmpD K (rNotInD K) a (.lst l) P := fun B H v w e h1 h2 Q q => by
  rw [shp, Bool.and_eq_true] at ha hb
  refine ⟨_, pyAll l, Is.dp e _ _ h1 ha.1, Is.dp e _ _ h2 hb.1, ha.2, hb.2, q _ B H _ (Grow.refl e) (.bl _) ⟨_, rfl, ?_⟩⟩
  rw [any_py]; exact p
theorem cmp_notInT {K : PySem.W.Frag} {a : D} {l : List D} {P : Bool → Prop} (ha : shp a = true) (hb : shp (.tup l) = true) (p : P (!l.any fun z => eqd z a)) : CmpD K (rNotInT K) a (.tup l) P := fun B H v w e h1 h2 Q q => by
  rw [shp, Bool.and_eq_true] at ha hb
  refine ⟨_, pyAll l, Is.dp e _ _ h1 ha.1, Is.dp e _ _ h2 hb.1, ha.2, hb.2, q _ B H _ (Grow.refl e) (.bl _) ⟨_, rfl, ?_⟩⟩
  rw [any_py]; exact p
theorem tx_notInD {P : Bool → Prop} (hr : Room k X.A) (h : EX X B0 H0 sds os a fun da => EX X B0 H0 sds os b fun db => ∃ l, db = .lst l ∧ shp da = true ∧ shp db = true ∧ P (!l.any fun z => eqd z da)) (hm : behindInMarks .NotIn b = false := by rfl) : TX X B0 H0 sds os (.Compare a [.NotIn] [b] pos) P :=
  tx_cmp (op_notInD (by have := hr.un; omega)) hm (h.imp fun d k => k.imp fun d' ⟨l, e, h1, h2, p⟩ => by subst e; exact cmp_notInD h1 h2 p)
theorem tx_notInT {P : Bool → Prop} (hr : Room k X.A) (h : EX X B0 H0 sds os a fun da => EX X B0 H0 sds os b fun db => ∃ l, db = .tup l ∧ shp da = true ∧ shp db = true ∧ P (!l.any fun z => eqd z da)) (hm : behindInMarks .NotIn b = false := by rfl) : TX X B0 H0 sds os (.Compare a [.NotIn] [b] pos) P :=
  tx_cmp (op_notInT (by have := hr.un; omega)) hm (h.imp fun d k => k.imp fun d' ⟨l, e, h1, h2, p⟩ => by subst e; exact cmp_notInT h1 h2 p)
/-- a < b < c on ints, as a test -/
theorem tx_chainI {c : Expr} {op op' : CmpOp} {g g' : Int → Int → Bool} {P : Bool → Prop} (ho : OpR X (compareOp op) (rI0 fun i j => .bl (g i j))) (ho' : OpR X (compareOp op') (rI0 fun i j => .bl (g' i j)))
    (h : EX X B0 H0 sds os a fun da => ∃ i, da = .int i ∧ EX X B0 H0 sds os b fun db => ∃ j, db = .int j ∧ (g i j = true → EX X B0 H0 sds os c fun dc => ∃ k, dc = .int k ∧ P (g' j k)) ∧ (g i j = false → P false))
    (hm : lastMarks [op, op'] [b, c] = false := by with_unfolding_all rfl) : TX X B0 H0 sds os (.Compare a [op, op'] [b, c] pos) P := fun B H σ s Q q =>
  PT.to (pt_chain ho ho' pe_w pe_w pe_w hm) (h B H σ s _ fun v B1 H1 d g1 i1 ⟨i, e1, k⟩ => k B1 H1 σ (s.grow g1) _ fun w B2 H2 d' g2 i2 ⟨j, e2, k1, k2⟩ => by
    subst e1; subst e2; cases i1; cases i2
    refine ⟨i, j, rfl, rfl, g i j, rfl, ?_⟩
    cases hg : g i j with
    | true =>
      rw [if_pos rfl]
      refine k1 hg B2 H2 σ ((s.grow g1).grow g2) _ fun z B3 H3 d3 g3 i3 ⟨k, e3, pp⟩ => ?_
      subst e3; cases i3
      exact ⟨j, k, rfl, rfl, _, rfl, q _ B3 H3 ((g1.trans g2).trans g3) pp⟩
    | false =>
      rw [if_neg Bool.false_ne_true]
      exact ⟨_, rfl, q _ B2 H2 (g1.trans g2) (k2 hg)⟩)
end
end OB
set_option Elab.async false
set_option linter.all false
set_option maxRecDepth 100000
set_option maxHeartbeats 4000000
namespace OB
open PySem PySem.Spec PyProof.Rows L2
/-! ### sorted(xs, reverse=True), xs ints -/
section
variable {X : Cx} {N : List PySem.Str} {S : Scope} {B0 H0 : Hp} {sds : List SD} {os : List (Addr × OV)} {pos p : Pos} {e : Expr} {k : Nat}
theorem el_sortRev (c : Ctx X N S) {P : List D → Prop} {j : Nat} {kp cp : Pos} (hm : X.mg "sorted" = none) (h : EX X B0 H0 sds os e fun d => ∃ l : List Int, d = .lst (l.map .int) ∧ ∀ m : List Int, m.Perm l → m.Pairwise (· ≥ ·) → P (m.map .int)) (hg : glB S "sorted" = true := by decide +kernel) (he : starEach [e] X.env = [(false, eval e X.env)] := by rfl)
    (hks : (backToKw pos (keywordEach [⟨some "reverse", .Constant (.bool true) j cp, kp⟩] X.env)).filterMap (·.1) = [Str.ofString "reverse"] := by rfl) : EL X B0 H0 sds os (.Call (.Name "sorted" p) [e] [⟨some "reverse", .Constant (.bool true) j cp, kp⟩] pos) P := fun B H σ s Q q => by
  refine PE.to (pe_callBK (cr_sortedRev (b := true)) (c.gl hg) hm (by decide +kernel) (pa_cons pe_w pa_nil he) (pk_cons pe_bl pk_nil) (by decide +kernel) (by decide +kernel) (by rw [he]; rfl) (by rw [he]; rfl) rfl rfl hks) ?_
  refine h B H σ s _ fun v B1 H1 d g1 i1 ⟨l, e1, hp⟩ => ?_
  subst e1
  cases i1 with
  | lst hs ha =>
    rw [ints_of ha] at hs
    refine ⟨_, l, rfl, rfl, SqL.of (g1.bh _ _ hs), fun m p hpm hob hp' => ?_⟩
    have ob : m.Pairwise (· ≥ ·) := hob
    exact q p _ B1 _ _ ⟨g1.b, g1.h.trans (Evl.Ex.new hp'), g1.bh.trans (Evl.Ex.new hp'), g1.fr⟩ (Evl.fresh_back g1.h hp') (Evl.fresh_back g1.bh hp') upd_same of_ints (hp m hpm ob)
theorem tx_isN {P : Bool → Prop} {j} {pos'} (h : EX X B0 H0 sds os e fun d => P (isNon d)) : TX X B0 H0 sds os (.Compare e [.Is] [.Constant .none j pos'] pos) P := fun B H σ s Q q =>
  PT.to (pt_cmp (pc_isN pe_w)) (h B H σ s _ fun v B1 H1 d g1 i1 pp => ⟨_, rfl, q _ B1 H1 g1 (by rw [i1.isNon]; exact pp)⟩)
theorem tx_isNN {P : Bool → Prop} {j} {pos'} (h : EX X B0 H0 sds os e fun d => P (!isNon d)) : TX X B0 H0 sds os (.Compare e [.IsNot] [.Constant .none j pos'] pos) P := fun B H σ s Q q =>
  PT.to (pt_cmp (pc_notN pe_w)) (h B H σ s _ fun v B1 H1 d g1 i1 pp => ⟨_, rfl, q _ B1 H1 g1 (by rw [i1.isNon]; exact pp)⟩)
end
end OB
set_option Elab.async false
set_option linter.all false
set_option maxRecDepth 100000
set_option maxHeartbeats 4000000
namespace PySem.W
open Lean Elab Tactic Meta PySem PySem.Calls PyProof.Rows
section
variable {prog : Program} {w : World} {M : Model} {A : Around} {E : Value → Shared → Prop} {s : Shared} {K : Frag} {x y C L f : Addr} {h₀ : Heap} {m : Str → Option Value} {ox oy : Obj} {od oe : Option Obj}
/-- a op b, both of one class that has the operator -/
theorem ob_binI {op : Operator} {Q : Value → Shared → Prop} (F : Fr h₀ L s.heap m) (X₀ : K.In h₀) (I : InstAt s.heap x ox C od) (J : InstAt s.heap y oy C oe) (hc : selfFirst K C = true)
    (hs : findIn K (.ref C) (PySem.dunder op.info.2) = some (some (.ref f))) (hf : isFn K (.ref f) = true)
    (h : wpAny (model prog w) A (call (.ref f) [.ref x, .ref y]) (CmpBack Q) E s) : wpAny (model prog w) A (binaryOp op (.ref x) (.ref y)) Q E s := by
  have X := X₀.keeps F.keep
  obtain ⟨cd, rest, hcd, hm⟩ := ksp_first hc
  rcases hi : op.info with ⟨sym, nm'⟩
  rw [hi] at hs
  dsimp only at hs
  have one := ksp_try X I hs hf h
  obtain ⟨hh, g, d, tt, os⟩ := s
  have L1 : Looks (model prog w) hh (typeOf (.ref x)) (.ref C) := I.type
  have L2 : Looks (model prog w) hh (typeOf (.ref y)) (.ref C) := J.type
  have L3 : Looks (model prog w) hh (fillsNumberSlot (.ref C) nm') true := fills_K X hcd hm hs
  have he : (Value.ref C == Value.ref C) = true := beq_self_eq_true _
  simp only [binaryOp, hi]
  refine wpAny_holding (wpAny_bind ?_)
  unfold binaryOp1
  refine wpAny_bind (L1.at (wpAny_bind (L2.at (wpAny_bind (L3.at ?_)))))
  simp only [he, if_true]
  ksp_lk
  refine wpAny_mono one (fun r s' hr' => ?_) fun _ _ e => e
  obtain ⟨v, rfl, hq⟩ := hr'
  ksp_lk
  exact hq
end
end PySem.W
namespace OB
open PySem PySem.Spec PyProof.Rows L2
/-! ### the operator of an own class; classes whose last parameters stand at their defaults -/
theorem relv_cmp {x : V} {v : Value} {Q : Value → Shared → Prop} {s : Shared} (r : RelV x v) (q : Q v s) : PySem.W.CmpBack Q v s := by
  cases x with
  | non => cases r; exact q
  | bl _ => cases r; exact q
  | int _ => obtain ⟨t, rfl⟩ := r; exact q
  | str _ => obtain ⟨t, rfl⟩ := r; exact q
  | byt _ => obtain ⟨t, rfl⟩ := r; exact q
  | flt _ => obtain ⟨t, rfl⟩ := r; exact q
  | ref _ => cases r; exact q
  | ty _ => cases r; exact q
def rOwn (C : Addr) (sp : Sp) (E : XK) : R2 := fun x y H Q => ∃ a b dx dy fs gs, x = .ref a ∧ y = .ref b ∧ H a = some (.ins C dx fs) ∧ H b = some (.ins C dy gs) ∧ sp [x, y] H Q E
theorem op_own {X : Cx} {CX : CXT} {C f : Addr} {fd : FuncData} {ps : List PySem.Str} {sp : Sp} {n : Nat} {E : XK} {op : Operator} (F : FnOk X.prog X.w X.K X.mg X.base CX n f fd ps sp) (hr : Room n X.A)
    (hs : PySem.W.findIn X.K (.ref C) (PySem.dunder op.info.2) = some (some (.ref f))) (hf : PySem.W.isFn X.K (.ref f) = true) (hc : PySem.W.selfFirst X.K C = true) (hb : Binds X.K fd ps []) (hx : Passes CX X E) :
    OpR X (binaryOp op) (rOwn C sp E) := by
  intro pins s σ H x y v u Q I rx ry hq
  obtain ⟨a, b, dx, dy, fs, gs, rfl, rfl, ha, hb', hsp⟩ := hq
  cases rx
  cases ry
  obtain ⟨mA, J, _⟩ := ins_get I.hok ha
  obtain ⟨mB, J', _⟩ := ins_get I.hok hb'
  obtain ⟨od, J, _⟩ := J.look
  obtain ⟨od', J', _⟩ := J'.look
  obtain ⟨m, hF⟩ := I.fr
  refine PySem.W.ob_binI hF I.ok.mod.kin J J' hc hs hf ?_
  refine wpAny_mono (run_fn (us := [.ref a, .ref b]) (vs := [.ref a, .ref b]) F hr hb .nil hx I (.cons rfl (.cons rfl .nil)) hsp) (fun r s' q => ?_) fun _ _ e => e
  obtain ⟨z, H', I', rz, hz⟩ := q
  exact relv_cmp rz ⟨z, H', I', rz, hz⟩
/-- an operator that a class of the text has -/
structure OwD (P : Program) (w : World) (K : PySem.W.Frag) (mg : PySem.Str → Option Value) (base : Heap) (C : Addr) (m : PySem.Str) (k : Nat) (S : SpD) : Prop where
  ex : ∃ (f : Addr) (fd : FuncData) (ps : List PySem.Str), PySem.W.findIn K (.ref C) m = some (some (.ref f)) ∧ PySem.W.isFn K (.ref f) = true ∧ PySem.W.selfFirst K C = true ∧ Binds K fd ps [] ∧ FnOk P w K mg base (L2.CX P w) k f fd ps (toSp K S)
section
variable {X : Cx} {N : List PySem.Str} {S scope : Scope} {B0 H0 : Hp} {sds : List SD} {os : List (Addr × OV)} {pos p : Pos} {a b e : Expr} {es : List Expr} {P : D → Prop} {R : Addr → List (PySem.Str × D) → Prop}
theorem ex_own {C : Addr} {k : Nat} {Sf : SpD} {op : Operator} (F : OwD X.prog X.w X.K X.mg X.base C (PySem.dunder op.info.2) k Sf) (hr : Room k X.A)
    (h : EX X B0 H0 sds os a fun da => ∃ fs, da = .ins C fs ∧ EX X B0 H0 sds os b fun db => ∃ gs, db = .ins C gs ∧ Sf [da, db] P fun _ _ => False) : EX X B0 H0 sds os (.BinOp a op b pos) P := by
  obtain ⟨f, fd, ps, h1, h2, h3, h4, h5⟩ := F.ex
  refine ex_bin (op_own (E := fun _ _ _ => False) h5 hr h1 h2 h3 h4 passL) (h.imp fun da ⟨fs, e1, h'⟩ => h'.imp fun db ⟨gs, e2, hs⟩ => ?_)
  subst e1 e2
  intro B H v w eb i1 i2 Q q
  cases i1 with
  | ins s1 f1 => cases i2 with
    | ins s2 f2 => exact ⟨_, _, _, _, _, _, rfl, rfl, eb _ _ s1, eb _ _ s2, B, _, P, _, eb, .cons (.ins s1 f1) (.cons (.ins s2 f2) .nil), hs, fun v B2 H2 d g2 i2 p => q v B2 H2 d g2 i2 p, fun _ _ _ _ _ _ _ _ _ z => z.elim⟩
end
end OB
set_option Elab.async false
set_option linter.all false
set_option maxRecDepth 100000
set_option maxHeartbeats 4000000
namespace OB
open PySem PySem.Spec PyProof.Rows L2
/-! ### two clauses in a comprehension; enumerate of a tuple of the module; classes with defaults -/
section
variable {X : Cx} {N : List PySem.Str} {S scope : Scope} {B0 H0 : Hp} {sds : List SD} {os : List (Addr × OV)} {pos p tpos : Pos} {e elt tg iter tg1 iter1 : Expr} {es elts : List Expr} {P : List D → Prop} {kk : Nat}
theorem ix_enumK (c : Ctx X N S) {pos : Pos} (hm : X.mg "enumerate" = none) (h : EX X B0 H0 sds os e fun d => ∃ l, d = .tpk l ∧ P (enumD l)) (hg : glB S "enumerate" = true := by decide +kernel) (hs : starEach [e] X.env = [(false, eval e X.env)] := by rfl) :
    IX X B0 H0 sds os (.Tuple elts kk tpos) (.Call (.Name "enumerate" p) [e] [] pos) P :=
  ⟨_, pi_enumT (c.gl hg) hm (pa_cons pe_w pa_nil hs) hs, fun B H σ s R q => h B H σ s _ fun v B1 H1 d g1 i1 ⟨l, e1, p⟩ => by
    subst e1
    cases i1 with
    | @tpk a o its n xs _ h1 h2 h3 h4 h5 ha =>
      have sq : ∀ H : Hp, SqT X.K H a xs := fun H => .inr ⟨_, _, _, h1, h2, h3, h4, h5⟩
      refine ⟨a, xs, rfl, sq _, q _ B1 H1 _ g1 p ⟨fun k H hb hk => ?_, fun k H hb hk => ?_, fun k B2 H2 v H3 hb hb2 hk hy => ?_⟩⟩
      · rw [enumD_len] at hk
        obtain ⟨v, hv, _⟩ := ha.get (List.getElem?_eq_getElem hk)
        exact ⟨xs, v, sq _, hv⟩
      · rw [enumD_len] at hk
        exact ⟨xs, sq _, by rw [ha.len]; exact hk⟩
      · obtain ⟨T, x, e1, hT, e2, hy⟩ := hy
        subst e1; subst e2
        obtain ⟨d, hd, id⟩ := ha.got (hy xs (sq _))
        have g := Grow.new (o := .tup [.int (k : Nat), x]) hb2 hT
        exact ⟨_, _, enumD_get hd, g, .tup upd_same (.cons (.int _) (.cons (id.mono (hb.trans g.b)) .nil))⟩⟩
/-! two clauses -/
structure wI (X : Cx) (tg iter : Expr) (σ : L2.St) (H : Hp) (R : It → Hp → Prop) : Prop where
  run : ∀ (pins : List (Addr × Obj)) (s : Shared), Inv X pins σ H s → wpAny (model X.prog X.w) X.A (eval iter X.env) (fun v s1 => wpAny (model X.prog X.w) X.A (pyIter v) (PIE X pins σ tg R) X.xe s1) X.xe s
theorem IX.w {tg iter : Expr} (h : IX X B0 H0 sds os tg iter P) {B H : Hp} {σ : L2.St} (s : St X.K B0 H0 B H σ sds os) {R : It → Hp → Prop} (q : ∀ J B' H' l, Grow B H B' H' → P l → Walk X.K J B' l → R J H') : wI X tg iter σ H R := by
  obtain ⟨wi, h1, h2⟩ := h
  exact ⟨fun pins sh I => h1.run pins sh σ H R I (h2 B H σ s R q)⟩
theorem St.slots {K : PySem.W.Frag} {B H : Hp} {σ σ' : L2.St} {sds' : List SD} (s : St K B0 H0 B H σ sds os) (h : Slots K B σ' sds') : St K B0 H0 B H σ' sds' os := ⟨s.g, h, s.ow, s.fr, s.nd⟩
def Lc2Ok (X : Cx) (scope : Scope) (B0 H0 : Hp) (sds : List SD) (os : List (Addr × OV)) (t t1 : Tg) (vs vs1 : List Nat) (tg1 iter1 elt : Expr) (P : List D → Prop) (l : List D) : Prop :=
  ∃ (α β : Type) (L : List α) (enc : α → D) (M : α → List β) (enc1 : β → D) (g : α → β → D), l = L.map enc ∧ (L.flatMap M).length ≤ 100000 ∧
    (∀ x ∈ L, t.put (enc x) (wipeS sds vs) fun s' => ∀ X', Blk X scope X' → IX X' B0 H0 s' os tg1 iter1 fun l1 => l1 = (M x).map enc1 ∧ ∀ y ∈ M x, t1.put (enc1 y) (wipeS s' vs1) fun s2 => ∀ X', Blk X scope X' → EX X' B0 H0 s2 os elt (· = g x y)) ∧
    P (L.flatMap fun x => (M x).map (g x))
theorem flat_take {α β : Type} {L : List α} {M : α → List β} {k : Nat} {x : α} (h : L[k]? = some x) : (L.take (k + 1)).flatMap M = (L.take k).flatMap M ++ M x := by
  rw [List.take_succ, h, List.flatMap_append]
  simp
theorem flat_len {α β : Type} (L : List α) (M : α → List β) (k : Nat) : ((L.take k).flatMap M).length ≤ (L.flatMap M).length := by
  conv => rhs; rw [← List.take_append_drop k L, List.flatMap_append, List.length_append]
  omega
theorem flat_len2 {α β : Type} {L : List α} {M : α → List β} {k j : Nat} {x : α} (h : L[k]? = some x) : ((L.take k).flatMap M).length + ((M x).take j).length ≤ (L.flatMap M).length := by
  have h1 := flat_len L M (k + 1)
  rw [flat_take h, List.length_append] at h1
  have h2 : ((M x).take j).length ≤ (M x).length := by rw [List.length_take]; exact Nat.min_le_right ..
  omega
theorem flat_map_len {α β γ : Type} (L : List α) (M : α → List β) (g : α → β → γ) : (L.flatMap fun x => (M x).map (g x)).length = (L.flatMap M).length := by
  induction L with
  | nil => rfl
  | cons x l ih => rw [List.flatMap_cons, List.flatMap_cons, List.length_append, List.length_append, ih, List.length_map]
theorem el_lc2 (c : Ctx X N S) (own : List (PySem.Str × Nat)) (vs1 : List Nat) (t t1 : Tg) (hg : ∀ X', Blk X scope X' → PG X' tg (t.r X'.K)) (hg1 : ∀ X', Blk X scope X' → PG X' tg1 (t1.r X'.K))
    (hi : IX X B0 H0 sds os tg iter (Lc2Ok X scope B0 H0 sds os t t1 (own.map (·.2)) vs1 tg1 iter1 elt P))
    (hb : blkC N S scope own = true := by decide +kernel) (hv : (t.idx.all fun i => decide (i ∈ own.map (·.2))) = true := by decide) (hw : (vs1.all fun i => decide (i ∈ own.map (·.2))) = true := by decide) (hv1 : (t1.idx.all fun i => decide (i ∈ vs1)) = true := by decide)
    (hs : ∀ x, foldedSetIterable iter X.env x = pure x := by intro _; rfl) (hs1 : ∀ env x, foldedSetIterable iter1 env x = pure x := by intro _ _; rfl) :
    EL X B0 H0 sds os (.ListComp elt [⟨tg, iter, [], 0⟩, ⟨tg1, iter1, [], 0⟩] scope pos) P := fun B H σ s Q q => by
  obtain ⟨wi, hpi, hwi⟩ := hi
  have hv' : ∀ i ∈ t.idx, i ∈ own.map (·.2) := fun i h => of_decide_eq_true (List.all_eq_true.mp hv i h)
  have hw' : ∀ i ∈ vs1, i ∈ own.map (·.2) := fun i h => of_decide_eq_true (List.all_eq_true.mp hw i h)
  have hv1' : ∀ i ∈ t1.idx, i ∈ vs1 := fun i h => of_decide_eq_true (List.all_eq_true.mp hv1 i h)
  refine PE.to (pe_lc2 (vs1 := vs1) (g := t.r X.K) (g1 := t1.r X.K) (tt := tYes) (tt1 := tYes) (wi1 := fun σ H R => ∀ X', Blk X scope X' → wI X' tg1 iter1 σ H R) (te := fun σ H Q => ∀ X', Blk X scope X' → wE X' elt σ H Q) c.calm (by rw [c.hN]; exact c.nd) hpi (blkOk_by (by rw [c.hN, c.hS]; exact hb)) hw'
    (fun s H C cl fp => hg _ ⟨s, H, C, cl, fp, rfl⟩) (fun _ _ _ _ _ => pts_nil) (fun s H C cl fp => ⟨fun pins sh σ' H' R' I h => (h _ ⟨s, H, C, cl, fp, rfl⟩).run pins sh I⟩) (fun s H C cl fp => hg1 _ ⟨s, H, C, cl, fp, rfl⟩) (fun _ _ _ _ _ => pts_nil)
    (fun s H C cl fp => ⟨fun pins sh σ' H' Q' I h => (h _ ⟨s, H, C, cl, fp, rfl⟩).run pins sh I⟩) hs hs1) ?_
  refine hwi B H σ s _ fun J B1 H1 l g1 ⟨α, β, L, enc, M, enc1, g, hl, hz, ht, hp⟩ wk => ?_
  have s1 := s.grow g1
  intro Dl hD
  have bD : B1 Dl = none := Evl.fresh_back g1.bh hD
  have ll : l.length = L.length := by rw [hl, List.length_map]
  refine ⟨fun k m H' => m = L.length - k ∧ k ≤ L.length ∧ ∃ B' xs, Grow B1 H1 B' H' ∧ B' Dl = none ∧ H' Dl = some (.lst xs) ∧ IsAll X.K B' xs ((L.take k).flatMap fun x => (M x).map (g x)), ⟨L.length, by simp, Nat.zero_le _, B1, [], ⟨Evl.Ex.refl _, Evl.Ex.new hD, g1.bh.trans (Evl.Ex.new hD), fun _ h => .inl h⟩, bD, upd_same, .nil⟩, ?_⟩
  rintro k m H' ⟨rfl, hk, B', xs, gr, b', h', al⟩
  by_cases hlt : k < L.length
  · refine .inr ⟨wk.go k H' (gr.b.trans gr.bh) (by rw [ll]; exact hlt), fun H2 => k + 1 ≤ L.length ∧ ∃ B2 ys, Grow B1 H1 B2 H2 ∧ B2 Dl = none ∧ H2 Dl = some (.lst ys) ∧ IsAll X.K B2 ys ((L.take (k + 1)).flatMap fun x => (M x).map (g x)), fun H2 ⟨hk2, h2⟩ => ⟨L.length - (k + 1), by omega, rfl, hk2, h2⟩, fun x H2 hy => ?_⟩
    obtain ⟨d, B2, hd, g2, i2⟩ := wk.yld k B' H' x H2 gr.b gr.bh (by rw [ll]; exact hlt) hy
    obtain ⟨y, hy'⟩ : ∃ y, L[k]? = some y := ⟨_, List.getElem?_eq_getElem hlt⟩
    have ed : d = enc y := by
      rw [hl, List.getElem?_map, hy'] at hd
      exact (Option.some.inj hd).symm
    subst ed
    have ym : y ∈ L := List.mem_of_getElem? hy'
    have gr2 := gr.trans g2
    have s2 := (s1.grow gr2).wipe (own.map (·.2))
    have h2 : H2 Dl = some (.lst xs) := g2.h _ _ h'
    have b2 : B2 Dl = none := g2.out b' h'
    refine Tg.runW (vv := own.map (·.2)) hv' s2 i2 (ht y ym) fun σ3 sds3 we s3 kk => ⟨we.trans wipe_wipe, ?_⟩
    have al2 := IsAll.mono g2.b _ _ al
    unfold tYes; dsimp only
    rw [if_pos rfl]
    intro X' bx
    have hk' : X'.K = X.K := by obtain ⟨_, _, _, _, _, rfl⟩ := bx; rfl
    have s3' := s3
    rw [← hk'] at s3'
    refine IX.w (kk X' bx) s3' fun J1 B4 H4 l1 g4 ⟨e4, k4⟩ wk1 => ?_
    subst e4
    rw [hk'] at wk1
    have gr4 := gr2.trans g4
    have h4 : H4 Dl = some (.lst xs) := g4.h _ _ h2
    have b4 : B4 Dl = none := g4.out b2 h2
    have al4 := IsAll.mono g4.b _ _ al2
    have l1l : ((M y).map enc1).length = (M y).length := List.length_map _
    refine ⟨fun j m H' => m = (M y).length - j ∧ j ≤ (M y).length ∧ ∃ B' ys, Grow B1 H1 B' H' ∧ Ex B4 B' ∧ B' Dl = none ∧ H' Dl = some (.lst ys) ∧ IsAll X.K B' ys (((L.take k).flatMap fun x => (M x).map (g x)) ++ ((M y).take j).map (g y)), ⟨_, by simp; rfl, Nat.zero_le _, B4, xs, gr4, Evl.Ex.refl _, b4, h4, by simpa using al4⟩, ?_⟩
    rintro j m H5 ⟨rfl, hj, B5, ys, gr5, e5, b5, h5, al5⟩
    by_cases hjl : j < (M y).length
    · refine .inr ⟨wk1.go j H5 (e5.trans gr5.bh) (by rw [l1l]; exact hjl), fun H2 => j + 1 ≤ (M y).length ∧ ∃ B' ys, Grow B1 H1 B' H2 ∧ Ex B4 B' ∧ B' Dl = none ∧ H2 Dl = some (.lst ys) ∧ IsAll X.K B' ys (((L.take k).flatMap fun x => (M x).map (g x)) ++ ((M y).take (j + 1)).map (g y)), fun H2 ⟨hk2, h2⟩ => ⟨(M y).length - (j + 1), by omega, rfl, hk2, h2⟩, fun x H6 hy => ?_⟩
      obtain ⟨d, B6, hd, g6, i6⟩ := wk1.yld j B5 H5 x H6 e5 gr5.bh (by rw [l1l]; exact hjl) hy
      obtain ⟨z, hz'⟩ : ∃ z, (M y)[j]? = some z := ⟨_, List.getElem?_eq_getElem hjl⟩
      have ed : d = enc1 z := by
        rw [List.getElem?_map, hz'] at hd
        exact (Option.some.inj hd).symm
      subst ed
      have zm : z ∈ M y := List.mem_of_getElem? hz'
      have gr6 := gr5.trans g6
      have s6 := ((s1.grow gr6).slots (s3.sl.mono (g4.b.trans (e5.trans g6.b)))).wipe vs1
      have h6 : H6 Dl = some (.lst ys) := g6.h _ _ h5
      have b6 : B6 Dl = none := g6.out b5 h5
      refine Tg.runW (vv := vs1) hv1' s6 i6 (k4 z zm) fun σ7 sds7 we7 s7 kk7 => ⟨we7.trans wipe_wipe, ?_⟩
      have al6 := IsAll.mono g6.b _ _ al5
      dsimp only
      rw [if_pos rfl]
      intro X2 bx2
      have hk2 : X2.K = X.K := by obtain ⟨_, _, _, _, _, rfl⟩ := bx2; rfl
      have ex := kk7 X2 bx2
      have s7' := s7
      rw [← hk2] at s7'
      refine ex B6 H6 σ7 s7' _ fun w B8 H8 d8 g8 i8 e8 => ?_
      subst e8
      rw [hk2] at i8
      have gr8 := gr6.trans g8
      have h8 : H8 Dl = some (.lst ys) := g8.h _ _ h6
      have b8 : B8 Dl = none := g8.out b6 h6
      have al8 := IsAll.mono g8.b _ _ al6
      have len : ys.length ≤ 100000 := by
        have h9 := flat_len2 (M := M) (j := j) hy'
        rw [al8.len, List.length_append, flat_map_len, List.length_map]
        omega
      refine ⟨ys, h8, Nat.lt_of_le_of_lt len (by decide), hjl, B8, ys ++ [w], ⟨gr8.b, gr8.h.mut hD, Evl.Ex.mut gr8.bh b8, gr8.fr⟩, e5.trans (g6.b.trans g8.b), b8, upd_same, ?_⟩
      have et : (M y).take (j + 1) = (M y).take j ++ [z] := by rw [List.take_succ, hz']; rfl
      rw [et, List.map_append, ← List.append_assoc]
      exact al8.app (.cons i8 .nil)
    · have e : j = (M y).length := by omega
      subst e
      refine .inl ⟨wk1.stop _ H5 (e5.trans gr5.bh) (by rw [l1l]; exact Nat.le_refl _), hlt, B5, ys, gr5, b5, h5, ?_⟩
      rw [flat_take hy']
      rw [List.take_length] at al5
      exact al5
  · have e : k = L.length := by omega
    subst e
    refine .inl ⟨wk.stop _ H' (gr.b.trans gr.bh) (by rw [ll]; exact Nat.le_refl _), ?_⟩
    rw [List.take_length] at al
    exact q Dl xs B' H' _ (g1.trans gr) (Evl.fresh_back g1.h hD) b' h' al hp
end
/-! classes whose last parameters stand at their defaults -/
section
variable {P : Program} {w : World} {K : PySem.W.Frag} {mg : PySem.Str → Option Value} {base : Heap}
theorem MkD.imp {x : PySem.Str} {C : Addr} {k : Nat} {S S' : SpI} (h : MkD P w K mg base x C k S) (i : ∀ ds P R, S' ds P R → S ds P R) : MkD P w K mg base x C k S' := by
  obtain ⟨f, fd, ps, h1, h2, h3⟩ := h.init
  have e : ∀ vs H Q E, toSpI K C S' vs H Q E → toSpI K C S vs H Q E := fun vs H Q E ⟨a, dx, ws, B, ds, P', R, z1, z2, z3, z4, z5, z6, z7, z8⟩ => ⟨a, dx, ws, B, ds, P', R, z1, z2, z3, z4, z5, i _ _ _ z6, z7, z8⟩
  exact ⟨h.at', f, fd, ps, h1, ⟨fun vs H Q E z => h2.len vs H Q E (e _ _ _ _ z), fun A outer s H args us vs Q E z1 z2 z3 z4 z5 => h2.run A outer s H args us vs Q E z1 z2 z3 z4 (e _ _ _ _ z5)⟩, h3⟩
structure MkDd (P : Program) (w : World) (K : PySem.W.Frag) (mg : PySem.Str → Option Value) (base : Heap) (x : PySem.Str) (C : Addr) (k : Nat) (S : SpI) (dd : List D) : Prop where
  at' : mg x = some (.ref C)
  init : ∃ f fd ps dz dw, Mk K C f ∧ FnOk P w K mg base (L2.CX P w) k f fd ps (toSpI K C S) ∧ Binds K fd ps dz ∧ Vals dw dz ∧ ∀ B, IsAll K B dw dd
theorem MkDd.mono {x : PySem.Str} {C : Addr} {k k' : Nat} {S : SpI} {dd : List D} (h : MkDd P w K mg base x C k S dd) (l : k ≤ k') : MkDd P w K mg base x C k' S dd := by
  obtain ⟨f, fd, ps, dz, dw, h1, h2, h3⟩ := h.init
  exact ⟨h.at', f, fd, ps, dz, dw, h1, h2.mono l, h3⟩
end
section
variable {X : Cx} {N : List PySem.Str} {S scope : Scope} {B0 H0 : Hp} {sds : List SD} {os : List (Addr × OV)} {pos p : Pos} {e : Expr} {es : List Expr} {P : D → Prop} {k : Nat}
theorem ex_makeD (c : Ctx X N S) {x : PySem.Str} {C : Addr} {Sf : SpI} {dd : List D} (F : MkDd X.prog X.w X.K X.mg X.base x C k Sf dd) (hr : Room (k + 1) X.A) (h : EA X B0 H0 sds os (e :: es) fun ds => Sf (ds ++ dd) (fun fs => P (.ins C fs)) fun _ _ => False) (hg : glB S x = true := by decide +kernel)
    (hdb : (x == ("__debug__" : PySem.Str)) = false := by decide +kernel) (he : starEach (e :: es) X.env = (false, eval e X.env) :: starEach es X.env := by rfl) (hpl : (backTo pos (starEach es X.env)).any (·.1) = false := by rfl) : EX X B0 H0 sds os (.Call (.Name x p) (e :: es) [] pos) P := fun B H σ s Q q => by
  obtain ⟨f, fd, ps, dz, dw, M, F1, hb, hd, hw⟩ := F.init
  refine PE.to (pe_make (E := fun _ _ _ => False) M F1 hr (c.gl hg) F.at' hb hd passL pa_w hdb he hpl) ?_
  refine h B H σ s _ fun vs B1 H1 ds g1 i1 hs => ?_
  intro x dx hx hdx hne
  have bx : B1 x = none := Evl.fresh_back g1.bh hx
  have eh : Ex H1 (without (upd (upd H1 dx (.own x)) x (.ins C dx [])) x) := fun b o q => by
    have b1 : b ≠ x := fun z => by rw [z, hx] at q; cases q
    have b2 : b ≠ dx := fun z => by rw [z, hdx] at q; cases q
    rw [without_ne b1, upd_ne b1, upd_ne b2]; exact q
  refine ⟨x, dx, vs ++ dw, B1, ds ++ dd, _, _, rfl, upd_same, bx, fun b o q => ?_, i1.app (hw B1), hs, fun B' H' us fs g ha' hh hf hp => ⟨rfl, ?_⟩, fun _ _ _ _ _ _ _ _ _ z => z.elim⟩
  · have q' := g1.bh _ _ q
    have b1 : b ≠ x := fun z => by rw [z, hx] at q'; cases q'
    have b2 : b ≠ dx := fun z => by rw [z, hdx] at q'; cases q'
    rw [upd_ne b1, upd_ne b2]; exact q'
  · have g2 : Grow B1 H1 (upd B' x (.ins C dx us)) H' := by
      refine ⟨g.b.trans (Evl.Ex.new ha'), eh.trans g.h, ex_join g.bh hh, fun b q => ?_⟩
      by_cases hb : b = x
      · subst hb; exact .inr (.inl hx)
      · rw [upd_ne hb] at q
        rcases g.fr b q with z | z
        · exact .inl z
        · by_cases hd : b = dx
          · exact .inr (.inl (by rw [hd]; exact hdx))
          · unfold Nw at z; rw [without_ne hb, upd_ne hb, upd_ne hd] at z; exact .inr z
    exact q _ _ _ _ (g1.trans g2) (.ins upd_same (IsFs.mono (Evl.Ex.new ha') _ _ hf)) hp
end
end OB
set_option Elab.async false
set_option linter.all false
set_option maxRecDepth 100000
set_option maxHeartbeats 4000000
namespace OB
open PySem PySem.Spec PyProof.Rows L2
/-! ### the shape of nested data; is not True -/
def dpt (k : Nat) (d : D) : Prop := pok d = true ∧ PyData.canLay0 (py d) = true ∧ PyData.depth (py d) ≤ k
theorem dpt_all {k : Nat} : ∀ {l : List D}, (∀ d ∈ l, dpt k d) → pokAll l = true ∧ PyData.canLayAll0 (pyAll l) = true ∧ PyData.depthAll (pyAll l) ≤ k
  | [], _ => ⟨by simp [pokAll], by simp [pyAll, PyData.canLayAll0], by simp [pyAll, PyData.depthAll]⟩
  | d :: l, h => by
    obtain ⟨a1, a2, a3⟩ := h d (List.mem_cons_self ..)
    obtain ⟨b1, b2, b3⟩ := dpt_all (l := l) fun x hx => h x (List.mem_cons_of_mem _ hx)
    rw [pokAll, pyAll, PyData.canLayAll0, PyData.depthAll, a1, a2, b1, b2]
    exact ⟨rfl, rfl, Nat.max_le.mpr ⟨a3, b3⟩⟩
theorem dpt_lst {k : Nat} {l : List D} (h : ∀ d ∈ l, dpt k d) : dpt (k + 1) (.lst l) := by
  obtain ⟨h1, h2, h3⟩ := dpt_all h
  unfold dpt
  rw [pok, py, PyData.canLay0, PyData.depth]
  exact ⟨h1, h2, Nat.succ_le_succ h3⟩
theorem dpt_tup {k : Nat} {l : List D} (h : ∀ d ∈ l, dpt k d) : dpt (k + 1) (.tup l) := by
  obtain ⟨h1, h2, h3⟩ := dpt_all h
  unfold dpt
  rw [pok, py, PyData.canLay0, PyData.depth]
  exact ⟨h1, h2, Nat.succ_le_succ h3⟩
theorem dpt_int (i : Int) : dpt 0 (.int i) := by unfold dpt; rw [pok, py, PyData.canLay0, PyData.depth]; exact ⟨rfl, rfl, Nat.le_refl _⟩
theorem dpt.mono {k m : Nat} {d : D} (h : dpt k d) (l : k ≤ m) : dpt m d := ⟨h.1, h.2.1, Nat.le_trans h.2.2 l⟩
theorem dpt.shp {k : Nat} {d : D} (h : dpt k d) (l : k ≤ 64 := by decide) : shp d = true := by
  unfold OB.shp SeqAt.shaped
  rw [h.1, h.2.1, decide_eq_true (Nat.le_trans h.2.2 l)]; rfl
theorem dpt_iT (l : List Int) : dpt 1 (iT l) := dpt_tup fun d hd => by obtain ⟨i, _, rfl⟩ := List.mem_map.mp hd; exact dpt_int i
theorem dpt_iL (l : List Int) : dpt 1 (iL l) := dpt_lst fun d hd => by obtain ⟨i, _, rfl⟩ := List.mem_map.mp hd; exact dpt_int i
theorem dpt_iTs (l : List (List Int)) : dpt 2 (.tup (l.map iT)) := dpt_tup fun d hd => by obtain ⟨i, _, rfl⟩ := List.mem_map.mp hd; exact dpt_iT i
theorem dpt_iLs (l : List (List Int)) : dpt 2 (.lst (l.map iL)) := dpt_lst fun d hd => by obtain ⟨i, _, rfl⟩ := List.mem_map.mp hd; exact dpt_iL i
section
variable {X : Cx} {N : List PySem.Str} {S scope : Scope} {B0 H0 : Hp} {sds : List SD} {os : List (Addr × OV)} {pos : Pos} {a b : Expr}
theorem tx_isntB {P : Bool → Prop} (h : EX X B0 H0 sds os a fun da => ∃ k, da = .bl k ∧ EX X B0 H0 sds os b fun db => ∃ l, db = .bl l ∧ P (!decide (k = l))) (hm : behindInMarks .IsNot b = false := by rfl) : TX X B0 H0 sds os (.Compare a [.IsNot] [b] pos) P :=
  tx_cmp op_isnot_bl hm (h.imp fun da ⟨k, e1, h'⟩ => h'.imp fun db ⟨l, e2, p⟩ => by
    subst e1 e2
    intro B H v w e i1 i2 Q q
    cases i1; cases i2
    exact ⟨_, _, rfl, rfl, q _ B H _ (Grow.refl e) (.bl _) ⟨_, rfl, p⟩⟩)
/-- tuple(range(n)) -/
theorem ex_tupleRng (c : Ctx X N S) {p p2 pos2 : Pos} {e : Expr} {P : D → Prop} (hm : X.mg "tuple" = none) (hm2 : X.mg "range" = none) (h : EX X B0 H0 sds os e fun d => ∃ n : Nat, d = .int (n : Int) ∧ n ≤ 100000 ∧ P (.tup (rngD 0 n))) (hg : glB S "tuple" = true := by decide +kernel) (hg2 : glB S "range" = true := by decide +kernel) (hs : starEach [e] X.env = [(false, eval e X.env)] := by rfl)
    (na : starEach [.Call (.Name "range" p2) [e] [] pos2] X.env = (false, eval (.Call (.Name "range" p2) [e] [] pos2) X.env) :: starEach [] X.env := by rfl) : EX X B0 H0 sds os (.Call (.Name "tuple" p) [.Call (.Name "range" p2) [e] [] pos2] [] pos) P := fun B H σ s Q q => by
  refine PE.to (pe_tupRg c.calm (c.gl hg) hm (prg_1 (c.gl hg2) hm2 pe_w hs) na) ?_
  refine h B H σ s _ fun v B1 H1 d g1 i1 ⟨n, e1, hn, hp⟩ => ?_
  subst e1; cases i1
  refine ⟨(n : Int), rfl, RgOk.of_le (by omega) (by omega) (by omega) (by omega), fun q' hq => ?_⟩
  have g2 := Grow.new (o := .tup (rgV 0 (n : Int))) g1.bh hq
  refine q _ _ _ _ (g1.trans g2) (.tup upd_same ?_) hp
  have e : rgV 0 (n : Int) = ((List.range n).map fun (i : Nat) => (0 + (i : Int) : Int)).map V.int := by
    unfold rgV
    rw [List.map_map, Int.sub_zero, Int.toNat_natCast] <;> rfl
  have e2 : rngD 0 n = ((List.range n).map fun (i : Nat) => (0 + (i : Int) : Int)).map D.int := by
    unfold rngD
    rw [List.map_map] <;> rfl
  rw [e, e2]
  exact of_ints
end
/-! a method's promise -/
section
variable {P : Program} {w : World} {K : PySem.W.Frag} {mg : PySem.Str → Option Value} {base : Heap} {name qual : PySem.Str} {params : Arguments} {body : List Stmt} {sc : Scope} {dvs : List V} {kws : List (PySem.Str × V)} {f : Addr} {fd : FuncData} {N ps : List PySem.Str} {k : Nat}
theorem fnok3 {Sf : SpD} (F : FunD K name qual params body sc dvs kws f fd) (Sc : FnScope N ps sc) (len : ∀ ds P R, Sf ds P R → ds.length = ps.length) (h : Bod P w K mg base k N sc body Sf) : FnOk P w K mg base (L2.CX P w) (k + 1) f fd ps (toSp K Sf) := by
  obtain ⟨oc, od, dV, kV, doc, pm, an, cdv, ct, osl, rfl, lk, hcd, _, _⟩ := F.ex
  refine fn_of lk hcd Sc (fun vs H Q E ⟨B, ds, P, R, _, h1, h2, _⟩ => by rw [h1.len]; exact len _ _ _ h2) fun A outer s H vs Q E hr hsp => ⟨_, pss_w, ?_⟩
  obtain ⟨B, ds, P', R, eb, h1, h2, h3, h4⟩ := hsp
  have go := h (cxOf (L2.CX P w) P w K mg base N qual sc f cdv A outer s H E) rfl rfl rfl rfl rfl hr (ctxT_of Sc.nd) ds P' R h2 B H ⟨E, takes_of rfl rfl rfl rfl, h4⟩
  refine wSs.imp (go B B H (L2.start N vs) (Evl.Ex.refl _) ⟨Grow.refl eb, slots_ini h1, (fun _ h => (nomatch h)), (fun _ h => (nomatch h)), List.nodup_nil⟩) (fun σ' H' ⟨B', sds', os', _, s', p⟩ => h3 _ _ _ _ s'.g .non p) (fun v H' ⟨B', d, _, g, i, p⟩ => h3 _ _ _ _ g i p) (fun σ' H' ⟨B', sds', os', _, s', p⟩ => p.elim) (fun σ' H' ⟨B', sds', os', _, s', p⟩ => p.elim)
end
end OB
set_option Elab.async false
set_option linter.all false
set_option maxRecDepth 100000
set_option maxHeartbeats 4000000
namespace OB
open PySem PySem.Spec PyProof.Rows L2
/-! ### the head's look with some addresses more -/
def asY (n : Nat) (more : PySem.W.Frag → List Addr) (g : Addr → Option Obj) : List Addr := (fun as => as ++ more (He.frT g as)) (He.asD g n)
def obsY (n : Nat) (more : PySem.W.Frag → List Addr) (fa : List He.Fa) (fn : List He.DefD) (ex : PySem.W.Frag → Bool) (g : Addr → Option Obj) : He.AlX := (fun K => (He.obsT fa fn [] K, ex K)) (He.frT g (asY n more g))
theorem saysY_of {K : PySem.W.Frag} {fa : List He.Fa} {fn : List He.DefD} {ex : PySem.W.Frag → Bool} {w : World} {h : Heap} (e : ((He.obsT fa fn [] K, ex K) : He.AlX) = He.valX fn [] w) : He.SaysX fa fn [] [] ex w h K :=
  ⟨congrArg (fun z : He.AlX => z.1) e, congrArg (fun z : He.AlX => z.2) e, fun p hp => (nomatch hp), fun p hp => (nomatch hp), fun p hp => (nomatch hp)⟩
def hookY (n : Nat) (more : PySem.W.Frag → List Addr) (fa : List He.Fa) (fn : List He.DefD) (ex : PySem.W.Frag → Bool) : PySem.W.Hook where
  α := He.AlX
  obs := fun s => obsY n more fa fn ex s.heap.get?
  val := fun w => He.valX fn [] w
  says := fun w h => ∃ K : PySem.W.Frag, K.In h ∧ He.SaysX fa fn [] [] ex w h K
  of := fun _ _ e => ⟨_, He.frT_in, saysY_of e⟩
  keeps := fun _ _ _ ⟨K, hK, c⟩ k => ⟨K, PySem.W.Frag.In.keeps hK k, ⟨c.t, c.more, c.hd, c.out, fun p hp => k _ _ (c.empty p hp)⟩⟩
theorem obsY_eq {n : Nat} {more : PySem.W.Frag → List Addr} {fa : List He.Fa} {fn : List He.DefD} {ex : PySem.W.Frag → Bool} {g : Addr → Option Obj} {s : Shared} (h : ∀ a, g a = s.heap.get? a) : obsY n more fa fn ex g = (hookY n more fa fn ex).obs s := by
  have e : g = s.heap.get? := funext h
  rw [e] <;> rfl
end OB
set_option Elab.async false
set_option linter.all false
set_option maxRecDepth 100000
set_option maxHeartbeats 4000000
namespace OB
open PySem PySem.Spec PyProof.Rows L2
/-! ### items of an owned list; in of an own class; xs.index of data -/
theorem OwD.mono {P : Program} {w : World} {K : PySem.W.Frag} {mg : PySem.Str → Option Value} {base : Heap} {C : Addr} {m : PySem.Str} {k k' : Nat} {S : SpD} (h : OwD P w K mg base C m k S) (l : k ≤ k') : OwD P w K mg base C m k' S := by
  obtain ⟨f, fd, ps, h1, h2, h3, h4, h5⟩ := h.ex
  exact ⟨f, fd, ps, h1, h2, h3, h4, h5.mono l⟩
section
variable {X : Cx} {N : List PySem.Str} {S scope : Scope} {B0 H0 : Hp} {sds : List SD} {os : List (Addr × OV)} {pos p : Pos} {a b e : Expr} {es : List Expr} {P : D → Prop} {k : Nat}
/-- xs[i], xs an owned list -/
theorem ex_ixO (c : Ctx X N S) (i j : Nat) {x : PySem.Str} {px : Pos} {ad : Addr} {l : List D} (h : EX X B0 H0 sds os b fun db => ∃ z y, db = .int z ∧ atI l z = some y ∧ P y) (hj : os[j]? = some (ad, .lst l) := by rfl) (hi : sds[i]? = some (.v (.ref ad)) := by rfl)
    (hN : N[i]? = some x := by rfl) (hv : visB S x = true := by decide +kernel) (hd : (x == ("__debug__" : PySem.Str)) = false := by decide +kernel) (hcd : (x == ("__classdict__" : PySem.Str)) = false := by decide +kernel) (hs : PlainIx b := by exact fun _ _ => rfl) :
    EX X B0 H0 sds os (.Subscript (.Name x px) b pos) P := fun B H σ s Q q => by
  refine PE.to (pe_ix ix_seq (pe_var (i := i) (by rw [c.hN]; exact hN) (c.vis hv) hd hcd) pe_w hs) ⟨.ref ad, s.varV hi, ?_⟩
  refine h B H σ s _ fun w B2 H2 d' g2 i2 ⟨z, y, e1, hy, pp⟩ => ?_
  subst e1
  cases i2
  obtain ⟨xs, hx, ha⟩ := (s.grow g2).ownAt hj
  obtain ⟨v, hv', iv⟩ := ha.atI hy
  exact .inl ⟨_, _, _, v, rfl, rfl, SqL.of hx, hv', q v B2 H2 y g2 iv pp⟩
end
/-! in -/
def rInOwn (C : Addr) (sp : Sp) (E : XK) : R2 := fun x y H Q => ∃ b dy gs, y = .ref b ∧ H b = some (.ins C dy gs) ∧ sp [y, x] H (fun v H' => ∃ t, v = .bl t ∧ Q (.bl t) H') E
theorem op_inOwn {X : Cx} {CX : CXT} {C f : Addr} {fd : FuncData} {ps : List PySem.Str} {sp : Sp} {n : Nat} {E : XK} (F : FnOk X.prog X.w X.K X.mg X.base CX n f fd ps sp) (hr : Room n X.A)
    (hs : PySem.W.findIn X.K (.ref C) "__contains__" = some (some (.ref f))) (hf : PySem.W.isFn X.K (.ref f) = true) (hb : Binds X.K fd ps []) (hx : Passes CX X E) : OpR X (compareOp .In) (rInOwn C sp E) := by
  intro pins s σ H x y v u Q I rx ry hq
  obtain ⟨b, dy, gs, rfl, hb', hsp⟩ := hq
  cases ry
  obtain ⟨mB, J, _⟩ := ins_get I.hok hb'
  obtain ⟨od, J, _⟩ := J.look
  obtain ⟨m, hF⟩ := I.fr
  refine PySem.W.in_K hF I.ok.mod.kin J hs hf ?_
  refine wpAny_mono (run_fn (us := [.ref b, v]) (vs := [.ref b, x]) F hr hb .nil hx I (.cons rfl (.cons rx .nil)) hsp) (fun r s' q => ?_) fun _ _ e => e
  obtain ⟨z, H', I', rz, t, ez, hz⟩ := q
  subst ez
  cases rz
  exact PySem.wpAny_truthy_bool ⟨.bl t, H', I', rfl, hz⟩
section
variable {X : Cx} {N : List PySem.Str} {S scope : Scope} {B0 H0 : Hp} {sds : List SD} {os : List (Addr × OV)} {pos p : Pos} {a b e : Expr} {es : List Expr} {P : D → Prop} {k : Nat}
theorem ex_inOwn {C : Addr} {Sf : SpD} (F : OwD X.prog X.w X.K X.mg X.base C "__contains__" k Sf) (hr : Room k X.A) (hm : behindInMarks .In b = false := by rfl)
    (h : EX X B0 H0 sds os a fun da => EX X B0 H0 sds os b fun db => ∃ gs, db = .ins C gs ∧ Sf [db, da] (fun d => ∃ t, d = .bl t ∧ P (.bl t)) fun _ _ => False) : EX X B0 H0 sds os (.Compare a [.In] [b] pos) P := by
  obtain ⟨f, fd, ps, h1, h2, h3, h4, h5⟩ := F.ex
  refine ex_cmp (op_inOwn (E := fun _ _ _ => False) h5 hr h1 h2 h4 passL) hm (h.imp fun da h' => h'.imp fun db ⟨gs, e2, hs⟩ => ?_)
  subst e2
  intro B H v w eb i1 i2 Q q
  cases i2 with
  | ins s2 f2 =>
    refine ⟨_, _, _, rfl, eb _ _ s2, B, _, _, _, eb, .cons (.ins s2 f2) (.cons i1 .nil), hs, fun v B2 H2 d g2 i2 ⟨t, e, p⟩ => ?_, fun _ _ _ _ _ _ _ _ _ z => z.elim⟩
    subst e
    cases i2
    exact ⟨t, rfl, q _ B2 H2 _ g2 (.bl t) p⟩
/-- xs.index(d), data -/
theorem ex_indexD {pa : Pos} (hr : Room k X.A) (h : EX X B0 H0 sds os a fun da => ∃ l : List D, da = .lst l ∧ EX X B0 H0 sds os b fun db => ∃ (j : Nat) (y : D), shp (.lst l) = true ∧ shp db = true ∧ l[j]? = some y ∧ eqd y db = true ∧ (∀ m z, m < j → l[m]? = some z → eqd z db = false) ∧ P (.int (j : Int)))
    (hbase : attributeBase a "index" X.env (eval a X.env) = eval a X.env := by rfl)
    (hfew : ((backTo pos (starEach [b] X.env)).all (fun x => !x.1) && (backToKw pos (keywordEach [] X.env)).all (fun x => x.1.isSome)
      && decide ([b].length + ([] : List Keyword).length + (if ([] : List Keyword).isEmpty then 0 else 1) < 30)) = true := by rfl)
    (hline : (pa.endLine == pos.line) = true := by rfl) (hst : starEach [b] X.env = [(false, eval b X.env)] := by rfl) : EX X B0 H0 sds os (.Call (.Attribute a "index" pa) [b] [] pos) P := fun B H σ s Q q => by
  have hu := hr.un
  refine PE.to (pe_bm PySem.F.plainAttrs_list PySem.F.slot_list_index PySem.F.type_list_index (mt_indexD (by omega)) pe_w (pa_cons pe_w pa_nil hst) hbase hfew hline hst rfl) ?_
  refine h B H σ s _ fun v B1 H1 d g1 i1 ⟨l, e1, k1⟩ => ?_
  subst e1
  cases i1 with
  | @lst ad xs l hs ha =>
    refine ⟨.inl ⟨rfl, _, SqL.of (g1.bh _ _ hs)⟩, ?_⟩
    refine k1 B1 H1 σ (s.grow g1) _ fun w B2 H2 d2 g2 i2 ⟨j, y, sl, sd, hj, hy, hno, hp⟩ => ?_
    have dl : Is X.K B2 (.ref ad) (.lst l) := .lst (g2.b _ _ hs) (IsAll.mono g2.b _ _ ha)
    have sl' := sl
    have sd' := sd
    unfold shp at sl sd
    rw [Bool.and_eq_true] at sl sd
    have gt : ∀ (m : Nat) (z : PyData), (pyAll l)[m]? = some z → ∃ x, l[m]? = some x ∧ z = py x := by
      intro m
      have key : ∀ (l : List D) (m : Nat), (pyAll l)[m]? = (l[m]?).map py := by
        intro l
        induction l with
        | nil => intro m; simp [pyAll]
        | cons x r ih => intro m; cases m with
          | zero => simp [pyAll]
          | succ m => rw [pyAll, List.getElem?_cons_succ, List.getElem?_cons_succ]; exact ih m
      intro z hz
      rw [key] at hz
      cases hx : l[m]? with
      | none => rw [hx] at hz; cases hz
      | some x => rw [hx] at hz; exact ⟨x, rfl, (Option.some.inj hz).symm⟩
    have gp : (pyAll l)[j]? = some (py y) := by
      have key : ∀ (l : List D) (m : Nat), (pyAll l)[m]? = (l[m]?).map py := by
        intro l
        induction l with
        | nil => intro m; simp [pyAll]
        | cons x r ih => intro m; cases m with
          | zero => simp [pyAll]
          | succ m => rw [pyAll, List.getElem?_cons_succ, List.getElem?_cons_succ]; exact ih m
      rw [key, hj]; rfl
    refine ⟨ad, w, py d2, pyAll l, j, py y, rfl, rfl, Is.dp g2.bh (.lst l) _ dl sl.1, Is.dp g2.bh d2 _ i2 sd.1, sl.2, sd.2, gp, hy, fun m z' hm hz => ?_, q _ B2 H2 _ (g1.trans g2) (.int _) hp⟩
    obtain ⟨x, hx, rfl⟩ := gt m z' hz
    exact hno m x hm hx
end
/-! tests -/
section
variable {X : Cx} {N : List PySem.Str} {S scope : Scope} {B0 H0 : Hp} {sds : List SD} {os : List (Addr × OV)} {pos p : Pos} {a b e : Expr} {k : Nat} {P : Bool → Prop}
theorem tx_din (c : Ctx X N S) (hr : Room k X.A) (i j : Nat) {x : PySem.Str} {ad : Addr} {m : DM} (h : EX X B0 H0 sds os e fun d => ∃ ks, d = keyD ks ∧ P (valM m ks).isSome) (hj : os[j]? = some (ad, .dct m) := by rfl) (hi : sds[i]? = some (.v (.ref ad)) := by rfl)
    (hN : N[i]? = some x := by rfl) (hv : visB S x = true := by decide +kernel) (hd : (x == ("__debug__" : PySem.Str)) = false := by decide +kernel) (hcd : (x == ("__classdict__" : PySem.Str)) = false := by decide +kernel)
    (hm : behindInMarks .In (.Name x p) = false := by rfl) : TX X B0 H0 sds os (.Compare e [.In] [.Name x p] pos) P := fun B H σ s Q q => by
  have hu := hr.units
  obtain ⟨kvs, hp, hk⟩ := s.ownG hj
  refine PT.to (pt_cmp (pc_din (by omega) pe_w (pe_var (i := i) (by rw [c.hN]; exact hN) (c.vis hv) hd hcd)) hm) ?_
  refine h B H σ s _ fun v B1 H1 d g1 i1 ⟨ks, e2, pp⟩ => ?_
  subst e2
  obtain ⟨bb, rfl, eb⟩ := is_key i1
  exact ⟨.ref ad, s.varV hi, ad, _, rfl, DGet.t (g1.h _ _ hp) (g1.bh _ _ eb), _, rfl, by rw [hk.isSome]; exact q _ B1 H1 g1 pp⟩
theorem tx_dnin (c : Ctx X N S) (hr : Room k X.A) (i j : Nat) {x : PySem.Str} {ad : Addr} {m : DM} (h : EX X B0 H0 sds os e fun d => ∃ ks, d = keyD ks ∧ P (!(valM m ks).isSome)) (hj : os[j]? = some (ad, .dct m) := by rfl) (hi : sds[i]? = some (.v (.ref ad)) := by rfl)
    (hN : N[i]? = some x := by rfl) (hv : visB S x = true := by decide +kernel) (hd : (x == ("__debug__" : PySem.Str)) = false := by decide +kernel) (hcd : (x == ("__classdict__" : PySem.Str)) = false := by decide +kernel)
    (hm : behindInMarks .NotIn (.Name x p) = false := by rfl) : TX X B0 H0 sds os (.Compare e [.NotIn] [.Name x p] pos) P := fun B H σ s Q q => by
  have hu := hr.units
  obtain ⟨kvs, hp, hk⟩ := s.ownG hj
  refine PT.to (pt_cmp (pc_dnotin (by omega) pe_w (pe_var (i := i) (by rw [c.hN]; exact hN) (c.vis hv) hd hcd)) hm) ?_
  refine h B H σ s _ fun v B1 H1 d g1 i1 ⟨ks, e2, pp⟩ => ?_
  subst e2
  obtain ⟨bb, rfl, eb⟩ := is_key i1
  exact ⟨.ref ad, s.varV hi, ad, _, rfl, DGet.t (g1.h _ _ hp) (g1.bh _ _ eb), _, rfl, by rw [hk.isSome]; exact q _ B1 H1 g1 pp⟩
theorem tx_dinD (hr : Room k X.A) (h : EX X B0 H0 sds os e fun dk => EX X B0 H0 sds os a fun d => ∃ ks m, dk = keyD ks ∧ d = .dct m ∧ P (valM m ks).isSome) (hm : behindInMarks .In a = false := by rfl) : TX X B0 H0 sds os (.Compare e [.In] [a] pos) P := fun B H σ s Q q => by
  have hu := hr.units
  refine PT.to (pt_cmp (pc_din (by omega) pe_w pe_w) hm) ?_
  refine h B H σ s _ fun v B1 H1 d g1 i1 k1 => k1 B1 H1 σ (s.grow g1) _ fun w B2 H2 d2 g2 i2 ⟨ks, m, e1, e2, pp⟩ => ?_
  subst e1 e2
  obtain ⟨bb, rfl, eb⟩ := is_key i1
  cases i2 with
  | dct hs hk => exact ⟨_, _, rfl, DGet.t (g2.bh _ _ hs) (g2.bh _ _ (g2.b _ _ eb)), _, rfl, by rw [hk.isSome]; exact q _ B2 H2 (g1.trans g2) pp⟩
theorem tx_dninD (hr : Room k X.A) (h : EX X B0 H0 sds os e fun dk => EX X B0 H0 sds os a fun d => ∃ ks m, dk = keyD ks ∧ d = .dct m ∧ P (!(valM m ks).isSome)) (hm : behindInMarks .NotIn a = false := by rfl) : TX X B0 H0 sds os (.Compare e [.NotIn] [a] pos) P := fun B H σ s Q q => by
  have hu := hr.units
  refine PT.to (pt_cmp (pc_dnotin (by omega) pe_w pe_w) hm) ?_
  refine h B H σ s _ fun v B1 H1 d g1 i1 k1 => k1 B1 H1 σ (s.grow g1) _ fun w B2 H2 d2 g2 i2 ⟨ks, m, e1, e2, pp⟩ => ?_
  subst e1 e2
  obtain ⟨bb, rfl, eb⟩ := is_key i1
  cases i2 with
  | dct hs hk => exact ⟨_, _, rfl, DGet.t (g2.bh _ _ hs) (g2.bh _ _ (g2.b _ _ eb)), _, rfl, by rw [hk.isSome]; exact q _ B2 H2 (g1.trans g2) pp⟩
end
end OB
set_option Elab.async false
set_option linter.all false
set_option maxRecDepth 100000
set_option maxHeartbeats 4000000
namespace OB
open PySem PySem.Spec PyProof.Rows L2
/-! a comprehension stored under a name, owned -/
section
variable {X : Cx} {N : List PySem.Str} {S scope : Scope} {B0 H0 : Hp} {sds : List SD} {os : List (Addr × OV)} {E : DE} {pos spos p : Pos} {a b e elt tg iter cond : Expr} {es : List Expr} {P : D → Prop} {k : Nat}
theorem g1_setLcO0 (c : CtxD X N S) (i : Nat) {y : PySem.Str} {py : Pos} (own : List (PySem.Str × Nat)) (t : Tg) (hg : ∀ X', Blk X scope X' → PG X' tg (t.r X'.K))
    (hi : IX X B0 H0 sds os tg iter (LcOk0 X scope B0 H0 sds os t (own.map (·.2)) elt fun l => ∀ q, E.nx (sds.set i (.v (.ref q))) ((q, .lst l) :: os))) (hy : N[i]? = some y := by rfl) (hyl : S.names.lookup y = some .local := by decide +kernel)
    (hb : blkC N S scope own = true := by decide +kernel) (hv : (t.idx.all fun i => decide (i ∈ own.map (·.2))) = true := by decide) (hs : ∀ x, foldedSetIterable iter X.env x = pure x := by intro _; rfl)
    (hbk : S.kind = .function := by rfl) (hln : (py.line == pos.line) = true := by rfl) (hna : (scope.names.any fun (n, k) => n == y && (k == .local || k == .cell)) = false := by decide +kernel) :
    Go1 X B0 H0 sds os E (.Assign [.Name y py] (.ListComp elt [⟨tg, iter, [], 0⟩] scope pos) spos) := fun A B H σ ea s => by
  obtain ⟨wi, hpi, hw⟩ := hi.imp (P' := LcOk X scope B0 H0 sds os t (own.map (·.2)) (fun _ b => b = true) elt fun l => ∀ q, E.nx (sds.set i (.v (.ref q))) ((q, .lst l) :: os)) fun l ⟨α, L, enc, g, h1, h2, h3, h4⟩ =>
    ⟨α, L, enc, fun _ => true, g, h1, h2, fun x hx => Tg.put_imp (h3 x hx) fun s k => ⟨rfl, fun _ => k⟩, by rw [List.filter_eq_self.mpr (fun _ _ => rfl)]; exact h4⟩
  have hv' : ∀ i ∈ t.idx, i ∈ own.map (·.2) := fun i h => of_decide_eq_true (List.all_eq_true.mp hv i h)
  refine PS.to (ps_setLc (i := i) (g := t.r X.K) (tt := tYes) (te := fun σ H Q => ∀ X', Blk X scope X' → wE X' elt σ H Q) c.calm (by rw [c.hN]; exact c.nd) (by rw [c.hN]; exact hy) (by rw [c.hS]; exact hyl) (sw_true (by rw [c.hS]; exact hbk) (by rw [c.hS]; exact hyl) hln hna) hpi (blkOk_by (by rw [c.hN, c.hS]; exact hb)) (fun s H C cl fp => hg _ ⟨s, H, C, cl, fp, rfl⟩) (fun _ _ _ _ _ => pts_nil) (fun s H C cl fp => ⟨fun pins sh σ' H' Q' I h => (h _ ⟨s, H, C, cl, fp, rfl⟩).run pins sh I⟩) hs) ?_
  refine lc_run hv' (fun B H σ sds' f s' hT Q q => ?_) hw s fun p xs B' H' l g h1 h2 h3 i1 pl => ?_
  · subst hT
    exact q B H (Grow.refl s'.g.bh)
  · exact ⟨_, _, _, ea.trans g.b, (s.grow g).add (ov := .lst l) h2 (Evl.fresh_back s.g.h h1) rfl (s.notin h1) ⟨xs, h3, i1⟩, pl p⟩
end
end OB
set_option Elab.async false
set_option linter.all false
set_option maxRecDepth 100000
set_option maxHeartbeats 4000000
namespace OB
open PySem PySem.Spec PyProof.Rows L2
/-! ### sorted lists of lists of ints are told by their members -/
theorem srtLperm (l : List (List Int)) : (srtL l).Perm l := List.mergeSort_perm _ _
theorem listInt_anti {a b : List Int} (h1 : a ≤ b) (h2 : b ≤ a) : a = b := List.le_antisymm h1 h2
theorem srtLuniq : ∀ {l m : List (List Int)}, l.Pairwise (· ≤ ·) → m.Pairwise (· ≤ ·) → l.Perm m → l = m
  | [], m, _, _, p => (List.nil_perm.mp p).symm
  | a :: l, [], _, _, p => absurd p.symm (by simp)
  | a :: l, b :: m, h1, h2, p => by
    have hab : a = b := by
      have q1 : a ∈ b :: m := p.mem_iff.mp (by simp)
      have q2 : b ∈ a :: l := p.mem_iff.mpr (by simp)
      rcases List.mem_cons.mp q1 with z | z
      · exact z
      · rcases List.mem_cons.mp q2 with y | y
        · exact y.symm
        · exact listInt_anti ((List.pairwise_cons.mp h1).1 b y) ((List.pairwise_cons.mp h2).1 a z)
    subst hab
    rw [srtLuniq (List.pairwise_cons.mp h1).2 (List.pairwise_cons.mp h2).2 ((List.perm_cons a).mp p)]
theorem srtLsorted (l : List (List Int)) : (srtL l).Pairwise (· ≤ ·) := (List.pairwise_mergeSort (le := fun p q => decide (p ≤ q)) (fun a b c h1 h2 => decide_eq_true (List.le_trans (of_decide_eq_true h1) (of_decide_eq_true h2))) (fun a b => by
  rcases List.le_total a b with h | h
  · simp [h]
  · simp [h]) l).imp fun h => of_decide_eq_true h
section
variable {X : Cx} {B0 H0 : Hp} {sds : List SD} {os : List (Addr × OV)} {P : D → Prop} {pos : Pos} {a b : Expr} {k : Nat}
/-- in a tuple, as a value -/
theorem ex_inT (hr : Room k X.A) (h : EX X B0 H0 sds os a fun da => EX X B0 H0 sds os b fun db => ∃ l, db = .tup l ∧ shp da = true ∧ shp db = true ∧ P (.bl (l.any fun z => eqd z da))) (hm : behindInMarks .In b = false := by rfl) : EX X B0 H0 sds os (.Compare a [.In] [b] pos) P :=
  ex_cmpB (op_inT (by have := hr.un; omega)) hm (h.imp fun d k => k.imp fun d' ⟨l, e, h1, h2, p⟩ => by subst e; exact cmp_inT h1 h2 p)
end
section
variable {X : Cx} {N : List PySem.Str} {S : Scope} {B0 H0 : Hp} {sds : List SD} {os : List (Addr × OV)} {P : D → Prop} {p pos : Pos}
/-- len(x), x an owned dict -/
theorem ex_lenM (c : Ctx X N S) (i j : Nat) {x : PySem.Str} {ad : Addr} {m : DM} {px : Pos} (hm : X.mg "len" = none) (h : P (.int (m.length : Int))) (hj : os[j]? = some (ad, .dct m) := by rfl) (hi : sds[i]? = some (.v (.ref ad)) := by rfl)
    (hN : N[i]? = some x := by rfl) (hv : visB S x = true := by decide +kernel) (hd : (x == ("__debug__" : PySem.Str)) = false := by decide +kernel) (hcd : (x == ("__classdict__" : PySem.Str)) = false := by decide +kernel)
    (hg : glB S "len" = true := by decide +kernel) (he : starEach [.Name x px] X.env = [(false, eval (.Name x px) X.env)] := by rfl) : EX X B0 H0 sds os (.Call (.Name "len" p) [.Name x px] [] pos) P := fun B H σ s Q q => by
  refine PE.to (pe_callB call_len_dT (c.gl hg) hm (by decide +kernel) (pa_cons (pe_var (i := i) (by rw [c.hN]; exact hN) (c.vis hv) hd hcd) pa_nil he) (by decide +kernel) (by decide +kernel) he rfl) ?_
  obtain ⟨kvs, hp, hk⟩ := s.ownG hj
  have ek := congrArg List.length (isks_keys hk)
  rw [List.length_map, List.length_map] at ek
  refine ⟨.ref ad, s.varV hi, ad, kvs, rfl, hp, ?_⟩
  rw [ek]
  exact q _ B H _ (Grow.refl s.g.bh) (.int _) h
end
section
variable {X : Cx} {N : List PySem.Str} {S : Scope} {B0 H0 : Hp} {sds : List SD} {os : List (Addr × OV)} {E : DE} {pos : Pos} {e : Expr}
/-- a, b, c = a tuple of three -/
theorem g1_asg3 (c : CtxD X N S) (i j l : Nat) {x y z : PySem.Str} {p1 p2 p3 pt : Pos} {kk} (h : EX X B0 H0 sds os e fun d => ∃ u v w, d = .tup [u, v, w] ∧ E.nx (((sds.set i (.d u)).set j (.d v)).set l (.d w)) os) (hN : N[i]? = some x := by rfl) (hv : locB S x = true := by decide +kernel) (hN2 : N[j]? = some y := by rfl) (hv2 : locB S y = true := by decide +kernel) (hN3 : N[l]? = some z := by rfl) (hv3 : locB S z = true := by decide +kernel)
    (hs : swapsWithSole [.Tuple [.Name x p1, .Name y p2, .Name z p3] kk pt] e pos.line X.env = pure false := by rfl) (hw : swappedStores [.Tuple [.Name x p1, .Name y p2, .Name z p3] kk pt] e X.env = pure none := by rfl)
    (h1 : (assignEach [.Tuple [.Name x p1, .Name y p2, .Name z p3] kk pt] X.env).map (·.2) = [assign (.Tuple [.Name x p1, .Name y p2, .Name z p3] kk pt) X.env] := by rfl) : Go1 X B0 H0 sds os E (.Assign [.Tuple [.Name x p1, .Name y p2, .Name z p3] kk pt] e pos) := fun A B H σ ea s => by
  have nd : X.N.Nodup := by rw [c.hN]; exact c.nd
  refine PS.to (ps_asg pe_w (pg_tup c.calm (pgs_cons (pg_name (i := i) nd (by rw [c.hN]; exact hN) (c.toCtx.loc hv) c.locf) (pgs_cons (pg_name (i := j) nd (by rw [c.hN]; exact hN2) (c.toCtx.loc hv2) c.locf) (pgs_cons (pg_name (i := l) nd (by rw [c.hN]; exact hN3) (c.toCtx.loc hv3) c.locf) pgs_nil)))) hs hw h1) ?_
  refine h B H σ s _ fun t B1 H1 d g1 i1 ⟨u, v, w, e1, k⟩ => ?_
  subst e1
  cases i1 with
  | tup hs ha =>
    cases ha with
    | cons q1 r =>
      cases r with
      | cons q2 r =>
        cases r with
        | cons q3 r =>
          cases r
          refine ⟨_, _, rfl, SqT.of (g1.bh _ _ hs), rfl, _, _, rfl, _, _, rfl, _, _, rfl, rfl, ?_⟩
          exact ⟨B1, _, _, ea.trans g1.b, (((s.grow g1).set q1).set q2).set q3, k⟩
end
end OB
set_option Elab.async false
set_option linter.all false
set_option maxRecDepth 100000
set_option maxHeartbeats 4000000
namespace OB
open PySem PySem.Spec PyProof.Rows L2
/-! ### a set comprehension of one clause, whatever its members are
`r` tells what set.add does, `o0` what the new set is. -/
def tScR (r : V → List V → Hp → VK → Prop) (o0 : Addr → HO) (wi : TI) (g : TG) (tt : TT) (te : TE) (vs : List Nat) : TE := fun σ H Q =>
  wi σ H fun J Ha => ∀ D, Ha D = none → ∃ Wk : Nat → Nat → Hp → Prop, (∃ m, Wk 0 m (upd Ha D (o0 D))) ∧
    ∀ i m Hb, Wk i m Hb → (J.stop i Hb ∧ Q (.ref D) Hb) ∨
      (J.go i Hb ∧ ∃ Nx : Hp → Prop, (∀ Hc, Nx Hc → ∃ m', m' < m ∧ Wk (i + 1) m' Hc) ∧
        ∀ x Hc, J.yld i Hb x Hc → g x (wipe σ vs) Hc fun σ' Hd => wipe σ' vs = wipe σ vs ∧
          tt σ' Hd fun b He => if b = true then te σ' He fun y Hf => r (.ref D) [y] Hf fun _ Hg => Nx Hg else Nx He)
abbrev emptySet (w : World) : Obj := { cls := .type "set", dict := none, data := .set #[] 0 (.fresh 0 0 (!w.params.followText "set-order")) }
section
variable {X : Cx}
theorem pe_scR {r : V → List V → Hp → VK → Prop} {o0 : Addr → HO} {elt tg iter : Expr} {ifs : List Expr} {scope : Scope} {own : List (PySem.Str × Nat)} {pos : Pos} {wi : TI} {g : TG} {tt : TT} {te : TE}
    (calm : X.calm = true) (nd : X.N.Nodup) (walk : PI X tg iter wi) (blk : BlkOk X.N X.env.scope scope own)
    (new : ∀ (H : Hp) (h : Heap), ObjOk X.prog X.w H (h.push (emptySet X.w)) h.objs.size (o0 h.objs.size))
    (add : ∀ (s : Shared) (H : Hp) (ce : Env) (fp : List Addr), MtR (X.blk s H scope ce fp) "set.add" r)
    (put : ∀ (s : Shared) (H : Hp) (C : Addr) (cl : List (PySem.Str × Addr)) (fp : List Addr), PG (X.blk s H scope (compEnvC scope cl C X.env) fp) tg g)
    (tests : ∀ (s : Shared) (H : Hp) (C : Addr) (cl : List (PySem.Str × Addr)) (fp : List Addr), PTs (X.blk s H scope (compEnvC scope cl C X.env) fp) ifs tt)
    (val : ∀ (s : Shared) (H : Hp) (C : Addr) (cl : List (PySem.Str × Addr)) (fp : List Addr), PE (X.blk s H scope (compEnvC scope cl C X.env) fp) elt te)
    (fold : ∀ x, foldedSetIterable iter X.env x = pure x := by intro _; rfl) :
    PE X (.SetComp elt [⟨tg, iter, ifs, 0⟩] scope pos) (tScR r o0 wi g tt te (own.map (·.2))) := by
  constructor
  intro pins s σ H Q inv given
  rw [PpSet.eval_SetComp]
  have seen : ∀ y ∈ scope.names, y.2 = .free → ∃ cell, X.env.cells.lookup y.1 = some cell := by
    intro y hy fr
    exact (blk.free y hy fr).elim (fun z => inv.ok.has _ (.inl z)) (fun z => inv.ok.has _ (.inr z))
  refine wpAny_comprehension_free (use := none) rfl fold (closure_ok seen) blk.kind (fun y hy lo => by rw [blk.uniq y hy, lo]) ?_
  refine thn (walk.run pins s σ H _ inv given) fun xv sA atA => thn atA fun itv sB atB => ?_
  obtain ⟨it, fp, tn, J, HB, eit, invB, T, stB, fpB, rest⟩ := atB
  subst eit
  refine PpSet.newSet_ok (newEnv_comp ?_)
  have freeD : HB sB.heap.objs.size = none := invB.hok.fresh (Nat.le_refl _)
  obtain ⟨Wk, ⟨m0, w0⟩, turn⟩ := rest sB.heap.objs.size freeD
  generalize eD : sB.heap.objs.size = D at freeD w0 turn
  generalize eN : ({ sB with heap := sB.heap.push (emptySet X.w) } : Shared) = sN
  have heapN : sN.heap = sB.heap.push (emptySet X.w) := by rw [← eN]
  have sizeN : sN.heap.objs.size = D + 1 := by rw [heapN, Heap.size_push, eD]
  have invN : Inv X pins σ (upd HB D (o0 D)) sN := by
    rw [← eN, ← eD]
    exact invB.laid (t' := sB.toks) (fun _ _ z => Heap.get?_push_of_some _ z) (Nat.le_refl _) (new _ _)
  have older : ∀ b ∈ fp, b < D := fun b hb => by
    obtain ⟨u, hu, _⟩ := T.obj _ _ stB b hb
    rw [← eD]; exact Heap.lt_size hu
  have fpN : ∀ b ∈ fp, FpOk X pins (upd HB D (o0 D)) b ∧ b < sN.heap.objs.size := by
    intro b hb
    have lt := older b hb
    obtain ⟨f1, f2⟩ := fpB b hb
    exact ⟨⟨(upd_ne (Nat.ne_of_lt lt)).trans f1, f2⟩, by rw [sizeN]; exact Nat.lt_succ_of_lt lt⟩
  have stN : tn 0 sN.heap := T.keep _ _ _ stB fun _ _ _ z => by rw [heapN]; exact Heap.get?_push_of_some _ z
  have inv0 := block_start invN blk nd fpN
  generalize eC : sN.heap.objs.size = C at inv0
  generalize eH : upd HB D (o0 D) = HN at invN inv0 w0 fpN
  have hput := put sN HN C (cellsFrom (C + 1) scope.names (cloFrom X.env.cells scope.names [])) fp
  have htests := tests sN HN C (cellsFrom (C + 1) scope.names (cloFrom X.env.cells scope.names [])) fp
  have hval := val sN HN C (cellsFrom (C + 1) scope.names (cloFrom X.env.cells scope.names [])) fp
  generalize eE : compEnvC scope (cellsFrom (C + 1) scope.names (cloFrom X.env.cells scope.names [])) C X.env = ce at inv0 hput htests hval
  have ceC : ce.locals = C := by rw [← eE]; rfl
  have hadd := add sN HN ce fp
  generalize eS : ({ sN with heap := pushCells (sN.heap.push { cls := .type "dict", data := .dict #[] }) scope.names } : Shared) = s0 at inv0
  have st0 : tn 0 s0.heap := T.keep _ _ _ stN fun _ _ _ z => by rw [← eS]; exact pushCells_keeps _ _ _ _ (Heap.get?_push_of_some _ z)
  have away : ∀ b ∈ fp, HN b = none := fun b hb => (fpN b hb).1.1
  suffices goal : codeAny (model X.prog X.w) X.A (.compStart (.SetComp elt [⟨tg, iter, ifs, 0⟩] scope pos) 0 (.ref it) (.ref D) ce) (compPost (model X.prog X.w) X.A X.xe none (EP X pins σ Q) (.ref D) C) s0 by
    rw [← eE] at goal; exact goal
  -- behind the last turn
  have post : ∀ {H' : Hp} {s' : Shared}, Inv (X.blk sN HN scope ce fp) [] (wipe σ (own.map (·.2))) H' s' → Q (.ref D) H' → compPost (model X.prog X.w) X.A X.xe none (EP X pins σ Q) (.ref D) C (.ok .next) s' := by
    intro H' s' j q
    have jX : Inv X pins σ H' s' := invN.call' (ch := fp) j.os j.base j.hok j.bare fun b hb => by
      obtain ⟨⟨_, u1, _, u3, u4, u5⟩, _⟩ := fpN b hb
      exact ⟨u3, u1, u4, u5⟩
    have noC : H' C = none := by rw [← ceC]; exact j.free
    obtain ⟨m, names, _⟩ := j.loc
    have names' : s'.heap.Ns C m := by rw [← ceC]; exact names
    obtain ⟨v0, v1, _, v3, v4, v5⟩ := invN.fpOk (Nat.le_of_eq eC) noC
    exact ⟨m, names', fun h' same => ⟨.ref D, H', jX.turned (t' := s'.toks) (fun b o hb e => (same.2 b hb).trans e) v0 v1 v3 v4 v5, rfl, q⟩⟩
  have info : ∀ {σ' : L2.St} {H' : Hp} {s' : Shared}, Inv (X.blk sN HN scope ce fp) [] σ' H' s' → (∀ b ∈ fp, H' b = none) → ∀ b ∈ fp, FpOk (X.blk sN HN scope ce fp) [] H' b := by
    intro σ' H' s' j none' b hb
    exact ⟨none' b hb, (j.ok.exf b hb).1, j.ok.exfs b hb, .inl hb, (j.ok.exf b hb).2, fun p hp => by simp at hp⟩
  have loop : codeAny (model X.prog X.w) X.A (.compLoop (.SetComp elt [⟨tg, iter, ifs, 0⟩] scope pos) 0 (.ref it) (.ref D) ce) (compPost (model X.prog X.w) X.A X.xe none (EP X pins σ Q) (.ref D) C) s0 := by
    refine PpSet.compLoopS_any (fun left s' => ∃ i H', Inv (X.blk sN HN scope ce fp) [] (wipe σ (own.map (·.2))) H' s' ∧ tn i s'.heap ∧ (∀ b ∈ fp, H' b = none) ∧ Wk i left H') ?_ m0 ⟨0, HN, inv0, st0, away, w0⟩
    rintro left s1 ⟨i, H1, j1, t1, a1, w1⟩
    rcases turn i left H1 w1 with ⟨stop, q⟩ | ⟨go, Nx, less, step⟩
    · refine thnF (T.done (X.blk sN HN scope ce fp) rfl rfl rfl calm i [] s1 _ H1 (fun _ _ => False) j1 (info j1 a1) t1 stop) fun out s2 ⟨eo, j2⟩ => ?_
      subst eo
      exact post j2 q
    · refine thnF (T.item (X.blk sN HN scope ce fp) rfl rfl rfl calm i [] s1 _ H1 (fun _ _ => False) j1 (info j1 a1) t1 go) fun out s2 ⟨u, eo, next⟩ => ?_
      subst eo
      refine thnF next fun _ s3 ⟨x, H3, j3, rx, y3, t3, a3⟩ => ?_
      refine thnF (hput.run _ s3 _ H3 x u _ (j3.pinned (info j3 a3) (T.obj _ _ t3)) rx (step x H3 y3)) fun _ s4 ⟨σ4, H4, j4, same, q4⟩ => ?_
      refine thnF (htests.run _ s4 σ4 H4 _ j4 q4) fun b s5 ⟨H5, j5, q5⟩ => ?_
      have close : ∀ {s' : Shared} {H' : Hp}, Inv (X.blk sN HN scope ce fp) ([] ++ pinsAt fp s3.heap) σ4 H' s' → Nx H' → ∃ m, m < left ∧ ∃ i H', Inv (X.blk sN HN scope ce fp) [] (wipe σ (own.map (·.2))) H' s' ∧ tn i s'.heap ∧ (∀ b ∈ fp, H' b = none) ∧ Wk i m H' := by
        intro s' H' j nx
        obtain ⟨m, lt, w'⟩ := less H' nx
        have kept : ∀ b ∈ fp, ∀ o, s3.heap.get? b = some o → s'.heap.get? b = some o ∧ H' b = none := by
          intro b hb o e
          have z := j.pin (b, o) (List.mem_append_right _ (List.mem_append_right _ (mem_pinsAt hb e)))
          exact ⟨z.1, z.2.1⟩
        refine ⟨m, lt, i + 1, H', (j.unpinned (pins := [])).weak (by rw [← same, wipe_length]) (fun n v e => ?_), T.keep _ _ _ t3 fun b hb o e => (kept b hb o e).1, fun b hb => ?_, w'⟩
        · rw [← same] at e
          exact (wipe_some e).1
        · obtain ⟨o, e, _⟩ := T.obj _ _ t3 b hb
          exact (kept b hb o e).2
      cases b with
      | false =>
        rw [if_neg Bool.false_ne_true] at q5 ⊢
        exact close j5 q5
      | true =>
        rw [if_pos rfl] at q5 ⊢
        refine thnF (hval.run _ s5 σ4 H5 _ j5 q5) fun z s6 ⟨y, H6, j6, ry, q6⟩ => ?_
        refine thnF (hadd _ s6 σ4 H6 (.ref D) [y] (.ref D) [z] (fun _ Hg => Nx Hg) j6 rfl (.cons ry .nil) q6) fun _ s7 ⟨_, H7, j7, _, nx⟩ => close j7 nx
  exact PpSet.codeAny_compStart_set loop (T.self X.A 0 _ _ _ st0 loop)
end
end OB
set_option Elab.async false
set_option linter.all false
set_option maxRecDepth 100000
set_option maxHeartbeats 4000000
namespace OB
open PySem PySem.Spec PyProof.Rows L2
/-! ### sets of pairs: set.add -/
/-- what adding a tuple of ints does to a set of such -/
def rAddT (K : PySem.W.Frag) (P : Program) (w : World) : V → List V → Hp → VK → Prop := fun x xs H Q => ∃ (D t : Addr) (k : List Int) (L : List (Addr × List Int)), x = V.ref D ∧ xs = [V.ref t] ∧ H D = some (SetTO P w D L) ∧
  (∀ p ∈ L, SqT K H p.1 (p.2.map V.int)) ∧ SqT K H t (k.map V.int) ∧ L.length + 1 < 64 ∧
  ∀ M : List (Addr × List Int), (k ∈ L.map (·.2) → M = L) → (k ∉ L.map (·.2) → M.Perm ((t, k) :: L)) → Q .non (upd H D (SetTO P w D M))
theorem mt_addT {X : Cx} (room : X.A.units + 64 < cLine) : MtR X "set.add" (rAddT X.K X.prog X.w) := by
  intro pins s σ H x xs v us Q inv rx rxs given
  obtain ⟨D, t, k, L, rfl, rfl, hD, hL, ht, few, q⟩ := given
  cases rx
  cases rxs with
  | cons ry rt =>
    cases rt
    cases ry
    have R0 : SetT0 X.prog X.w s.heap D L := (inv.hok D _ hD).1
    obtain ⟨es, ep, tab, R⟩ := R0.full fun p hp => inv.isT (hL p hp)
    have key := inv.isT ht
    obtain ⟨o, ho, hex, _⟩ := R.ob
    refine wpAny_call_entry F.slot_set_add ⟨o, ho, hex.1⟩ F.entry_set_add ?_ (F.args_set_add_2 _ _)
    simp only [Builtin.«set.add», Builtin.Frozenset.oneOther, List.isEmpty_nil, bind_assoc, Builtin.Frozenset.addrOf, setAdd]
    refine wpAny_bind (wpAny_pure ?_)
    refine wpAny_bind (wpAny_pure ?_)
    refine wpAny_bind (wpAny_holding (wpAny_bind (wpAny_pyHash_tuple ?_ key ?_)))
    · show X.A.units + 1 < cLine
      omega
    refine add_at (s := { s with toks := s.toks + (k.length + 1) }) R key (show X.A.units + 1 < cLine by omega) few fun b h' M es' ep' tab' sb R2 c1 c2 => ?_
    have there : ∃ u, h'.get? D = some u := by
      obtain ⟨u, hu, _⟩ := R2.ob
      exact ⟨u, hu⟩
    show wpAny _ _ (ret Value.none) _ _ _
    exact wpAny_pure ⟨_, rfl, .non, _, inv.write (e := D) (t' := s.toks + (k.length + 1)) (by rw [hD]; trivial) (.inl rfl) (fun b u hb hu => (sb.2 b hb).trans hu) there (setTO_new R2.t0), rfl, q M c1 c2⟩
def kOf (q : Nat × Nat) : List Int := [(q.1 : Int), (q.2 : Int)]
def prP (q : Nat × Nat) : D := .tup [.int (q.1 : Int), .int (q.2 : Int)]
def ltP (p q : Nat × Nat) : Prop := p.1 < q.1 ∨ (p.1 = q.1 ∧ p.2 < q.2)
theorem kOf_inj {p q : Nat × Nat} (h : kOf p = kOf q) : p = q := by
  have h1 : (p.1 : Int) = q.1 ∧ (p.2 : Int) = q.2 := by simpa [kOf] using h
  exact Prod.ext (by omega) (by omega)
theorem is_prP {K : PySem.W.Frag} {B : Hp} {v : V} {q : Nat × Nat} (h : Is K B v (prP q)) : ∃ t, v = .ref t ∧ B t = some (.tup ((kOf q).map V.int)) := by
  cases h with
  | tup hs ha =>
    refine ⟨_, rfl, ?_⟩
    cases ha with
    | cons h1 r =>
      cases h1
      cases r with
      | cons h2 r =>
        cases h2
        cases r
        exact hs
section
variable {X : Cx} {N : List PySem.Str} {S scope : Scope} {B0 H0 : Hp} {sds : List SD} {os : List (Addr × OV)} {E : DE} {pos p : Pos} {elt tg iter : Expr} {P : List D → Prop} {k : Nat}
/-- what a set comprehension of pairs asks of the data walked -/
def ScOkP (X : Cx) (scope : Scope) (B0 H0 : Hp) (sds : List SD) (os : List (Addr × OV)) (t : Tg) (vs : List Nat) (elt : Expr) (P : List D → Prop) (l : List D) : Prop :=
  ∃ (α : Type) (L : List α) (enc : α → D) (g : α → Nat × Nat), l = L.map enc ∧ L.length < 64 ∧ (∀ x ∈ L, (g x).1 < 64 ∧ (g x).2 < 64) ∧
    (∀ x ∈ L, t.put (enc x) (wipeS sds vs) fun s' => ∀ X', Blk X scope X' → EX X' B0 H0 s' os elt (· = prP (g x))) ∧
    ∀ m : List (Nat × Nat), m.Pairwise ltP → (∀ q, q ∈ m ↔ ∃ x ∈ L, g x = q) → P (m.map prP)
/-- the members so far -/
def MemK {α : Type} (B : Hp) (L : List α) (g : α → Nat × Nat) (i : Nat) (M : List (Addr × List Int)) : Prop :=
  (∀ p ∈ M, B p.1 = some (.tup (p.2.map V.int))) ∧ M.length ≤ i ∧ ∀ z, z ∈ M.map (·.2) ↔ ∃ x ∈ L.take i, kOf (g x) = z
theorem MemK.step {α : Type} {B : Hp} {L : List α} {g : α → Nat × Nat} {i : Nat} {M M' : List (Addr × List Int)} {y : α} {t : Addr} (h : MemK B L g i M) (hy : L[i]? = some y) (ht : B t = some (.tup ((kOf (g y)).map V.int)))
    (e1 : kOf (g y) ∈ M.map (·.2) → M' = M) (e2 : kOf (g y) ∉ M.map (·.2) → M'.Perm ((t, kOf (g y)) :: M)) : MemK B L g (i + 1) M' := by
  obtain ⟨h1, h2, h3⟩ := h
  have et : L.take (i + 1) = L.take i ++ [y] := by rw [List.take_succ, hy]; rfl
  rcases Classical.em (kOf (g y) ∈ M.map (·.2)) with c | c
  · rw [e1 c]
    refine ⟨h1, by omega, fun z => (h3 z).trans ?_⟩
    rw [et]
    constructor
    · rintro ⟨x, hx, e⟩
      exact ⟨x, List.mem_append_left _ hx, e⟩
    · rintro ⟨x, hx, e⟩
      rcases List.mem_append.mp hx with h | h
      · exact ⟨x, h, e⟩
      · have : x = y := by simpa using h
        subst this
        rw [← e]; exact (h3 _).mp c
  · have pm := e2 c
    refine ⟨fun p hp => ?_, by rw [pm.length_eq, List.length_cons]; omega, fun z => ?_⟩
    · rcases List.mem_cons.mp (pm.mem_iff.mp hp) with e | e
      · rw [e]; exact ht
      · exact h1 p e
    · rw [(pm.map (·.2)).mem_iff, List.map_cons, List.mem_cons, h3, et]
      constructor
      · rintro (e | ⟨x, hx, e⟩)
        · exact ⟨y, List.mem_append_right _ (by simp), e.symm⟩
        · exact ⟨x, List.mem_append_left _ hx, e⟩
      · rintro ⟨x, hx, e⟩
        rcases List.mem_append.mp hx with h | h
        · exact .inr ⟨x, h, e⟩
        · have : x = y := by simpa using h
          subst this
          exact .inl e.symm
theorem sc_run {t : Tg} {vs : List Nat} {wi : TI} (hv : ∀ i ∈ t.idx, i ∈ vs)
    (hi : ∀ B H σ, St X.K B0 H0 B H σ sds os → ∀ R : It → Hp → Prop, (∀ J B' H' l, Grow B H B' H' → ScOkP X scope B0 H0 sds os t vs elt P l → Walk X.K J B' l → R J H') → wi σ H R)
    {B H : Hp} {σ : L2.St} (s : St X.K B0 H0 B H σ sds os) {Q : VK} (q : ∀ D M B' H', Grow B H B' H' → H D = none → B' D = none → H' D = some (SetTO X.prog X.w D M) → (∀ p ∈ M, B' p.1 = some (.tup (p.2.map V.int))) →
      (∀ p ∈ M, ∃ z : Nat × Nat, p.2 = kOf z ∧ z.1 < 64 ∧ z.2 < 64) → (∀ m : List (Nat × Nat), m.Pairwise ltP → (∀ z, z ∈ m ↔ kOf z ∈ M.map (·.2)) → P (m.map prP)) → Q (.ref D) H') :
    tScR (rAddT X.K X.prog X.w) (fun D => SetTO X.prog X.w D []) wi (t.r X.K) tYes (fun σ H Q => ∀ X', Blk X scope X' → wE X' elt σ H Q) vs σ H Q := by
  refine hi B H σ s _ fun J B1 H1 l g1 ⟨α, L, enc, g, hl, hz, hb, ht, hp⟩ wk => ?_
  have s1 := s.grow g1
  intro D hD
  have bD : B1 D = none := Evl.fresh_back g1.bh hD
  have ll : l.length = L.length := by rw [hl, List.length_map]
  let Wk : Nat → Nat → Hp → Prop := fun i m H' => m = L.length - i ∧ i ≤ L.length ∧ ∃ B' M, Grow B1 H1 B' H' ∧ B' D = none ∧ H' D = some (SetTO X.prog X.w D M) ∧ MemK B' L g i M
  refine ⟨Wk, ⟨L.length, by simp, Nat.zero_le _, B1, [], ⟨Evl.Ex.refl _, Evl.Ex.new hD, g1.bh.trans (Evl.Ex.new hD), fun _ h => .inl h⟩, bD, upd_same, fun p hp => (nomatch hp), Nat.le_refl _, fun z => by simp⟩, ?_⟩
  rintro i m H' ⟨rfl, hk, B', M, gr, b', h', mk⟩
  by_cases hlt : i < L.length
  · refine .inr ⟨wk.go i H' (gr.b.trans gr.bh) (by rw [ll]; exact hlt), fun H2 => Wk (i + 1) (L.length - (i + 1)) H2, fun H2 h2 => ⟨_, by omega, h2⟩, fun x H2 hy => ?_⟩
    obtain ⟨d, B2, hd, g2, i2⟩ := wk.yld i B' H' x H2 gr.b gr.bh (by rw [ll]; exact hlt) hy
    obtain ⟨y, hy'⟩ : ∃ y, L[i]? = some y := ⟨_, List.getElem?_eq_getElem hlt⟩
    have ed : d = enc y := by
      rw [hl, List.getElem?_map, hy'] at hd
      exact (Option.some.inj hd).symm
    subst ed
    have ym : y ∈ L := List.mem_of_getElem? hy'
    have gr2 := gr.trans g2
    have s2 := (s1.grow gr2).wipe vs
    have h2 : H2 D = some (SetTO X.prog X.w D M) := g2.h _ _ h'
    have b2 : B2 D = none := g2.out b' h'
    refine Tg.runW (vv := vs) hv s2 i2 (ht y ym) fun σ3 sds3 we s3 kk => ⟨we.trans wipe_wipe, ?_⟩
    unfold tYes
    dsimp only
    rw [if_pos rfl]
    intro X' bx
    have hk' : X'.K = X.K := by obtain ⟨_, _, _, _, _, rfl⟩ := bx; rfl
    have s3' := s3
    rw [← hk'] at s3'
    refine kk X' bx B2 H2 σ3 s3' _ fun w B4 H4 d4 g4 i4 e4 => ?_
    subst e4
    rw [hk'] at i4
    have gr4 := gr2.trans g4
    have h4 : H4 D = some (SetTO X.prog X.w D M) := g4.h _ _ h2
    have b4 : B4 D = none := g4.out b2 h2
    obtain ⟨tt, rfl, ht4⟩ := is_prP i4
    have mk4 : MemK B4 L g i M := ⟨fun p hp => g4.b _ _ (g2.b _ _ (mk.1 p hp)), mk.2.1, mk.2.2⟩
    refine ⟨D, tt, kOf (g y), M, rfl, rfl, h4, fun p hp => SqT.of (gr4.bh _ _ (mk4.1 p hp)), SqT.of (gr4.bh _ _ ht4), by have := mk.2.1; omega, fun M' e1 e2 => ?_⟩
    exact ⟨rfl, hlt, B4, M', ⟨gr4.b, gr4.h.mut hD, Evl.Ex.mut gr4.bh b4, gr4.fr⟩, b4, upd_same, mk4.step hy' ht4 e1 e2⟩
  · have e : i = L.length := by omega
    subst e
    refine .inl ⟨wk.stop _ H' (gr.b.trans gr.bh) (by rw [ll]; exact Nat.le_refl _), ?_⟩
    obtain ⟨k1, k2, k3⟩ := mk
    rw [List.take_length] at k3
    refine q D M B' H' (g1.trans gr) (Evl.fresh_back g1.h hD) b' h' k1 (fun p hp => ?_) fun m ms hm => hp m ms fun z => ?_
    · obtain ⟨x, hx, e⟩ := (k3 p.2).mp (List.mem_map.mpr ⟨p, hp, rfl⟩)
      exact ⟨g x, e.symm, hb x hx⟩
    · rw [hm z, k3]
      exact ⟨fun ⟨x, hx, e⟩ => ⟨x, hx, kOf_inj e⟩, fun ⟨x, hx, e⟩ => ⟨x, hx, by rw [e]⟩⟩
end
end OB
set_option Elab.async false
set_option linter.all false
set_option maxRecDepth 100000
set_option maxHeartbeats 4000000
namespace OB
open PySem PySem.Spec PyProof.Rows L2
/-! ### sorted({a pair for ..}) -/
def zOf : List Int → Nat × Nat
  | [x, y] => (x.toNat, y.toNat)
  | _ => (0, 0)
theorem zOf_k (z : Nat × Nat) : zOf (kOf z) = z := by
  show ((z.1 : Int).toNat, (z.2 : Int).toNat) = z
  simp
theorem kOf_z {k : List Int} (h : ∃ z : Nat × Nat, k = kOf z ∧ z.1 < 64 ∧ z.2 < 64) : k = kOf (zOf k) := by
  obtain ⟨z, e, _⟩ := h
  rw [e, zOf_k]
theorem isall_prP {K : PySem.W.Frag} {B : Hp} : ∀ L : List (Addr × List Int), (∀ p ∈ L, B p.1 = some (.tup (p.2.map V.int))) → (∀ p ∈ L, p.2 = kOf (zOf p.2)) → IsAll K B (L.map fun p => V.ref p.1) ((L.map fun p => zOf p.2).map prP)
  | [], _, _ => .nil
  | p :: L, h1, h2 => by
    refine .cons ?_ (isall_prP L (fun q hq => h1 q (List.mem_cons_of_mem _ hq)) fun q hq => h2 q (List.mem_cons_of_mem _ hq))
    have e := h1 p (by simp)
    rw [h2 p (by simp)] at e
    exact .tup e (.cons (.int _) (.cons (.int _) .nil))
theorem zs_sorted : ∀ {L : List (Addr × List Int)}, (L.map (·.2)).Nodup → (∀ p ∈ L, ∃ z : Nat × Nat, p.2 = kOf z ∧ z.1 < 64 ∧ z.2 < 64) → L.Pairwise (fun q r => TS.code 64 q.2 ≤ TS.code 64 r.2) → (L.map fun p => zOf p.2).Pairwise ltP := by
  intro L nd hz pw
  refine List.pairwise_map.mpr ((List.pairwise_map.mp nd).and pw |>.imp_of_mem fun {p q} hp hq h => ?_)
  obtain ⟨u, e, u1, u2⟩ := hz p hp
  obtain ⟨v, e', v1, v2⟩ := hz q hq
  obtain ⟨ne, le⟩ := h
  rw [e, e'] at ne le
  rw [e, e', zOf_k, zOf_k]
  have := pair_lt (x := (u.1 : Int)) (y := (u.2 : Int)) (x' := (v.1 : Int)) (y' := (v.2 : Int)) le ne ⟨by omega, by omega⟩ ⟨by omega, by omega⟩ ⟨by omega, by omega⟩ ⟨by omega, by omega⟩
  unfold ltP
  omega
section
variable {X : Cx} {N : List PySem.Str} {S scope : Scope} {B0 H0 : Hp} {sds : List SD} {os : List (Addr × OV)} {E : DE} {pos p cpos : Pos} {elt tg iter : Expr} {P : List D → Prop} {k : Nat}
theorem el_sortSC (c : Ctx X N S) (hr : Room k X.A) (own : List (PySem.Str × Nat)) (t : Tg) (hg : ∀ X', Blk X scope X' → PG X' tg (t.r X'.K)) (hm : X.mg "sorted" = none)
    (hi : IX X B0 H0 sds os tg iter (ScOkP X scope B0 H0 sds os t (own.map (·.2)) elt P))
    (hb : blkC N S scope own = true := by decide +kernel) (hv : (t.idx.all fun i => decide (i ∈ own.map (·.2))) = true := by decide) (hs : ∀ x, foldedSetIterable iter X.env x = pure x := by intro _; rfl) (hgl : glB S "sorted" = true := by decide +kernel)
    (he : starEach [.SetComp elt [⟨tg, iter, [], 0⟩] scope cpos] X.env = [(false, eval (.SetComp elt [⟨tg, iter, [], 0⟩] scope cpos) X.env)] := by rfl) :
    EL X B0 H0 sds os (.Call (.Name "sorted" p) [.SetComp elt [⟨tg, iter, [], 0⟩] scope cpos] [] pos) P := fun B H σ s Q q => by
  obtain ⟨wi, hpi, hw⟩ := hi
  have hv' : ∀ i ∈ t.idx, i ∈ own.map (·.2) := fun i h => of_decide_eq_true (List.all_eq_true.mp hv i h)
  have room : X.A.units + 64 < cLine := by have := hr.un; omega
  refine PE.to (pe_callB (cr_sortedT c.calm) (c.gl hgl) hm (by decide +kernel) (pa_cons (pe_scR (r := rAddT X.K X.prog X.w) (o0 := fun D => SetTO X.prog X.w D []) (g := t.r X.K) (tt := tYes) (te := fun σ H Q => ∀ X', Blk X scope X' → wE X' elt σ H Q)
    c.calm (by rw [c.hN]; exact c.nd) hpi (blkOk_by (by rw [c.hN, c.hS]; exact hb)) (fun H h => setTO_new (setTR_fresh (Heap.get?_push_size _ rfl)).t0) (fun s H ce fp => mt_addT (X := X.blk s H scope ce fp) room) (fun s H C cl fp => hg _ ⟨s, H, C, cl, fp, rfl⟩) (fun _ _ _ _ _ => pts_nil)
    (fun s H C cl fp => ⟨fun pins sh σ' H' Q' I h => (h _ ⟨s, H, C, cl, fp, rfl⟩).run pins sh I⟩) hs) pa_nil he) (by decide +kernel) (by decide +kernel) he rfl) ?_
  show tScR (rAddT X.K X.prog X.w) (fun D => SetTO X.prog X.w D []) wi (t.r X.K) tYes (fun σ H Q => ∀ X', Blk X scope X' → wE X' elt σ H Q) (own.map (·.2)) σ H fun x H1 => rSortedT X.K X.prog X.w [x] H1 Q
  refine sc_run hv' hw s fun D M B' H' gr hn b' h' hM hz hP => ?_
  refine ⟨D, M, 2, 64, rfl, h', fun p hp => SqT.of (gr.bh _ _ (hM p hp)), by decide, fun p hp => ?_, fun L' pp pm nd' few pw hpn => ?_⟩
  · obtain ⟨z, e, z1, z2⟩ := hz p hp
    rw [e]
    refine ⟨rfl, fun m hm' => ?_⟩
    unfold kOf at hm'
    simp only [List.mem_cons, List.not_mem_nil, or_false] at hm'
    omega
  · have inM : ∀ p ∈ L', p ∈ M := fun p hp => pm.mem_iff.mp hp
    have kz : ∀ p ∈ L', p.2 = kOf (zOf p.2) := fun p hp => kOf_z (hz p (inM p hp))
    refine q pp _ B' _ ((L'.map fun p => zOf p.2).map prP) ⟨gr.b, gr.h.trans (Evl.Ex.new hpn), gr.bh.trans (Evl.Ex.new hpn), gr.fr⟩ (Evl.fresh_back gr.h hpn) (Evl.fresh_back gr.bh hpn) upd_same (isall_prP L' (fun p hp => hM p (inM p hp)) kz) (hP _ (zs_sorted nd' (fun p hp => hz p (inM p hp)) pw) fun z => ?_)
    constructor
    · intro hzm
      obtain ⟨p, hp, e⟩ := List.mem_map.mp hzm
      rw [← e, ← kz p hp]
      exact List.mem_map.mpr ⟨p, inM p hp, rfl⟩
    · intro hk
      obtain ⟨p, hp, e⟩ := List.mem_map.mp hk
      refine List.mem_map.mpr ⟨p, pm.mem_iff.mpr hp, ?_⟩
      have e' : p.2 = kOf z := e
      rw [e', zOf_k]
end
end OB
set_option Elab.async false
set_option linter.all false
set_option maxRecDepth 100000
set_option maxHeartbeats 4000000
namespace OB
open PySem PySem.Spec PyProof.Rows L2
/-! ### a set comprehension of two clauses, no tests -/
abbrev SC2 (elt ta ia tb ib : Expr) (scope : Scope) (pos : Pos) : Expr := .SetComp elt [⟨ta, ia, [], 0⟩, ⟨tb, ib, [], 0⟩] scope pos
section
variable {elt ta ia tb ib : Expr} {scope : Scope} {pos : Pos} {src acc : Value} {env : Env}
theorem sc2_turnA : compTurn (SC2 elt ta ia tb ib scope pos) 0 src acc env = (do
      standAt ia.pos
      match ← pyNext src with
      | none => pure (.done .next)
      | some v =>
        letOwnedTupleGo ta src v
        assign ta env v
        let u ← eval ib env
        standAt ib.pos
        let u ← foldedSetIterable ib env u
        let _ ← runOwn (.compStart (SC2 elt ta ia tb ib scope pos) 1 (← holding [u] (pyIter u)) acc env) env
        again (.compLoop (SC2 elt ta ia tb ib scope pos) 0 src acc env)) := by rfl
theorem sc2_turnB : compTurn (SC2 elt ta ia tb ib scope pos) 1 src acc env = (do
      standAt ib.pos
      match ← pyNext src with
      | none => pure (.done .next)
      | some v =>
        letOwnedTupleGo tb src v
        assign tb env v
        (do let u ← eval elt env; standAt elt.pos; let _ ← call (.builtin "set.add") [acc, u])
        again (.compLoop (SC2 elt ta ia tb ib scope pos) 1 src acc env)) := by rfl
variable {prog : Program} {w : World} {A : Around} {R : Result → Shared → Prop} {s : Shared}
/-- where an error of the block goes -/
abbrev errTo (prog : Program) (w : World) (A : Around) (env : Env) (R : Result → Shared → Prop) : Value → Shared → Prop := notedBy (model prog w) A env fun e s' => R (.error e) s'
theorem sc2_loopA (fold : ∀ x, foldedSetIterable ib env x = pure x) (I : Nat → Shared → Prop)
    (turn : ∀ n s, I n s → wpAny (model prog w) A (pyNext src) (fun r s1 => match r with
      | none => R (.ok .next) s1
      | some v => wpAny (model prog w) A (letOwnedTupleGo ta src v) (fun _ s2 => wpAny (model prog w) A (assign ta env v) (fun _ s3 => wpAny (model prog w) A (eval ib env) (fun u s4 => wpAny (model prog w) A (pyIter u) (fun inner s5 =>
          codeAny (model prog w) A (.compStart (SC2 elt ta ia tb ib scope pos) 1 inner acc env) (fun r' s' => match r' with
            | .ok _ => ∃ m, m < n ∧ I m s'
            | .error _ => False) s5) (errTo prog w A env R) s4) (errTo prog w A env R) s3) (errTo prog w A env R) s2) (errTo prog w A env R) s1) (errTo prog w A env R) s)
    (n : Nat) (h : I n s) : codeAny (model prog w) A (.compLoop (SC2 elt ta ia tb ib scope pos) 0 src acc env) R s := by
  refine codeAny_loop rfl I (fun left s' now => ?_) n h
  show wpAny _ A ((compTurn (SC2 elt ta ia tb ib scope pos) 0 src acc env).onRaise (fun e => do noteFrame e env; theTreesLotGoes e)) _ _ s'
  refine wpAny_noted ?_
  rw [sc2_turnA]
  refine wpAny_bind (wpAny_standAt (wpAny_bind (wpAny_mono (turn left s' now) (fun got s1 k1 => ?_) fun _ _ z => z)))
  match got, k1 with
  | none, k1 => exact wpAny_pure k1
  | some v, k1 =>
    refine wpAny_bind (wpAny_mono k1 (fun _ s2 k2 => wpAny_bind (wpAny_mono k2 (fun _ s3 k3 => wpAny_bind (wpAny_mono k3 (fun u s4 k4 => ?_) fun _ _ z => z)) fun _ _ z => z)) fun _ _ z => z)
    refine wpAny_bind (wpAny_standAt (wpAny_bind (wpAny_of_eq (fold u) (wpAny_bind (wpAny_holding (wpAny_mono k4 (fun inner s5 k5 => ?_) fun _ _ z => z))))))
    refine wpAny_bind (m := runOwn _ _) (wpAny_runOwn ?_)
    rw [Around.mark_none]
    refine codeAny_mono k5 fun out s6 k6 => ?_
    match out, k6 with
    | .ok _, k6 => first | exact wpAny_pure ⟨rfl, k6⟩ | exact wpAny_bind (wpAny_pure (wpAny_pure ⟨rfl, k6⟩))
    | .error _, k6 => exact k6.elim
theorem sc2_loopB (I : Nat → Shared → Prop)
    (turn : ∀ n s, I n s → wpAny (model prog w) A (pyNext src) (fun r s1 => match r with
      | none => R (.ok .next) s1
      | some v => wpAny (model prog w) A (letOwnedTupleGo tb src v) (fun _ s2 => wpAny (model prog w) A (assign tb env v) (fun _ s3 => wpAny (model prog w) A (eval elt env) (fun u s4 =>
          wpAny (model prog w) A (call (.builtin "set.add") [acc, u]) (fun _ s5 => ∃ m, m < n ∧ I m s5) (errTo prog w A env R) s4) (errTo prog w A env R) s3) (errTo prog w A env R) s2) (errTo prog w A env R) s1) (errTo prog w A env R) s)
    (n : Nat) (h : I n s) : codeAny (model prog w) A (.compLoop (SC2 elt ta ia tb ib scope pos) 1 src acc env) R s := by
  refine codeAny_loop rfl I (fun left s' now => ?_) n h
  show wpAny _ A ((compTurn (SC2 elt ta ia tb ib scope pos) 1 src acc env).onRaise (fun e => do noteFrame e env; theTreesLotGoes e)) _ _ s'
  refine wpAny_noted ?_
  rw [sc2_turnB]
  refine wpAny_bind (wpAny_standAt (wpAny_bind (wpAny_mono (turn left s' now) (fun got s1 k1 => ?_) fun _ _ z => z)))
  match got, k1 with
  | none, k1 => exact wpAny_pure k1
  | some v, k1 =>
    refine wpAny_bind (wpAny_mono k1 (fun _ s2 k2 => wpAny_bind (wpAny_mono k2 (fun _ s3 k3 => ?_) fun _ _ z => z)) fun _ _ z => z)
    exact wpAny_bind (wpAny_bind (wpAny_mono k3 (fun u s4 k4 => wpAny_bind (wpAny_standAt (wpAny_bind (wpAny_mono k4 (fun _ s5 k5 => wpAny_pure (wpAny_pure ⟨rfl, k5⟩)) fun _ _ z => z)))) fun _ _ z => z))
theorem sc2_startB (walk : codeAny (model prog w) A (.compLoop (SC2 elt ta ia tb ib scope pos) 1 src acc env) R s)
    (again' : wpAny (model prog w) A (pyIter src) (fun it' s' => codeAny (model prog w) A (.compLoop (SC2 elt ta ia tb ib scope pos) 1 it' acc env) R s') (notedBy (model prog w) A env fun e s' => R (.error e) s') s) :
    codeAny (model prog w) A (.compStart (SC2 elt ta ia tb ib scope pos) 1 src acc env) R s := by
  refine codeAny_of_tree ?_
  show wpAny _ _ ((compStart (SC2 elt ta ia tb ib scope pos) 1 src acc env).onRaise (fun e => do noteFrame e env; standAt theWindowsPlace)) _ _ s
  refine wpAny_notedAt ?_
  unfold compStart
  show wpAny (model prog w) A (ask >>= _) _ (errTo prog w A env R) s
  refine wpAny_bind (wpAny_askSetting (wpAny_ite ?_))
  split
  · first
      | exact wpAny_bind (wpAny_pure (wpAny_pure ⟨rfl, walk⟩))
      | exact wpAny_pure ⟨rfl, walk⟩
  · first
      | exact wpAny_bind (wpAny_rule (wpAny_bind (wpAny_standAt (wpAny_bind (wpAny_mono again' (fun it' s' k => wpAny_pure ⟨rfl, k⟩) fun _ _ z => z)))))
      | (refine wpAny_bind (wpAny_rule ?_); show wpAny _ _ (standAt ib.pos >>= _) _ _ s; exact wpAny_bind (wpAny_standAt (wpAny_bind (wpAny_mono again' (fun it' s' k => wpAny_pure ⟨rfl, k⟩) fun _ _ z => z))))
end
end OB
set_option Elab.async false
set_option linter.all false
set_option maxRecDepth 100000
set_option maxHeartbeats 4000000
namespace OB
open PySem PySem.Spec PyProof.Rows L2
/-! ### a set comprehension of two clauses, whatever its members are -/
def tSc2 (r : V → List V → Hp → VK → Prop) (o0 : Addr → HO) (wi : TI) (g : TG) (wi1 : TI) (g1 : TG) (te : TE) (vs vs1 : List Nat) : TE := fun σ H Q =>
  wi σ H fun J Ha => ∀ D, Ha D = none → ∃ Wk : Nat → Nat → Hp → Prop, (∃ m, Wk 0 m (upd Ha D (o0 D))) ∧
    ∀ i m Hb, Wk i m Hb → (J.stop i Hb ∧ Q (.ref D) Hb) ∨
      (J.go i Hb ∧ ∃ Nx : Hp → Prop, (∀ Hc, Nx Hc → ∃ m', m' < m ∧ Wk (i + 1) m' Hc) ∧
        ∀ x Hc, J.yld i Hb x Hc → g x (wipe σ vs) Hc fun σ' Hd => wipe σ' vs = wipe σ vs ∧
          wi1 σ' Hd fun J1 He => ∃ W1 : Nat → Nat → Hp → Prop, (∃ m, W1 0 m He) ∧
            ∀ j k Hf, W1 j k Hf → (J1.stop j Hf ∧ Nx Hf) ∨
              (J1.go j Hf ∧ ∃ N1 : Hp → Prop, (∀ Hg, N1 Hg → ∃ k', k' < k ∧ W1 (j + 1) k' Hg) ∧
                ∀ y Hg, J1.yld j Hf y Hg → g1 y (wipe σ' vs1) Hg fun σ'' Hh => wipe σ'' vs1 = wipe σ' vs1 ∧
                  te σ'' Hh fun z Hi => r (.ref D) [z] Hi fun _ Hj => N1 Hj))
section
variable {X : Cx}
theorem pe_sc2 {r : V → List V → Hp → VK → Prop} {o0 : Addr → HO} {elt tg iter tg1 iter1 : Expr} {scope : Scope} {own : List (PySem.Str × Nat)} {vs1 : List Nat} {pos : Pos} {wi wi1 : TI} {g g1 : TG} {te : TE}
    (calm : X.calm = true) (nd : X.N.Nodup) (walk : PI X tg iter wi) (blk : BlkOk X.N X.env.scope scope own) (own1 : ∀ i ∈ vs1, i ∈ own.map (·.2))
    (new : ∀ (H : Hp) (h : Heap), ObjOk X.prog X.w H (h.push (emptySet X.w)) h.objs.size (o0 h.objs.size))
    (add : ∀ (s : Shared) (H : Hp) (ce : Env) (fp : List Addr), MtR (X.blk s H scope ce fp) "set.add" r)
    (put : ∀ (s : Shared) (H : Hp) (C : Addr) (cl : List (PySem.Str × Addr)) (fp : List Addr), PG (X.blk s H scope (compEnvC scope cl C X.env) fp) tg g)
    (walk1 : ∀ (s : Shared) (H : Hp) (C : Addr) (cl : List (PySem.Str × Addr)) (fp : List Addr), PI (X.blk s H scope (compEnvC scope cl C X.env) fp) tg1 iter1 wi1)
    (put1 : ∀ (s : Shared) (H : Hp) (C : Addr) (cl : List (PySem.Str × Addr)) (fp : List Addr), PG (X.blk s H scope (compEnvC scope cl C X.env) fp) tg1 g1)
    (val : ∀ (s : Shared) (H : Hp) (C : Addr) (cl : List (PySem.Str × Addr)) (fp : List Addr), PE (X.blk s H scope (compEnvC scope cl C X.env) fp) elt te)
    (fold : ∀ x, foldedSetIterable iter X.env x = pure x := by intro _; rfl) (fold1 : ∀ env x, foldedSetIterable iter1 env x = pure x := by intro _ _; rfl) :
    PE X (SC2 elt tg iter tg1 iter1 scope pos) (tSc2 r o0 wi g wi1 g1 te (own.map (·.2)) vs1) := by
  constructor
  intro pins s σ H Q inv given
  rw [PpSet.eval_SetComp]
  have seen : ∀ y ∈ scope.names, y.2 = .free → ∃ cell, X.env.cells.lookup y.1 = some cell := by
    intro y hy fr
    exact (blk.free y hy fr).elim (fun z => inv.ok.has _ (.inl z)) (fun z => inv.ok.has _ (.inr z))
  refine wpAny_comprehension_free (use := none) rfl fold (closure_ok seen) blk.kind (fun y hy lo => by rw [blk.uniq y hy, lo]) ?_
  refine thn (walk.run pins s σ H _ inv given) fun xv sA atA => thn atA fun itv sB atB => ?_
  obtain ⟨it, fp, tn, J, HB, eit, invB, T, stB, fpB, rest⟩ := atB
  subst eit
  refine PpSet.newSet_ok (newEnv_comp ?_)
  have freeD : HB sB.heap.objs.size = none := invB.hok.fresh (Nat.le_refl _)
  obtain ⟨Wk, ⟨m0, w0⟩, turn⟩ := rest sB.heap.objs.size freeD
  generalize eD : sB.heap.objs.size = D at freeD w0 turn
  generalize eN : ({ sB with heap := sB.heap.push (emptySet X.w) } : Shared) = sN
  have heapN : sN.heap = sB.heap.push (emptySet X.w) := by rw [← eN]
  have sizeN : sN.heap.objs.size = D + 1 := by rw [heapN, Heap.size_push, eD]
  have invN : Inv X pins σ (upd HB D (o0 D)) sN := by
    rw [← eN, ← eD]
    exact invB.laid (t' := sB.toks) (fun _ _ z => Heap.get?_push_of_some _ z) (Nat.le_refl _) (new _ _)
  have older : ∀ b ∈ fp, b < D := fun b hb => by
    obtain ⟨u, hu, _⟩ := T.obj _ _ stB b hb
    rw [← eD]; exact Heap.lt_size hu
  have fpN : ∀ b ∈ fp, FpOk X pins (upd HB D (o0 D)) b ∧ b < sN.heap.objs.size := by
    intro b hb
    have lt := older b hb
    obtain ⟨f1, f2⟩ := fpB b hb
    exact ⟨⟨(upd_ne (Nat.ne_of_lt lt)).trans f1, f2⟩, by rw [sizeN]; exact Nat.lt_succ_of_lt lt⟩
  have stN : tn 0 sN.heap := T.keep _ _ _ stB fun _ _ _ z => by rw [heapN]; exact Heap.get?_push_of_some _ z
  have inv0 := block_start invN blk nd fpN
  generalize eC : sN.heap.objs.size = C at inv0
  generalize eH : upd HB D (o0 D) = HN at invN inv0 w0 fpN
  have hput := put sN HN C (cellsFrom (C + 1) scope.names (cloFrom X.env.cells scope.names [])) fp
  have hwalk1 := walk1 sN HN C (cellsFrom (C + 1) scope.names (cloFrom X.env.cells scope.names [])) fp
  have hput1 := put1 sN HN C (cellsFrom (C + 1) scope.names (cloFrom X.env.cells scope.names [])) fp
  have hval := val sN HN C (cellsFrom (C + 1) scope.names (cloFrom X.env.cells scope.names [])) fp
  generalize eE : compEnvC scope (cellsFrom (C + 1) scope.names (cloFrom X.env.cells scope.names [])) C X.env = ce at inv0 hput hwalk1 hput1 hval
  have ceC : ce.locals = C := by rw [← eE]; rfl
  have hadd := add sN HN ce fp
  generalize eS : ({ sN with heap := pushCells (sN.heap.push { cls := .type "dict", data := .dict #[] }) scope.names } : Shared) = s0 at inv0
  have st0 : tn 0 s0.heap := T.keep _ _ _ stN fun _ _ _ z => by rw [← eS]; exact pushCells_keeps _ _ _ _ (Heap.get?_push_of_some _ z)
  have away : ∀ b ∈ fp, HN b = none := fun b hb => (fpN b hb).1.1
  suffices goal : codeAny (model X.prog X.w) X.A (.compStart (SC2 elt tg iter tg1 iter1 scope pos) 0 (.ref it) (.ref D) ce) (compPost (model X.prog X.w) X.A X.xe none (EP X pins σ Q) (.ref D) C) s0 by
    rw [← eE] at goal; exact goal
  -- behind the last turn
  have post : ∀ {H' : Hp} {s' : Shared}, Inv (X.blk sN HN scope ce fp) [] (wipe σ (own.map (·.2))) H' s' → Q (.ref D) H' → compPost (model X.prog X.w) X.A X.xe none (EP X pins σ Q) (.ref D) C (.ok .next) s' := by
    intro H' s' j q
    have jX : Inv X pins σ H' s' := invN.call' (ch := fp) j.os j.base j.hok j.bare fun b hb => by
      obtain ⟨⟨_, u1, _, u3, u4, u5⟩, _⟩ := fpN b hb
      exact ⟨u3, u1, u4, u5⟩
    have noC : H' C = none := by rw [← ceC]; exact j.free
    obtain ⟨m, names, _⟩ := j.loc
    have names' : s'.heap.Ns C m := by rw [← ceC]; exact names
    obtain ⟨v0, v1, _, v3, v4, v5⟩ := invN.fpOk (Nat.le_of_eq eC) noC
    exact ⟨m, names', fun h' same => ⟨.ref D, H', jX.turned (t' := s'.toks) (fun b o hb e => (same.2 b hb).trans e) v0 v1 v3 v4 v5, rfl, q⟩⟩
  have info : ∀ {σ' : L2.St} {H' : Hp} {s' : Shared}, Inv (X.blk sN HN scope ce fp) [] σ' H' s' → (∀ b ∈ fp, H' b = none) → ∀ b ∈ fp, FpOk (X.blk sN HN scope ce fp) [] H' b := by
    intro σ' H' s' j none' b hb
    exact ⟨none' b hb, (j.ok.exf b hb).1, j.ok.exfs b hb, .inl hb, (j.ok.exf b hb).2, fun p hp => by simp at hp⟩
  have loop : codeAny (model X.prog X.w) X.A (.compLoop (SC2 elt tg iter tg1 iter1 scope pos) 0 (.ref it) (.ref D) ce) (compPost (model X.prog X.w) X.A X.xe none (EP X pins σ Q) (.ref D) C) s0 := by
    refine sc2_loopA (fold1 ce) (fun left s' => ∃ i H', Inv (X.blk sN HN scope ce fp) [] (wipe σ (own.map (·.2))) H' s' ∧ tn i s'.heap ∧ (∀ b ∈ fp, H' b = none) ∧ Wk i left H') ?_ m0 ⟨0, HN, inv0, st0, away, w0⟩
    rintro left s1 ⟨i, H1, j1, t1, a1, w1⟩
    rcases turn i left H1 w1 with ⟨stop, q⟩ | ⟨go, Nx, less, step⟩
    · refine thnF (T.done (X.blk sN HN scope ce fp) rfl rfl rfl calm i [] s1 _ H1 (fun _ _ => False) j1 (info j1 a1) t1 stop) fun out s2 ⟨eo, j2⟩ => ?_
      subst eo
      exact post j2 q
    · refine thnF (T.item (X.blk sN HN scope ce fp) rfl rfl rfl calm i [] s1 _ H1 (fun _ _ => False) j1 (info j1 a1) t1 go) fun out s2 ⟨u, eo, next⟩ => ?_
      subst eo
      refine thnF next fun _ s3 ⟨x, H3, j3, rx, y3, t3, a3⟩ => ?_
      refine thnF (hput.run _ s3 _ H3 x u _ (j3.pinned (info j3 a3) (T.obj _ _ t3)) rx (step x H3 y3)) fun _ s4 ⟨σ4, H4, j4, same, q4⟩ => ?_
      -- the turn of the first clause ends, from any slots that know what the block knew
      have close : ∀ {σ' : L2.St} {s' : Shared} {H' : Hp}, Inv (X.blk sN HN scope ce fp) ([] ++ pinsAt fp s3.heap) σ' H' s' → (wipe σ (own.map (·.2))).length = σ'.length → (∀ (n : Nat) v, (wipe σ (own.map (·.2)))[n]? = some (some v) → σ'[n]? = some (some v)) → Nx H' →
          ∃ m, m < left ∧ ∃ i H', Inv (X.blk sN HN scope ce fp) [] (wipe σ (own.map (·.2))) H' s' ∧ tn i s'.heap ∧ (∀ b ∈ fp, H' b = none) ∧ Wk i m H' := by
        intro σ' s' H' j len know nx
        obtain ⟨m, lt, w'⟩ := less H' nx
        have kept : ∀ b ∈ fp, ∀ o, s3.heap.get? b = some o → s'.heap.get? b = some o ∧ H' b = none := by
          intro b hb o e
          have z := j.pin (b, o) (List.mem_append_right _ (List.mem_append_right _ (mem_pinsAt hb e)))
          exact ⟨z.1, z.2.1⟩
        refine ⟨m, lt, i + 1, H', (j.unpinned (pins := [])).weak len know, T.keep _ _ _ t3 fun b hb o e => (kept b hb o e).1, fun b hb => ?_, w'⟩
        obtain ⟨o, e, _⟩ := T.obj _ _ t3 b hb
        exact (kept b hb o e).2
      have len4 : (wipe σ (own.map (·.2))).length = σ4.length := by rw [← same, wipe_length]
      have know4 : ∀ (n : Nat) v, (wipe σ (own.map (·.2)))[n]? = some (some v) → (wipe σ4 vs1)[n]? = some (some v) := by
        intro n v e
        rw [← same] at e
        obtain ⟨e1, e2⟩ := wipe_some e
        rw [wipe_out fun z => e2 (own1 n z)]
        exact e1
      refine thnF (hwalk1.run _ s4 σ4 H4 _ j4 q4) fun xv1 s5 at5 => thnF at5 fun itv1 s6 at6 => ?_
      obtain ⟨it1, fp1, tn1, J1, H6, eit1, j6, T1, t6, fp6, W1, ⟨m1, w6⟩, turn1⟩ := at6
      subst eit1
      have info1 : ∀ {H' : Hp}, (∀ b ∈ fp1, H' b = none) → ∀ b ∈ fp1, FpOk (X.blk sN HN scope ce fp) ([] ++ pinsAt fp s3.heap) H' b := fun none' b hb => ⟨none' b hb, (fp6 b hb).2⟩
      have inner : codeAny (model X.prog X.w) X.A (.compLoop (SC2 elt tg iter tg1 iter1 scope pos) 1 (.ref it1) (.ref D) ce) (fun r' s' => match r' with
          | .ok _ => ∃ m, m < left ∧ ∃ i H', Inv (X.blk sN HN scope ce fp) [] (wipe σ (own.map (·.2))) H' s' ∧ tn i s'.heap ∧ (∀ b ∈ fp, H' b = none) ∧ Wk i m H'
          | .error _ => False) s6 := by
        refine sc2_loopB (fun l1 s' => ∃ n H', Inv (X.blk sN HN scope ce fp) ([] ++ pinsAt fp s3.heap) (wipe σ4 vs1) H' s' ∧ tn1 n s'.heap ∧ (∀ b ∈ fp1, H' b = none) ∧ W1 n l1 H') ?_ m1 ⟨0, H6, j6.weak (wipe_length _ _) (fun n v e => (wipe_some e).1), t6, fun b hb => (fp6 b hb).1, w6⟩
        rintro l1 s7 ⟨n, H7, j7, t7, a7, w7⟩
        rcases turn1 n l1 H7 w7 with ⟨stop1, nx1⟩ | ⟨go1, N1, less1, step1⟩
        · refine thnF (T1.done (X.blk sN HN scope ce fp) rfl rfl rfl calm n _ s7 (wipe σ4 vs1) H7 (fun _ _ => False) j7 (info1 a7) t7 stop1) fun out s8 ⟨eo, j8⟩ => ?_
          subst eo
          exact close j8 (len4.trans (wipe_length σ4 vs1).symm) know4 nx1
        · refine thnF (T1.item (X.blk sN HN scope ce fp) rfl rfl rfl calm n _ s7 (wipe σ4 vs1) H7 (fun _ _ => False) j7 (info1 a7) t7 go1) fun out s8 ⟨u1, eo, next1⟩ => ?_
          subst eo
          refine thnF next1 fun _ s9 ⟨x1, H9, j9, rx1, y9, t9, a9⟩ => ?_
          refine thnF (hput1.run _ s9 (wipe σ4 vs1) H9 x1 u1 _ (j9.pinned (info1 a9) (T1.obj _ _ t9)) rx1 (step1 x1 H9 y9)) fun _ s10 ⟨σ10, H10, j10, same1, q10⟩ => ?_
          refine thnF (hval.run _ s10 σ10 H10 _ j10 q10) fun z s11 ⟨y, H11, j11, ry, q11⟩ => ?_
          refine thnF (hadd _ s11 σ10 H11 (.ref D) [y] (.ref D) [z] (fun _ Hg => N1 Hg) j11 rfl (.cons ry .nil) q11) fun _ s12 ⟨_, H12, j12, _, nx⟩ => ?_
          obtain ⟨m, lt, w'⟩ := less1 H12 nx
          have kept : ∀ b ∈ fp1, ∀ o, s9.heap.get? b = some o → s12.heap.get? b = some o ∧ H12 b = none := by
            intro b hb o e
            have z := j12.pin (b, o) (List.mem_append_right _ (List.mem_append_right _ (mem_pinsAt hb e)))
            exact ⟨z.1, z.2.1⟩
          refine ⟨m, lt, n + 1, H12, j12.unpinned.weak (by rw [← same1, wipe_length]) (fun n v e => by rw [← same1] at e; exact (wipe_some e).1), T1.keep _ _ _ t9 fun b hb o e => (kept b hb o e).1, fun b hb => ?_, w'⟩
          obtain ⟨o, e, _⟩ := T1.obj _ _ t9 b hb
          exact (kept b hb o e).2
      exact sc2_startB inner (T1.self X.A 0 _ _ _ t6 inner)
  exact PpSet.codeAny_compStart_set loop (T.self X.A 0 _ _ _ st0 loop)
end
end OB
set_option Elab.async false
set_option linter.all false
set_option maxRecDepth 100000
set_option maxHeartbeats 4000000
namespace OB
open PySem PySem.Spec PyProof.Rows L2
/-! ### sorted({a small int for .. for ..}) -/
/-- what a set of ints holds, told as numbers -/
structure SetU (S : Int → Bool) (n : Nat) (U : List Nat) : Prop where
  nd : U.Nodup
  ln : U.length = n
  me : ∀ v : Int, S v = true ↔ ∃ u ∈ U, (u : Int) = v
theorem SetU.add {S : Int → Bool} {n : Nat} {U : List Nat} (h : SetU S n U) (u : Nat) : ∃ U', SetU (fun j => S j || decide (j = (u : Int))) (if S (u : Int) = true then n else n + 1) U' ∧ ∀ v, v ∈ U' ↔ v ∈ U ∨ v = u := by
  by_cases hs : S (u : Int) = true
  · have hu : u ∈ U := by
      obtain ⟨x, hx, e⟩ := (h.me _).mp hs
      have : x = u := by omega
      rw [← this]; exact hx
    refine ⟨U, ⟨h.nd, by rw [if_pos hs]; exact h.ln, fun v => ?_⟩, fun v => ⟨fun z => .inl z, fun z => z.elim id fun e => by rw [e]; exact hu⟩⟩
    rw [Bool.or_eq_true, decide_eq_true_iff, h.me]
    exact ⟨fun z => z.elim id fun e => ⟨u, hu, e.symm⟩, .inl⟩
  · have hu : u ∉ U := fun z => hs ((h.me _).mpr ⟨u, z, rfl⟩)
    refine ⟨U ++ [u], ⟨List.nodup_append.mpr ⟨h.nd, by simp, fun a ha b hb e => ?_⟩, by rw [if_neg hs, List.length_append, h.ln]; rfl, fun v => ?_⟩, fun v => by simp⟩
    · have : b = u := by simpa using hb
      subst this; subst e; exact hu ha
    · rw [Bool.or_eq_true, decide_eq_true_iff, h.me]
      constructor
      · rintro (⟨x, hx, e⟩ | e)
        · exact ⟨x, List.mem_append_left _ hx, e⟩
        · exact ⟨u, List.mem_append_right _ (by simp), e.symm⟩
      · rintro ⟨x, hx, e⟩
        rcases List.mem_append.mp hx with z | z
        · exact .inl ⟨x, z, e⟩
        · have : x = u := by simpa using z
          rw [this] at e; exact .inr e.symm
theorem few_lt {m : Nat} {U : List Nat} (hn : U.Nodup) (h : ∀ x ∈ U, x < m) : U.length ≤ m := by
  have p : U.Perm ((List.range m).filter fun x => decide (x ∈ U)) := (List.perm_ext_iff_of_nodup hn (List.Pairwise.filter _ List.nodup_range)).mpr fun x => by
    simp only [List.mem_filter, List.mem_range, decide_eq_true_eq]
    exact ⟨fun q => ⟨h x q, q⟩, fun q => q.2⟩
  rw [p.length_eq]
  exact Nat.le_trans (List.length_filter_le _ _) (by simp)
section
variable {X : Cx} {N : List PySem.Str} {S scope : Scope} {B0 H0 : Hp} {sds : List SD} {os : List (Addr × OV)} {pos p cpos : Pos} {elt tg iter tg1 iter1 : Expr} {P : List D → Prop} {k : Nat}
def Sc2Ok (X : Cx) (scope : Scope) (B0 H0 : Hp) (sds : List SD) (os : List (Addr × OV)) (t t1 : Tg) (vs vs1 : List Nat) (tg1 iter1 elt : Expr) (P : List D → Prop) (l : List D) : Prop :=
  ∃ (α β : Type) (L : List α) (enc : α → D) (M : α → List β) (enc1 : β → D) (g : α → β → Nat), l = L.map enc ∧ (∀ x ∈ L, ∀ y ∈ M x, g x y < 63) ∧
    (∀ x ∈ L, t.put (enc x) (wipeS sds vs) fun s' => ∀ X', Blk X scope X' → IX X' B0 H0 s' os tg1 iter1 fun l1 => l1 = (M x).map enc1 ∧ ∀ y ∈ M x, t1.put (enc1 y) (wipeS s' vs1) fun s2 => ∀ X', Blk X scope X' → EX X' B0 H0 s2 os elt (· = .int (g x y : Int))) ∧
    ∀ m : List Nat, m.Pairwise (· < ·) → (∀ v, v ∈ m ↔ ∃ x ∈ L, ∃ y ∈ M x, g x y = v) → P (m.map fun (i : Nat) => .int (i : Int))
theorem el_sortSC2 (c : Ctx X N S) (own : List (PySem.Str × Nat)) (vs1 : List Nat) (t t1 : Tg) (hg : ∀ X', Blk X scope X' → PG X' tg (t.r X'.K)) (hg1 : ∀ X', Blk X scope X' → PG X' tg1 (t1.r X'.K)) (hm : X.mg "sorted" = none)
    (hi : IX X B0 H0 sds os tg iter (Sc2Ok X scope B0 H0 sds os t t1 (own.map (·.2)) vs1 tg1 iter1 elt P))
    (hb : blkC N S scope own = true := by decide +kernel) (hv : (t.idx.all fun i => decide (i ∈ own.map (·.2))) = true := by decide) (hw : (vs1.all fun i => decide (i ∈ own.map (·.2))) = true := by decide) (hv1 : (t1.idx.all fun i => decide (i ∈ vs1)) = true := by decide)
    (hs : ∀ x, foldedSetIterable iter X.env x = pure x := by intro _; rfl) (hs1 : ∀ env x, foldedSetIterable iter1 env x = pure x := by intro _ _; rfl) (hgl : glB S "sorted" = true := by decide +kernel)
    (he : starEach [SC2 elt tg iter tg1 iter1 scope cpos] X.env = [(false, eval (SC2 elt tg iter tg1 iter1 scope cpos) X.env)] := by rfl) :
    EL X B0 H0 sds os (.Call (.Name "sorted" p) [SC2 elt tg iter tg1 iter1 scope cpos] [] pos) P := fun B H σ s Q q => by
  obtain ⟨wi, hpi, hwi⟩ := hi
  have hv' : ∀ i ∈ t.idx, i ∈ own.map (·.2) := fun i h => of_decide_eq_true (List.all_eq_true.mp hv i h)
  have hw' : ∀ i ∈ vs1, i ∈ own.map (·.2) := fun i h => of_decide_eq_true (List.all_eq_true.mp hw i h)
  have hv1' : ∀ i ∈ t1.idx, i ∈ vs1 := fun i h => of_decide_eq_true (List.all_eq_true.mp hv1 i h)
  refine PE.to (pe_callB (cr_sortedSet c.calm) (c.gl hgl) hm (by decide +kernel) (pa_cons (pe_sc2 (vs1 := vs1) (r := rSAdd X.w) (o0 := fun D => SetO X.w D (fun _ => false) 0) (g := t.r X.K) (g1 := t1.r X.K) (wi1 := fun σ H R => ∀ X', Blk X scope X' → wI X' tg1 iter1 σ H R) (te := fun σ H Q => ∀ X', Blk X scope X' → wE X' elt σ H Q)
    c.calm (by rw [c.hN]; exact c.nd) hpi (blkOk_by (by rw [c.hN, c.hS]; exact hb)) hw' (fun H h => setO_new (setR_fresh X.w)) (fun s H ce fp => mt_sadd (X := X.blk s H scope ce fp)) (fun s H C cl fp => hg _ ⟨s, H, C, cl, fp, rfl⟩)
    (fun s H C cl fp => ⟨fun pins sh σ' H' R' I h => (h _ ⟨s, H, C, cl, fp, rfl⟩).run pins sh I⟩) (fun s H C cl fp => hg1 _ ⟨s, H, C, cl, fp, rfl⟩) (fun s H C cl fp => ⟨fun pins sh σ' H' Q' I h => (h _ ⟨s, H, C, cl, fp, rfl⟩).run pins sh I⟩) hs hs1) pa_nil he) (by decide +kernel) (by decide +kernel) he rfl) ?_
  show tSc2 (rSAdd X.w) (fun D => SetO X.w D (fun _ => false) 0) wi (t.r X.K) (fun σ H R => ∀ X', Blk X scope X' → wI X' tg1 iter1 σ H R) (t1.r X.K) (fun σ H Q => ∀ X', Blk X scope X' → wE X' elt σ H Q) (own.map (·.2)) vs1 σ H fun x H1 => rSortedSet X.w [x] H1 Q
  refine hwi B H σ s _ fun J B1 H1 l g1 ⟨α, β, L, enc, M, enc1, g, hl, hz, ht, hp⟩ wk => ?_
  have s1 := s.grow g1
  intro D hD
  have bD : B1 D = none := Evl.fresh_back g1.bh hD
  have ll : l.length = L.length := by rw [hl, List.length_map]
  let Has : Hp → (Nat → Prop) → Prop := fun H' V => ∃ (T : Int → Bool) (n : Nat) (U : List Nat), H' D = some (SetO X.w D T n) ∧ SetU T n U ∧ (∀ v, v ∈ U ↔ V v) ∧ ∀ v ∈ U, v < 63
  let Wk : Nat → Nat → Hp → Prop := fun i m H' => m = L.length - i ∧ i ≤ L.length ∧ ∃ B', Grow B1 H1 B' H' ∧ B' D = none ∧ Has H' fun v => ∃ x ∈ L.take i, ∃ y ∈ M x, g x y = v
  refine ⟨Wk, ⟨L.length, by simp, Nat.zero_le _, B1, ⟨Evl.Ex.refl _, Evl.Ex.new hD, g1.bh.trans (Evl.Ex.new hD), fun _ h => .inl h⟩, bD, fun _ => false, 0, [], upd_same, ⟨.nil, rfl, fun v => ⟨fun z => (by cases z), fun ⟨_, z, _⟩ => (nomatch z)⟩⟩, fun v => by simp, fun v z => (nomatch z)⟩, ?_⟩
  rintro i m H' ⟨rfl, hk, B', gr, b', has⟩
  by_cases hlt : i < L.length
  · refine .inr ⟨wk.go i H' (gr.b.trans gr.bh) (by rw [ll]; exact hlt), fun H2 => Wk (i + 1) (L.length - (i + 1)) H2, fun H2 h2 => ⟨_, by omega, h2⟩, fun x H2 hy => ?_⟩
    obtain ⟨d, B2, hd, g2, i2⟩ := wk.yld i B' H' x H2 gr.b gr.bh (by rw [ll]; exact hlt) hy
    obtain ⟨y, hy'⟩ : ∃ y, L[i]? = some y := ⟨_, List.getElem?_eq_getElem hlt⟩
    have ed : d = enc y := by
      rw [hl, List.getElem?_map, hy'] at hd
      exact (Option.some.inj hd).symm
    subst ed
    have ym : y ∈ L := List.mem_of_getElem? hy'
    have gr2 := gr.trans g2
    have s2 := (s1.grow gr2).wipe (own.map (·.2))
    have b2 : B2 D = none := by obtain ⟨_, _, _, h, _⟩ := has; exact g2.out b' h
    have up : ∀ {Ha Hb : Hp} {V : Nat → Prop}, Ex Ha Hb → Has Ha V → Has Hb V := fun e ⟨T, n, U, h, r⟩ => ⟨T, n, U, e _ _ h, r⟩
    have has2 := up g2.h has
    refine Tg.runW (vv := own.map (·.2)) hv' s2 i2 (ht y ym) fun σ3 sds3 we s3 kk => ⟨we.trans wipe_wipe, ?_⟩
    intro X' bx
    have hk' : X'.K = X.K := by obtain ⟨_, _, _, _, _, rfl⟩ := bx; rfl
    have s3' := s3
    rw [← hk'] at s3'
    refine IX.w (kk X' bx) s3' fun J1 B4 H4 l1 g4 ⟨e4, k4⟩ wk1 => ?_
    subst e4
    rw [hk'] at wk1
    have gr4 := gr2.trans g4
    have b4 : B4 D = none := by obtain ⟨_, _, _, h, _⟩ := has2; exact g4.out b2 h
    have has4 := up g4.h has2
    have l1l : ((M y).map enc1).length = (M y).length := List.length_map _
    let W1 : Nat → Nat → Hp → Prop := fun j m H' => m = (M y).length - j ∧ j ≤ (M y).length ∧ ∃ B', Grow B1 H1 B' H' ∧ Ex B4 B' ∧ B' D = none ∧ Has H' fun v => (∃ x ∈ L.take i, ∃ y ∈ M x, g x y = v) ∨ ∃ z ∈ (M y).take j, g y z = v
    refine ⟨W1, ⟨_, rfl, Nat.zero_le _, B4, gr4, Evl.Ex.refl _, b4, ?_⟩, ?_⟩
    · obtain ⟨T, n, U, h, u1, u2, u3⟩ := has4
      exact ⟨T, n, U, h, u1, fun v => by rw [u2]; simp, u3⟩
    rintro j m H5 ⟨rfl, hj, B5, gr5, e5, b5, has5⟩
    by_cases hjl : j < (M y).length
    · refine .inr ⟨wk1.go j H5 (e5.trans gr5.bh) (by rw [l1l]; exact hjl), fun H2 => W1 (j + 1) ((M y).length - (j + 1)) H2, fun H2 h2 => ⟨_, by omega, h2⟩, fun x H6 hy => ?_⟩
      obtain ⟨d, B6, hd, g6, i6⟩ := wk1.yld j B5 H5 x H6 e5 gr5.bh (by rw [l1l]; exact hjl) hy
      obtain ⟨z, hz'⟩ : ∃ z, (M y)[j]? = some z := ⟨_, List.getElem?_eq_getElem hjl⟩
      have ed : d = enc1 z := by
        rw [List.getElem?_map, hz'] at hd
        exact (Option.some.inj hd).symm
      subst ed
      have zm : z ∈ M y := List.mem_of_getElem? hz'
      have gr6 := gr5.trans g6
      have s6 := ((s1.grow gr6).slots (s3.sl.mono (g4.b.trans (e5.trans g6.b)))).wipe vs1
      have b6 : B6 D = none := by obtain ⟨_, _, _, h, _⟩ := has5; exact g6.out b5 h
      have has6 := up g6.h has5
      refine Tg.runW (vv := vs1) hv1' s6 i6 (k4 z zm) fun σ7 sds7 we7 s7 kk7 => ⟨we7.trans wipe_wipe, ?_⟩
      intro X2 bx2
      have hk2 : X2.K = X.K := by obtain ⟨_, _, _, _, _, rfl⟩ := bx2; rfl
      have s7' := s7
      rw [← hk2] at s7'
      refine kk7 X2 bx2 B6 H6 σ7 s7' _ fun w B8 H8 d8 g8 i8 e8 => ?_
      subst e8
      cases i8
      have gr8 := gr6.trans g8
      obtain ⟨T, n, U, h8, u1, u2, u3⟩ := up g8.h has6
      have b8 : B8 D = none := by obtain ⟨_, _, _, h, _⟩ := has6; exact g8.out b6 h
      have small := few_lt u1.nd u3
      obtain ⟨U', v1, v2⟩ := u1.add (g y z)
      refine ⟨D, (g y z : Int), T, n, rfl, rfl, h8, by rw [← u1.ln]; unfold scanBound; omega, ?_⟩
      refine ⟨rfl, hjl, B8, ⟨gr8.b, gr8.h.mut hD, Evl.Ex.mut gr8.bh b8, gr8.fr⟩, e5.trans (g6.b.trans g8.b), b8, _, _, U', upd_same, v1, fun v => ?_, fun v hv => ?_⟩
      · have et : (M y).take (j + 1) = (M y).take j ++ [z] := by rw [List.take_succ, hz']; rfl
        rw [v2, u2, et]
        constructor
        · rintro ((h | ⟨a, ha, e⟩) | e)
          · exact .inl h
          · exact .inr ⟨a, List.mem_append_left _ ha, e⟩
          · exact .inr ⟨z, List.mem_append_right _ (by simp), e.symm⟩
        · rintro (h | ⟨a, ha, e⟩)
          · exact .inl (.inl h)
          · rcases List.mem_append.mp ha with h | h
            · exact .inl (.inr ⟨a, h, e⟩)
            · have : a = z := by simpa using h
              rw [this] at e; exact .inr e.symm
      · rcases (v2 v).mp hv with h | h
        · exact u3 v h
        · rw [h]; exact hz y ym z zm
    · have e : j = (M y).length := by omega
      subst e
      refine .inl ⟨wk1.stop _ H5 (e5.trans gr5.bh) (by rw [l1l]; exact Nat.le_refl _), rfl, hlt, B5, gr5, b5, ?_⟩
      obtain ⟨T, n, U, h, u1, u2, u3⟩ := has5
      have et : L.take (i + 1) = L.take i ++ [y] := by rw [List.take_succ, hy']; rfl
      refine ⟨T, n, U, h, u1, fun v => ?_, u3⟩
      rw [u2, List.take_length, et]
      constructor
      · rintro (⟨x, hx, r⟩ | ⟨z, hz, r⟩)
        · exact ⟨x, List.mem_append_left _ hx, r⟩
        · exact ⟨y, List.mem_append_right _ (by simp), z, hz, r⟩
      · rintro ⟨x, hx, r⟩
        rcases List.mem_append.mp hx with h | h
        · exact .inl ⟨x, h, r⟩
        · have : x = y := by simpa using h
          subst this; exact .inr r
  · have e : i = L.length := by omega
    subst e
    refine .inl ⟨wk.stop _ H' (gr.b.trans gr.bh) (by rw [ll]; exact Nat.le_refl _), ?_⟩
    obtain ⟨T, n, U, h', u1, u2, u3⟩ := has
    rw [List.take_length] at u2
    have small := few_lt u1.nd u3
    refine ⟨D, T, n, rfl, h', by rw [← u1.ln]; omega, fun ns pp pw mem len hpn => ?_⟩
    have gz := g1.trans gr
    have nat : ∀ v ∈ ns, ∃ u ∈ U, (u : Int) = v := fun v hv => (u1.me v).mp ((mem v).mp hv)
    have eN : ns = (ns.map Int.toNat).map fun (i : Nat) => (i : Int) := by
      rw [List.map_map]
      refine (List.map_id ns).symm.trans (List.map_congr_left fun v hv => ?_)
      obtain ⟨u, _, e⟩ := nat v hv
      show v = ((v.toNat : Nat) : Int)
      omega
    refine q pp (ns.map V.int) B' _ ((ns.map Int.toNat).map fun (i : Nat) => .int (i : Int)) ⟨gz.b, gz.h.trans (Evl.Ex.new hpn), gz.bh.trans (Evl.Ex.new hpn), gz.fr⟩ (Evl.fresh_back gz.h hpn) (Evl.fresh_back gz.bh hpn) upd_same ?_ (hp _ ?_ fun v => ?_)
    · have al : ∀ l : List Int, IsAll X.K B' (l.map V.int) (l.map OB.D.int) := fun l => by
        induction l with
        | nil => exact .nil
        | cons a l ih => exact .cons (.int a) ih
      have e2 : (ns.map Int.toNat).map (fun (i : Nat) => OB.D.int (i : Int)) = ns.map OB.D.int := by
        conv => rhs; rw [eN]
        rw [List.map_map, List.map_map, List.map_map]; rfl
      rw [e2]; exact al ns
    · refine List.pairwise_map.mpr (pw.imp_of_mem fun {a b} ha hb h => ?_)
      obtain ⟨u, _, e⟩ := nat a ha
      obtain ⟨u', _, e'⟩ := nat b hb
      omega
    · refine Iff.trans ?_ (u2 v)
      constructor
      · intro h
        obtain ⟨a, ha, e⟩ := List.mem_map.mp h
        obtain ⟨u, hu, e'⟩ := nat a ha
        have : u = v := by omega
        rw [← this]; exact hu
      · intro h
        exact List.mem_map.mpr ⟨(v : Int), (mem _).mpr ((u1.me _).mpr ⟨v, h, rfl⟩), by simp⟩
end
end OB
set_option Elab.async false
set_option linter.all false
set_option maxRecDepth 100000
set_option maxHeartbeats 4000000
namespace OB
open PySem PySem.Spec PyProof.Rows L2
def top (i : Nat) : Stmt := PySem.Challenge.pw_ordersbehind_k10_whole_triangle_step.main.body.getD i (.Pass ⟨0, 0, 0, 0⟩)
def spBlank : SpM := fun ds P => ∃ n : Nat, ds = [.int (n : Int)] ∧ n ≤ 100 ∧ P (matOf n fun _ _ => false)
theorem em_blank {X : Cx} (c : CtxT X ["_law_size", "_law_b", "_law_a"] (defScope (top 49))) (bi : Bi X.mg) {ds P} (h : spBlank ds P) {B0 H0} {e : Expr} {rp : Pos} (he : defBody (top 49) = [.Return (some e) rp]) : EM X B0 H0 (ini 3 ds) [] e P := by
  obtain ⟨n, rfl, hn, hp⟩ := h
  cases he
  refine em_lc0 c.toCtx [("_law_a", 2)] (.nm 2) (fun X' b => tb_nm (b.ctx c.toCtx) 2) (ix_range1 c.toCtx bi.range (ex_var c.toCtx 0 ⟨(n : Int), rfl, by omega, by omega, ?_⟩))
  rw [rng0]
  refine ⟨Nat, List.range n, _, fun _ => rowOf n fun _ => false, rfl, by simp; omega, fun x _ X' b => ?_, hp⟩
  have c' := b.ctx c.toCtx
  refine el_lc0 c' [("_law_b", 1)] (.nm 1) (fun X'' b' => tb_nm (b'.ctx c') 1) (ix_range1 c' (b.bi bi).range (ex_var c' 0 ⟨(n : Int), rfl, by omega, by omega, ?_⟩))
  rw [rng0]
  exact ⟨Nat, List.range n, _, fun _ => bit false, rfl, by simp; omega, fun x _ X'' b' => ex_int rfl, rfl⟩

def prn (p : Nat × Nat) : D := .tup [.int (p.1 : Int), .int (p.2 : Int)]
def spNear : SpD := fun ds P _ => ∃ (n : Nat) (l : List (Nat × Nat)), ds = [.int (n : Int), .lst (l.map prn)] ∧ n ≤ 100 ∧ (∀ p ∈ l, p.1 < n ∧ p.2 < n ∧ p.1 ≠ p.2) ∧ ∀ g, Sym g → P (webD n g)
abbrev N43 : List PySem.Str := ["_law_size", "_law_ties_here", "_law_near_here", "_law_a", "_law_b"]
theorem matOf_set1 {n u v : Nat} {f : Nat → Nat → Bool} (hu : u < n) (hv : v < n) : (matOf n f).set u ((rowOf n (f u)).set v (.int 1)) = matOf n (updM f u v true) := matOf_set (b := true) hu hv
theorem sym_upd {g : Nat → Nat → Bool} (h : Sym g) {a b : Nat} {x : Bool} (hab : a ≠ b) : Sym (updM (updM g a b x) b a x) := by
  refine ⟨fun u v => ?_, fun u => ?_⟩
  · unfold updM
    rw [h.1 u v]
    by_cases h1 : u = b <;> by_cases h2 : v = a <;> by_cases h3 : u = a <;> by_cases h4 : v = b <;> simp_all
  · unfold updM
    rw [h.2 u]
    by_cases h1 : u = b <;> by_cases h3 : u = a <;> simp_all
theorem body_near {X : Cx} (c : CtxT X N43 (defScope (top 50))) {k : Nat} (hr : Room k X.A) (fBlank : FnM X.prog X.w X.K X.mg X.base "_law_blank" k spBlank) : BodyOk X N43 spNear (defBody (top 50)) := by
  intro ds P R h B0 H0 air
  obtain ⟨n, l, rfl, hn, hl, hp⟩ := h
  refine go_cons (g1_asgM c.toCtxD 2 (em_call c.toCtx fBlank hr (ea_cons (ex_var c.toCtx 0 (ea_nil ⟨n, rfl, hn, fun p rs => ?_⟩)))))
  refine go_cut (fun sds os => ∃ g x y, Sym g ∧ sds = [.d (.int (n : Int)), .d (.lst (l.map prn)), .v (.ref p), x, y] ∧ os = [(p, .mat rs (matOf n g))]) (g1_for (t := .tp [3, 4]) c.own c.calm (tg_tp c.toCtxD (tgs_cons c.toCtxD 3 (tgs_cons c.toCtxD 4 tgs_nil))) (ix_list (ex_var c.toCtx 1 ⟨_, rfl, ?_⟩))) ?_
  · refine ⟨fun k sds os => ∃ g x y, Sym g ∧ sds = [.d (.int (n : Int)), .d (.lst (l.map prn)), .v (.ref p), x, y] ∧ os = [(p, .mat rs (matOf n g))], ⟨_, _, _, ⟨fun _ _ => rfl, fun _ => rfl⟩, rfl, rfl⟩, ?_, fun sds os h => h⟩
    rintro k u sds' os' hu ⟨g, x, y, hg, rfl, rfl⟩
    rw [List.getElem?_map] at hu
    cases hq : l[k]? with
    | none => rw [hq] at hu; cases hu
    | some q =>
      rw [hq] at hu
      cases hu
      obtain ⟨h1, h2, h3⟩ := hl q (List.mem_of_getElem? hq)
      refine ⟨_, rfl, rfl, ?_⟩
      refine go_cons (g1_setM c.toCtx 2 0 (ex_int (ex_var c.toCtx 3 ⟨q.1, rowOf n (g q.1), rfl, matOf_get h1, ex_var c.toCtx 4 ⟨q.2, rfl, by rw [rowOf_len]; exact h2, ?_⟩⟩)))
      rw [matOf_set1 h1 h2]
      refine go_cons (g1_setM c.toCtx 2 0 (ex_int (ex_var c.toCtx 4 ⟨q.2, rowOf n _, rfl, matOf_get h2, ex_var c.toCtx 3 ⟨q.1, rfl, by rw [rowOf_len]; exact h1, ?_⟩⟩)))
      rw [matOf_set1 h2 h1]
      exact go_nil ⟨_, _, _, sym_upd hg h3, rfl, rfl⟩
  · rintro sds os ⟨g, x, y, hg, rfl, rfl⟩
    refine go_freezeM 2 0 ?_
    exact go_cons (g1_ret (ex_var c.toCtx 2 (hp g hg)))

def rowTies (g : Nat → Nat → Bool) (a m : Nat) : List (Nat × Nat) := ((List.range m).map fun j => (a, a + 1 + j)).filter fun p => g p.1 p.2
def tiesTo (n : Nat) (g : Nat → Nat → Bool) (k : Nat) : List (Nat × Nat) := (List.range k).flatMap fun a => rowTies g a (n - (a + 1))
def tiesOf (n : Nat) (g : Nat → Nat → Bool) : List (Nat × Nat) := tiesTo n g n
theorem rowTies_succ (g : Nat → Nat → Bool) (a m : Nat) : rowTies g a (m + 1) = rowTies g a m ++ (if g a (a + 1 + m) = true then [(a, a + 1 + m)] else []) := by
  unfold rowTies
  rw [List.range_succ, List.map_append, List.filter_append]
  congr 1
  cases h : g a (a + 1 + m) <;> simp [h]
theorem tiesTo_succ (n : Nat) (g : Nat → Nat → Bool) (k : Nat) : tiesTo n g (k + 1) = tiesTo n g k ++ rowTies g k (n - (k + 1)) := by
  unfold tiesTo
  rw [List.range_succ, List.flatMap_append]
  simp
theorem rowTies_len (g : Nat → Nat → Bool) (a m : Nat) : (rowTies g a m).length ≤ m := by
  unfold rowTies
  refine Nat.le_trans (List.length_filter_le _ _) ?_
  simp
theorem tiesTo_len (n : Nat) (g : Nat → Nat → Bool) : ∀ k, (tiesTo n g k).length ≤ k * n
  | 0 => by simp [tiesTo]
  | k + 1 => by
    rw [tiesTo_succ, List.length_append, Nat.succ_mul]
    have h1 := tiesTo_len n g k
    have h2 := rowTies_len g k (n - (k + 1))
    omega
def spTies : SpD := fun ds P _ => ∃ (n : Nat) (g : Nat → Nat → Bool), ds = [webD n g] ∧ n ≤ 100 ∧ P (.lst ((tiesOf n g).map prn))
abbrev N44 : List PySem.Str := ["_law_near_here", "_law_ties_here", "_law_a", "_law_b"]
theorem web_len {n : Nat} {f : Nat → Nat → Bool} : LenD (webD n f) n := by simp [webD, LenD, matOf_len]
theorem bit_eq1 (b : Bool) : (decide ((if b then 1 else 0 : Int) = 1)) = b := by cases b <;> rfl
theorem body_ties {X : Cx} (c : CtxT X N44 (defScope (top 51))) (bi : Bi X.mg) : BodyOk X N44 spTies (defBody (top 51)) := by
  intro ds P R h B0 H0 air
  obtain ⟨n, g, rfl, hn, hp⟩ := h
  refine go_cons (g1_asgO c.toCtxD 1 (el_lst (ea_nil ⟨by decide, fun p => ?_⟩)))
  let J : Nat → Nat → List SD → List (Addr × OV) → Prop := fun k j sds os => ∃ x y, sds = [.d (webD n g), .v (.ref p), x, y] ∧ os = [(p, .lst ((tiesTo n g k ++ rowTies g k j).map prn))]
  let J2 : Nat → Nat → List SD → List (Addr × OV) → Prop := fun k j sds os => ∃ y, sds = [.d (webD n g), .v (.ref p), .d (.int (k : Int)), y] ∧ os = [(p, .lst ((tiesTo n g k ++ rowTies g k j).map prn))]
  refine go_cut (J n 0) (g1_for (t := .nm 2) c.own c.calm (tg_nm c.toCtxD 2) (ix_range1 c.toCtx bi.range (ex_len c.toCtx bi.len (ex_var c.toCtx 0 ⟨n, web_len, ⟨(n : Int), rfl, by omega, by omega, ?_⟩⟩)))) ?_
  · rw [rng0]
    refine forOk_rng (fun k => J k 0) ⟨_, _, rfl, by simp [rowTies, tiesTo]⟩ ?_ fun _ _ h => h
    rintro k sds' os' hk ⟨x, y, rfl, rfl⟩
    refine go_cons (g1_for (t := .nm 3) c.own c.calm (tg_nm c.toCtxD 3) (ix_range2 c.toCtx bi.range (ex_addI (ex_var c.toCtx 2 ⟨_, rfl, ex_int ⟨_, rfl, ex_len c.toCtx bi.len (ex_var c.toCtx 0 ⟨n, web_len, ⟨((k + 1 : Nat) : Int), (n : Int), rfl, rfl, ⟨by omega, by omega, by omega, by omega⟩, ?_⟩⟩)⟩⟩))))
    rw [rng1]
    refine forOk_rng (fun j => J2 k j) ⟨_, rfl, by simp [rowTies]⟩ ?_ ?_
    · rintro j sds' os' hj ⟨y, rfl, rfl⟩
      refine go_cons (g1_if (tx_eqI (ex_ix (ex_ix (ex_var c.toCtx 0 (ex_var c.toCtx 2 ⟨_, rfl, ixW hk (ex_var c.toCtx 3 ⟨_, rfl, ixR (v := k + 1 + j) (by omega) ⟨_, rfl, ex_int ⟨_, rfl, ?_⟩⟩⟩)⟩))))))
      rw [bit_eq1]
      refine ⟨fun hg => ?_, fun hg => ?_⟩
      · refine go_cons (g1_append c.toCtx 1 0 (ex_tup (ea_cons (ex_var c.toCtx 2 (ea_cons (ex_var c.toCtx 3 (ea_nil ⟨le2, ?_, ?_⟩)))))))
        · have h1 := tiesTo_len n g k
          have h2 := rowTies_len g k j
          have h3 : k * n ≤ 100 * 100 := Nat.mul_le_mul (by omega) hn
          rw [List.length_map, List.length_append]
          omega
        · refine go_nil (go_nil ⟨_, rfl, ?_⟩)
          rw [rowTies_succ, if_pos hg]
          simp [prn]
      · refine go_nil (go_nil ⟨_, rfl, ?_⟩)
        rw [rowTies_succ, if_neg (by rw [hg]; decide), List.append_nil]
    · rintro sds os ⟨y, rfl, rfl⟩
      refine go_nil ⟨_, _, rfl, ?_⟩
      rw [tiesTo_succ]
      simp [rowTies]
  · rintro sds os ⟨x, y, rfl, rfl⟩
    refine go_freeze 1 0 ?_
    refine go_cons (g1_ret (ex_var c.toCtx 1 ?_))
    have e : tiesTo n g n ++ rowTies g n 0 = tiesOf n g := by simp [rowTies, tiesOf]
    rw [e]; exact hp
end OB
set_option Elab.async false
set_option linter.all false
set_option maxRecDepth 100000
set_option maxHeartbeats 4000000
namespace OB
open PySem PySem.Spec PyProof.Rows L2
def conG (g : Nat → Nat → Bool) : Nat → Nat → Bool := fun a b => decide (a ≠ b) && !g a b
theorem sym_con {g : Nat → Nat → Bool} (h : Sym g) : Sym (conG g) := ⟨fun a b => by unfold conG; rw [h.1 a b]; by_cases e : a = b <;> simp [e, eq_comm], fun a => by simp [conG]⟩
theorem bit_one_sub (b : Bool) : D.int (1 - (if b then 1 else 0 : Int)) = bit (!b) := by cases b <;> rfl
def spContrary : SpD := fun ds P _ => ∃ (n : Nat) (g : Nat → Nat → Bool), ds = [webD n g] ∧ n ≤ 100 ∧ P (webD n (conG g))
abbrev N45 : List PySem.Str := ["_law_near_here", "_law_size", "_law_other", "_law_a", "_law_b"]
theorem body_contrary {X : Cx} (c : CtxT X N45 (defScope (top 52))) (bi : Bi X.mg) {k : Nat} (hr : Room k X.A) (fBlank : FnM X.prog X.w X.K X.mg X.base "_law_blank" k spBlank) : BodyOk X N45 spContrary (defBody (top 52)) := by
  intro ds P R h B0 H0 air
  obtain ⟨n, g, rfl, hn, hp⟩ := h
  refine go_cons (g1_asg c.toCtxD 1 (ex_len c.toCtx bi.len (ex_var c.toCtx 0 ⟨n, web_len, ?_⟩)))
  refine go_cons (g1_asgM c.toCtxD 2 (em_call c.toCtx fBlank hr (ea_cons (ex_var c.toCtx 1 (ea_nil ⟨n, rfl, by omega, fun p rs => ?_⟩)))))
  refine go_cons (g1_two c n n (fun x y => [.d (webD n g), .d (.int n), .v (.ref p), x, y]) (fun k j os => ∃ h, Fil n (conG g) k j h ∧ os = [(p, .mat rs (matOf n h))]) (ia := 3) (ib := 4) ⟨_, Fil.zero, rfl⟩ (tg_nm c.toCtxD 3) (tg_nm c.toCtxD 4) ?_ ?_ ?_ ?_ ?_)
  · intro Q hQ
    exact ix_range1 c.toCtx bi.range (ex_var c.toCtx 1 ⟨(n : Int), rfl, by omega, by omega, by rw [rngI]; exact hQ⟩)
  · intro k os y hk hI Q hQ
    exact ix_range1 c.toCtx bi.range (ex_var c.toCtx 1 ⟨(n : Int), rfl, by omega, by omega, by rw [rngI]; exact hQ⟩)
  · rintro k j os hk hj ⟨h, f, rfl⟩ E' hE
    refine go_cons (g1_if (tx_neI (ex_var c.toCtx 3 ⟨_, rfl, ex_var c.toCtx 4 ⟨_, rfl, ?_⟩⟩)))
    refine ⟨fun ht => ?_, fun ht => ?_⟩
    · have hne : k ≠ j := by intro e; simp [e] at ht
      refine go_cons (g1_setM c.toCtx 2 0 (ex_subI (ex_int ⟨_, rfl, ex_ix (ex_ix (ex_var c.toCtx 0 (ex_var c.toCtx 3 ⟨_, rfl, ixW hk (ex_var c.toCtx 4 ⟨_, rfl, ixR (v := j) hj ⟨_, rfl, (ex_var c.toCtx 3 ⟨k, rowOf n (h k), rfl, matOf_get hk, ex_var c.toCtx 4 ⟨j, rfl, by rw [rowOf_len]; exact hj, ?_⟩⟩)⟩⟩)⟩)))⟩)))
      rw [bit_one_sub, matOf_set hk hj]
      exact go_nil (go_nil (hE _ ⟨_, f.set (by simp [conG, hne]), rfl⟩))
    · have he : k = j := Int.ofNat_inj.mp (show (k : Int) = (j : Int) by simpa using ht)
      exact go_nil (go_nil (hE _ ⟨_, f.keep (by simp [conG, he]), rfl⟩))
  · rintro k os hk ⟨h, f, rfl⟩
    exact ⟨h, f.row, rfl⟩
  · rintro x y os ⟨h, f, rfl⟩
    refine go_freezeM 2 0 ?_
    refine go_cons (g1_ret (ex_var c.toCtx 2 ?_))
    have e := f.done
    unfold webD at e
    rw [e]
    exact hp

/-! renamed: the row is a permutation -/
def intsD (r : List Nat) : D := .lst (r.map fun (i : Nat) => .int (i : Int))
theorem ixI {r : List Nat} {u v : Nat} {P : D → Prop} (h : r[u]? = some v) (p : P (.int (v : Int))) : IxD (intsD r) (u : Int) P := ixL u (by rw [List.getElem?_map, h] <;> rfl) p
def spRenamed : SpD := fun ds P _ => ∃ (n : Nat) (g : Nat → Nat → Bool) (r : List Nat), ds = [webD n g, intsD r] ∧ n ≤ 100 ∧ r.Perm (List.range n) ∧ Sym g ∧ ∀ g', Sym g' → P (webD n g')
abbrev N46 : List PySem.Str := ["_law_near_here", "_law_row_here", "_law_other", "_law_a", "_law_b"]
theorem perm_at {n : Nat} {r : List Nat} (h : r.Perm (List.range n)) {k : Nat} (hk : k < n) : ∃ v, r[k]? = some v ∧ v < n := by
  have hl : r.length = n := by simpa using h.length_eq
  refine ⟨r[k]'(by omega), List.getElem?_eq_getElem _, ?_⟩
  exact List.mem_range.mp (h.mem_iff.mp (List.getElem_mem _))
theorem perm_inj {n : Nat} {r : List Nat} (h : r.Perm (List.range n)) {k j v : Nat} (h1 : r[k]? = some v) (h2 : r[j]? = some v) : k = j := by
  have nd : r.Nodup := h.nodup_iff.mpr List.nodup_range
  obtain ⟨l1, e1⟩ := List.getElem?_eq_some_iff.mp h1
  obtain ⟨l2, e2⟩ := List.getElem?_eq_some_iff.mp h2
  exact (List.getElem_inj nd).mp (e1.trans e2.symm)
theorem perm_sur {n : Nat} {r : List Nat} (h : r.Perm (List.range n)) {v : Nat} (hv : v < n) : ∃ k, k < n ∧ r[k]? = some v := by
  obtain ⟨k, hk, e⟩ := List.mem_iff_getElem.mp (h.mem_iff.mpr (List.mem_range.mpr hv))
  have hl : r.length = n := by simpa using h.length_eq
  exact ⟨k, by omega, List.getElem?_eq_some_iff.mpr ⟨hk, e⟩⟩
def Ren (n : Nat) (r : List Nat) (g : Nat → Nat → Bool) (k j : Nat) (h : Nat → Nat → Bool) : Prop := ∀ x y u v, x < n → y < n → r[x]? = some u → r[y]? = some v → (x < k ∨ (x = k ∧ y < j)) → h u v = g x y
theorem Ren.set {n : Nat} {r : List Nat} (hp : r.Perm (List.range n)) {g h : Nat → Nat → Bool} {k j u v : Nat} (f : Ren n r g k j h) (hu : r[k]? = some u) (hv : r[j]? = some v) : Ren n r g k (j + 1) (updM h u v (g k j)) := by
  intro x y u' v' hx hy hxu hyv hvis
  unfold updM
  by_cases e : u' = u ∧ v' = v
  · rw [if_pos e]
    obtain ⟨rfl, rfl⟩ := e
    rw [perm_inj hp hxu hu, perm_inj hp hyv hv]
  · rw [if_neg e]
    refine f x y u' v' hx hy hxu hyv ?_
    by_cases e2 : x = k ∧ y = j
    · obtain ⟨rfl, rfl⟩ := e2
      rw [hu] at hxu; rw [hv] at hyv
      cases hxu; cases hyv
      exact absurd ⟨rfl, rfl⟩ e
    · omega
theorem Ren.sym {n : Nat} {r : List Nat} (hp : r.Perm (List.range n)) {g h : Nat → Nat → Bool} (hg : Sym g) (f : Ren n r g n 0 h) : ∃ g', Sym g' ∧ webD n h = webD n g' := by
  refine ⟨fun a b => decide (a < n) && decide (b < n) && h a b, ⟨fun a b => ?_, fun a => ?_⟩, webD_congr fun a b ha hb => by simp [ha, hb]⟩
  · by_cases ha : a < n
    · by_cases hb : b < n
      · obtain ⟨x, hx, ex⟩ := perm_sur hp ha
        obtain ⟨y, hy, ey⟩ := perm_sur hp hb
        have e1 := f x y a b hx hy ex ey (.inl hx)
        have e2 := f y x b a hy hx ey ex (.inl hy)
        simp [ha, hb, e1, e2, hg.1 x y]
      · simp [hb]
    · simp [ha]
  · by_cases ha : a < n
    · obtain ⟨x, hx, ex⟩ := perm_sur hp ha
      have e1 := f x x a a hx hx ex ex (.inl hx)
      simp [e1, hg.2 x]
    · simp [ha]
theorem body_renamed {X : Cx} (c : CtxT X N46 (defScope (top 53))) (bi : Bi X.mg) {k : Nat} (hr : Room k X.A) (fBlank : FnM X.prog X.w X.K X.mg X.base "_law_blank" k spBlank) : BodyOk X N46 spRenamed (defBody (top 53)) := by
  intro ds P R h B0 H0 air
  obtain ⟨n, g, r, rfl, hn, hpm, hg, hp⟩ := h
  refine go_cons (g1_asgM c.toCtxD 2 (em_call c.toCtx fBlank hr (ea_cons (ex_len c.toCtx bi.len (ex_var c.toCtx 0 ⟨n, web_len, (ea_nil ⟨n, rfl, by omega, fun p rs => ?_⟩)⟩)))))
  refine go_cons (g1_two c n n (fun x y => [.d (webD n g), .d (intsD r), .v (.ref p), x, y]) (fun k j os => ∃ h, Ren n r g k j h ∧ os = [(p, .mat rs (matOf n h))]) (ia := 3) (ib := 4) ⟨_, fun x y u v _ _ _ _ h => by omega, rfl⟩ (tg_nm c.toCtxD 3) (tg_nm c.toCtxD 4) ?_ ?_ ?_ ?_ ?_)
  · intro Q hQ
    exact ix_range1 c.toCtx bi.range (ex_len c.toCtx bi.len (ex_var c.toCtx 0 ⟨n, web_len, ⟨(n : Int), rfl, by omega, by omega, by rw [rngI]; exact hQ⟩⟩))
  · intro k os y hk hI Q hQ
    exact ix_range1 c.toCtx bi.range (ex_len c.toCtx bi.len (ex_var c.toCtx 0 ⟨n, web_len, ⟨(n : Int), rfl, by omega, by omega, by rw [rngI]; exact hQ⟩⟩))
  · rintro k j os hk hj ⟨h, f, rfl⟩ E' hE
    obtain ⟨u, hu, hun⟩ := perm_at hpm hk
    obtain ⟨v, hv, hvn⟩ := perm_at hpm hj
    refine go_cons (g1_setM c.toCtx 2 0 (ex_ix (ex_ix (ex_var c.toCtx 0 (ex_var c.toCtx 3 ⟨_, rfl, ixW hk (ex_var c.toCtx 4 ⟨_, rfl, ixR (v := j) hj (ex_ix (ex_var c.toCtx 1 (ex_var c.toCtx 3 ⟨_, rfl, ixI hu ⟨u, rowOf n (h u), rfl, matOf_get hun, ex_ix (ex_var c.toCtx 1 (ex_var c.toCtx 4 ⟨_, rfl, ixI hv ⟨v, rfl, by rw [rowOf_len]; exact hvn, ?_⟩⟩))⟩⟩)))⟩)⟩)))))
    rw [matOf_set hun hvn]
    exact go_nil (hE _ ⟨_, f.set hpm hu hv, rfl⟩)
  · rintro k os hk ⟨h, f, rfl⟩
    exact ⟨h, fun x y u v hx hy h1 h2 h3 => f x y u v hx hy h1 h2 (by omega), rfl⟩
  · rintro x y os ⟨h, f, rfl⟩
    refine go_freezeM 2 0 ?_
    obtain ⟨g', hs, e⟩ := f.sym hpm hg
    refine go_cons (g1_ret (ex_var c.toCtx 2 ?_))
    unfold webD at e
    rw [e]
    exact hp g' hs
end OB
set_option Elab.async false
set_option linter.all false
set_option maxRecDepth 100000
set_option maxHeartbeats 4000000
namespace OB
open PySem PySem.Spec PyProof.Rows L2
def oldOf (n t : Nat) : List Nat := (List.range n).filter fun x => decide (x ≠ t)
theorem oldOf_len {n t : Nat} (h : t < n) : (oldOf n t).length = n - 1 := by
  have e : oldOf n t = (List.range n).erase t := by
    rw [List.Nodup.erase_eq_filter List.nodup_range]
    unfold oldOf
    congr 1
    funext x
    by_cases e : x = t <;> simp [e]
  rw [e, List.length_erase_of_mem (List.mem_range.mpr h), List.length_range]
theorem oldOf_at {n t k : Nat} (h : k < (oldOf n t).length) : (oldOf n t)[k]? = some ((oldOf n t).getD k 0) ∧ (oldOf n t).getD k 0 < n := by
  have e : (oldOf n t)[k]? = some (oldOf n t)[k] := List.getElem?_eq_getElem h
  have hm : (oldOf n t)[k] ∈ oldOf n t := List.getElem_mem h
  have hm2 := List.mem_range.mp (List.mem_filter.mp hm).1
  rw [List.getD_eq_getElem?_getD, e]
  exact ⟨rfl, hm2⟩
def graG (n t : Nat) (g gg : Nat → Nat → Bool) : Nat → Nat → Bool := fun a b =>
  if a < (oldOf n t).length then (if b < (oldOf n t).length then g ((oldOf n t).getD a 0) ((oldOf n t).getD b 0) else g ((oldOf n t).getD a 0) t)
  else (if b < (oldOf n t).length then g t ((oldOf n t).getD b 0) else gg (a - (oldOf n t).length) (b - (oldOf n t).length))
theorem sym_gra {n t : Nat} {g gg : Nat → Nat → Bool} (h : Sym g) (hg : Sym gg) : Sym (graG n t g gg) := by
  refine ⟨fun a b => ?_, fun a => ?_⟩
  · unfold graG
    by_cases h1 : a < (oldOf n t).length <;> by_cases h2 : b < (oldOf n t).length <;> simp only [h1, h2, if_true, if_false]
    · exact h.1 _ _
    · exact h.1 _ _
    · exact h.1 _ _
    · exact hg.1 _ _
  · unfold graG
    by_cases h1 : a < (oldOf n t).length <;> simp only [h1, if_true, if_false]
    · exact h.2 _
    · exact hg.2 _
def spGraft : SpD := fun ds P _ => ∃ (n m t : Nat) (g gg : Nat → Nat → Bool), ds = [webD n g, .int (t : Int), webD m gg] ∧ n ≤ 50 ∧ m ≤ 50 ∧ t < n ∧ Sym g ∧ Sym gg ∧ ∀ g', Sym g' → P (webD (n - 1 + m) g')
abbrev N47 : List PySem.Str := ["_law_near_here", "_law_thing", "_law_guest", "_law_a", "_law_old", "_law_size", "_law_other", "_law_b"]
theorem len_ints {r : List Nat} : LenD (intsD r) r.length := by simp [intsD, LenD]
theorem body_graft {X : Cx} (c : CtxT X N47 (defScope (top 54))) (bi : Bi X.mg) {k : Nat} (hr : Room k X.A) (fBlank : FnM X.prog X.w X.K X.mg X.base "_law_blank" k spBlank) : BodyOk X N47 spGraft (defBody (top 54)) := by
  intro ds P R h B0 H0 air
  obtain ⟨n, m, t, g, gg, rfl, hn, hm, ht, hg, hgg, hp⟩ := h
  have ho := oldOf_len ht
  have old : ∀ k, k < (oldOf n t).length → (oldOf n t)[k]? = some ((oldOf n t).getD k 0) ∧ (oldOf n t).getD k 0 < n := fun k hk => oldOf_at hk
  refine go_cons (g1_setLc1 c.toCtxD 4 [("_law_a", 3)] (.nm 3) (fun X' b => tb_nm (b.ctx c.toCtx) 3) (ix_range1 c.toCtx bi.range (ex_len c.toCtx bi.len (ex_var c.toCtx 0 ⟨n, web_len, ⟨(n : Int), rfl, by omega, by omega, ?_⟩⟩))))
  rw [rngI]
  refine ⟨Nat, List.range n, _, fun x => decide (x ≠ t), fun x => .int (x : Int), rfl, by simp; omega, fun x _ X' b => ⟨tx_neI (ex_var (b.ctx c.toCtx) 3 ⟨_, rfl, ex_var (b.ctx c.toCtx) 1 ⟨_, rfl, ?_⟩⟩), fun _ => ex_var (b.ctx c.toCtx) 3 rfl⟩, ?_⟩
  · by_cases e : x = t <;> simp [e, Int.ofNat_inj]
  show Go X B0 H0 [.d (webD n g), .d (.int (t : Int)), .d (webD m gg), .un, .d (intsD (oldOf n t)), .un, .un, .un] _ _ _
  refine go_cons (g1_asg c.toCtxD 5 (ex_addI (ex_len c.toCtx bi.len (ex_var c.toCtx 4 ⟨_, len_ints, ⟨_, rfl, ex_len c.toCtx bi.len (ex_var c.toCtx 2 ⟨m, web_len, ⟨_, rfl, ?_⟩⟩)⟩⟩))))
  generalize hO : (oldOf n t).length = o at *
  have eS : ((o : Int) + (m : Int)) = ((o + m : Nat) : Int) := by omega
  rw [eS]
  refine go_cons (g1_asgM c.toCtxD 6 (em_call c.toCtx fBlank hr (ea_cons (ex_var c.toCtx 5 (ea_nil ⟨o + m, rfl, by omega, fun p rs => ?_⟩)))))
  refine go_cons (g1_two c (o + m) (o + m) (fun x y => [.d (webD n g), .d (.int (t : Int)), .d (webD m gg), x, .d (intsD (oldOf n t)), .d (.int ((o + m : Nat) : Int)), .v (.ref p), y]) (fun k j os => ∃ h, Fil (o + m) (graG n t g gg) k j h ∧ os = [(p, .mat rs (matOf (o + m) h))]) (ia := 3) (ib := 7) ⟨_, Fil.zero, rfl⟩ (tg_nm c.toCtxD 3) (tg_nm c.toCtxD 7) ?_ ?_ ?_ ?_ ?_)
  · intro Q hQ
    exact ix_range1 c.toCtx bi.range (ex_var c.toCtx 5 ⟨((o + m : Nat) : Int), rfl, by omega, by omega, by rw [rngI]; exact hQ⟩)
  · intro k os y hk hI Q hQ
    exact ix_range1 c.toCtx bi.range (ex_var c.toCtx 5 ⟨((o + m : Nat) : Int), rfl, by omega, by omega, by rw [rngI]; exact hQ⟩)
  · rintro k j os hk hj ⟨h, f, rfl⟩ E' hE
    have fin : ∀ v : D, v = bit (graG n t g gg k j) → E'.nx [.d (webD n g), .d (.int (t : Int)), .d (webD m gg), .d (.int (k : Int)), .d (intsD (oldOf n t)), .d (.int ((o + m : Nat) : Int)), .v (.ref p), .d (.int (j : Int))] [(p, .mat rs ((matOf (o + m) h).set k ((rowOf (o + m) (h k)).set j v)))] := fun v e => by
      rw [e, matOf_set hk hj]
      exact hE _ ⟨_, f.set rfl, rfl⟩
    refine go_cons (g1_if (tx_w (wx_and (k1 := decide (k < o)) (k2 := decide (j < o)) (tx_ltI (ex_var c.toCtx 3 ⟨_, rfl, ex_len c.toCtx bi.len (ex_var c.toCtx 4 ⟨_, len_ints, ⟨_, rfl, ?_⟩⟩)⟩)) (fun _ => tx_and1 (tx_ltI (ex_var c.toCtx 7 ⟨_, rfl, ex_len c.toCtx bi.len (ex_var c.toCtx 4 ⟨_, len_ints, ⟨_, rfl, ?_⟩⟩)⟩))) ?_)))
    · rw [hO]; exact decide_eq_decide.mpr Int.ofNat_lt
    · rw [hO]; exact decide_eq_decide.mpr Int.ofNat_lt
    refine ⟨fun ht' => ?_, fun ht' => ?_⟩
    · have h1 : k < o ∧ j < o := by simpa using ht'
      obtain ⟨a1, a2⟩ := old k h1.1
      obtain ⟨b1, b2⟩ := old j h1.2
      refine go_cons (g1_setM c.toCtx 6 0 (ex_ix (ex_ix (ex_var c.toCtx 0 ?_))))
      refine ex_ix (ex_var c.toCtx 4 (ex_var c.toCtx 3 ⟨_, rfl, ixI a1 ⟨_, rfl, ixW a2 ?_⟩⟩))
      refine ex_ix (ex_var c.toCtx 4 (ex_var c.toCtx 7 ⟨_, rfl, ixI b1 ⟨_, rfl, ixR b2 ?_⟩⟩))
      refine ex_var c.toCtx 3 ⟨k, _, rfl, matOf_get hk, ex_var c.toCtx 7 ⟨j, rfl, by rw [rowOf_len]; exact hj, ?_⟩⟩
      refine go_nil (go_nil (fin _ ?_))
      unfold graG
      rw [hO, if_pos h1.1, if_pos h1.2]
    have h1 : ¬ (k < o ∧ j < o) := by simpa using ht'
    refine go_cons (g1_if (tx_w (wx_and (k1 := decide (o ≤ k)) (k2 := decide (o ≤ j)) (tx_geI (ex_var c.toCtx 3 ⟨_, rfl, ex_len c.toCtx bi.len (ex_var c.toCtx 4 ⟨_, len_ints, ⟨_, rfl, ?_⟩⟩)⟩)) (fun _ => tx_and1 (tx_geI (ex_var c.toCtx 7 ⟨_, rfl, ex_len c.toCtx bi.len (ex_var c.toCtx 4 ⟨_, len_ints, ⟨_, rfl, ?_⟩⟩)⟩))) ?_)))
    · rw [hO]; exact decide_eq_decide.mpr Int.ofNat_le
    · rw [hO]; exact decide_eq_decide.mpr Int.ofNat_le
    refine ⟨fun ht2 => ?_, fun ht2 => ?_⟩
    · have h2 : o ≤ k ∧ o ≤ j := by simpa using ht2
      have e1 : ((k : Int) - (o : Int)) = ((k - o : Nat) : Int) := by omega
      have e2 : ((j : Int) - (o : Int)) = ((j - o : Nat) : Int) := by omega
      refine go_cons (g1_setM c.toCtx 6 0 (ex_ix (ex_ix (ex_var c.toCtx 2 ?_))))
      refine ex_subI (ex_var c.toCtx 3 ⟨_, rfl, ex_len c.toCtx bi.len (ex_var c.toCtx 4 ⟨_, len_ints, ⟨_, rfl, ?_⟩⟩)⟩)
      rw [hO, e1]
      refine ⟨_, rfl, ixW (by omega) ?_⟩
      refine ex_subI (ex_var c.toCtx 7 ⟨_, rfl, ex_len c.toCtx bi.len (ex_var c.toCtx 4 ⟨_, len_ints, ⟨_, rfl, ?_⟩⟩)⟩)
      rw [hO, e2]
      refine ⟨_, rfl, ixR (by omega) ?_⟩
      refine ex_var c.toCtx 3 ⟨k, _, rfl, matOf_get hk, ex_var c.toCtx 7 ⟨j, rfl, by rw [rowOf_len]; exact hj, ?_⟩⟩
      refine go_nil (go_nil (go_nil (fin _ ?_)))
      unfold graG
      rw [hO, if_neg (by omega), if_neg (by omega)]
    have h2 : ¬ (o ≤ k ∧ o ≤ j) := by simpa using ht2
    refine go_cons (g1_if (tx_ltI (ex_var c.toCtx 3 ⟨_, rfl, ex_len c.toCtx bi.len (ex_var c.toCtx 4 ⟨_, len_ints, ⟨_, rfl, ?_⟩⟩)⟩)))
    rw [hO]
    refine ⟨fun ht3 => ?_, fun ht3 => ?_⟩
    · have h3 : k < o := by
        have e : (k : Int) < (o : Int) := by simpa using ht3
        omega
      obtain ⟨a1, a2⟩ := old k h3
      refine go_cons (g1_setM c.toCtx 6 0 (ex_ix (ex_ix (ex_var c.toCtx 0 ?_))))
      refine ex_ix (ex_var c.toCtx 4 (ex_var c.toCtx 3 ⟨_, rfl, ixI a1 ⟨_, rfl, ixW a2 ?_⟩⟩))
      refine ex_var c.toCtx 1 ⟨_, rfl, ixR ht ?_⟩
      refine ex_var c.toCtx 3 ⟨k, _, rfl, matOf_get hk, ex_var c.toCtx 7 ⟨j, rfl, by rw [rowOf_len]; exact hj, ?_⟩⟩
      refine go_nil (go_nil (go_nil (go_nil (fin _ ?_))))
      unfold graG
      rw [hO, if_pos h3, if_neg (by omega)]
    · have h3 : ¬ k < o := by
        have e : ¬ (k : Int) < (o : Int) := by simpa using ht3
        omega
      obtain ⟨b1, b2⟩ := old j (by omega)
      refine go_cons (g1_setM c.toCtx 6 0 (ex_ix (ex_ix (ex_var c.toCtx 0 ?_))))
      refine ex_var c.toCtx 1 ⟨_, rfl, ixW ht ?_⟩
      refine ex_ix (ex_var c.toCtx 4 (ex_var c.toCtx 7 ⟨_, rfl, ixI b1 ⟨_, rfl, ixR b2 ?_⟩⟩))
      refine ex_var c.toCtx 3 ⟨k, _, rfl, matOf_get hk, ex_var c.toCtx 7 ⟨j, rfl, by rw [rowOf_len]; exact hj, ?_⟩⟩
      refine go_nil (go_nil (go_nil (go_nil (fin _ ?_))))
      unfold graG
      rw [hO, if_neg h3, if_pos (by omega)]
  · rintro k os hk ⟨h, f, rfl⟩
    exact ⟨h, f.row, rfl⟩
  · rintro x y os ⟨h, f, rfl⟩
    refine go_freezeM 6 0 ?_
    refine go_cons (g1_ret (ex_var c.toCtx 6 ?_))
    have e := f.done
    unfold webD at e
    rw [e]
    have := hp _ (sym_gra (n := n) (t := t) hg hgg)
    rw [← ho] at this
    exact this
end OB
set_option Elab.async false
set_option linter.all false
set_option maxRecDepth 100000
set_option maxHeartbeats 4000000
namespace OB
open PySem PySem.Spec PyProof.Rows L2
def steps (n : Nat) : List (Nat × Nat) := (List.range (n - 1)).map fun a => (a, a + 1)
def spPath (lo : Nat) : SpD := fun ds P _ => ∃ n : Nat, ds = [.int (n : Int)] ∧ lo ≤ n ∧ n ≤ 50 ∧ ∀ g', Sym g' → P (webD n g')
theorem rngM (n : Nat) (h : 1 ≤ n) : rngD 0 ((n : Int) - 1).toNat = intsTo (n - 1) := by rw [show ((n : Int) - 1).toNat = n - 1 by omega]; simp [rngD, intsTo]
abbrev N48 : List PySem.Str := ["_law_size", "_law_a"]
theorem el_steps {X : Cx} {S : Scope} (c : CtxT X N48 S) (bi : Bi X.mg) {n : Nat} (h1 : 1 ≤ n) (h2 : n ≤ 50) {B0 H0 : Hp} {sds : List SD} {P : List D → Prop} (hs : sds = [.d (.int (n : Int)), .un]) (hp : P ((steps n).map prn)) {scope : Scope} {p1 p2 p3 p4 p5 p6 p7 p8 p9 p0 pa pb : Pos} {j1 j2 kk}
    (hb : blkC N48 S scope [("_law_a", 1)] = true) (hv : visB (relS scope S) "_law_a" = true) (hl : lclB (relS scope S) "_law_a" = true) (hg : glB S "range" = true) (hv2 : visB S "_law_size" = true) :
    EL X B0 H0 sds [] (.ListComp (.Tuple [.Name "_law_a" p1, .BinOp (.Name "_law_a" p2) .Add (.Constant (.int 1) j1 p3) p4] kk p5) [⟨.Name "_law_a" p6, .Call (.Name "range" p7) [.BinOp (.Name "_law_size" p8) .Sub (.Constant (.int 1) j2 p9) p0] [] pa, [], 0⟩] scope pb) P := by
  subst hs
  refine el_lc0 c.toCtx [("_law_a", 1)] (.nm 1) (fun X' b => tb_nm (b.ctx c.toCtx) 1 rfl hl) (ix_range1 c.toCtx bi.range (ex_subI (ex_var c.toCtx 0 ⟨_, rfl, ex_int ⟨_, rfl, ⟨_, rfl, by omega, by omega, ?_⟩⟩⟩ rfl rfl hv2)) hg) hb
  rw [rngM n h1]
  exact ⟨Nat, List.range (n - 1), _, fun a => prn (a, a + 1), rfl, by simp; omega, fun x _ X' b => ex_tup (ea_cons (ex_var (b.ctx c.toCtx) 1 (ea_cons (ex_addI (ex_var (b.ctx c.toCtx) 1 ⟨_, rfl, ex_int ⟨_, rfl, ea_nil ⟨le2, rfl⟩⟩⟩ rfl rfl hv))) rfl rfl hv)), by unfold steps at hp; rw [List.map_map] at hp; exact hp⟩
theorem body_path {X : Cx} (c : CtxT X N48 (defScope (top 55))) (bi : Bi X.mg) {k : Nat} (hr : Room k X.A) (fNear : FnD X.prog X.w X.K X.mg X.base "_law_near" k spNear) : BodyOk X N48 (spPath 1) (defBody (top 55)) := by
  intro ds P R h B0 H0 air
  obtain ⟨n, rfl, h1, h2, hp⟩ := h
  refine go_cons (g1_ret (ex_call c.toCtx fNear hr (ea_cons (ex_var c.toCtx 0 (ea_cons (ex_ofL (el_steps c bi h1 h2 rfl ?_ (by decide +kernel) (by decide +kernel) (by decide +kernel) (by decide +kernel) (by decide +kernel))))))))
  refine ea_nil ⟨n, steps n, rfl, by omega, fun p hm => ?_, hp⟩
  obtain ⟨a, ha, rfl⟩ := List.mem_map.mp hm
  have := List.mem_range.mp ha
  exact ⟨by omega, by omega, by omega⟩
theorem body_round {X : Cx} (c : CtxT X N48 (defScope (top 56))) (bi : Bi X.mg) {k : Nat} (hr : Room k X.A) (fNear : FnD X.prog X.w X.K X.mg X.base "_law_near" k spNear) : BodyOk X N48 (spPath 2) (defBody (top 56)) := by
  intro ds P R h B0 H0 air
  obtain ⟨n, rfl, h1, h2, hp⟩ := h
  refine go_cons (g1_ret (ex_call c.toCtx fNear hr (ea_cons (ex_var c.toCtx 0 (ea_cons (ex_ofL (el_cat (ex_ofL (el_steps c bi (by omega) h2 rfl ⟨_, rfl, ?_⟩ (by decide +kernel) (by decide +kernel) (by decide +kernel) (by decide +kernel) (by decide +kernel))))))))))
  refine ex_ofL (el_lst (ea_cons (ex_tup (ea_cons (ex_int (ea_cons (ex_subI (ex_var c.toCtx 0 ⟨_, rfl, ex_int ⟨_, rfl, ea_nil ⟨le2, ea_nil ⟨le1, _, rfl, ?_, ?_⟩⟩⟩⟩))))))))
  · simp [steps]; omega
  have e : (steps n).map prn ++ [D.tup [.int 0, .int ((n : Int) - 1)]] = (steps n ++ [(0, n - 1)]).map prn := by
    rw [List.map_append]
    congr 1
    simp [prn]; omega
  rw [e]
  refine ea_nil ⟨n, steps n ++ [(0, n - 1)], rfl, by omega, fun p hm => ?_, hp⟩
  rcases List.mem_append.mp hm with hm | hm
  · obtain ⟨a, ha, rfl⟩ := List.mem_map.mp hm
    have := List.mem_range.mp ha
    exact ⟨by omega, by omega, by omega⟩
  · have e : p = (0, n - 1) := by simpa using hm
    subst e
    exact ⟨by omega, by show n - 1 < n; omega, by show 0 ≠ n - 1; omega⟩
end OB
set_option Elab.async false
set_option linter.all false
set_option maxRecDepth 100000
set_option maxHeartbeats 4000000
namespace OB
open PySem PySem.Spec PyProof.Rows L2
def spTake : SpD := fun ds P _ => ∃ m : Int, ds = [.drw, .int m] ∧ 0 < m ∧ ∀ r, 0 ≤ r → r < m → P (.int r)
theorem sym0 : Sym fun _ _ => false := ⟨fun _ _ => rfl, fun _ => rfl⟩
/-- all functions of the law that make webs -/
structure Ws (P : Program) (w : World) (K : PySem.W.Frag) (mg : PySem.Str → Option Value) (base : Heap) (k : Nat) : Prop where
  bi : Bi mg
  take : FnD P w K mg base "_law_take" k spTake
  blank : FnM P w K mg base "_law_blank" k spBlank
  near : FnD P w K mg base "_law_near" k spNear
  con : FnD P w K mg base "_law_contrary" k spContrary
  graft : FnD P w K mg base "_law_graft" k spGraft
  path : FnD P w K mg base "_law_path" k (spPath 1)
  round : FnD P w K mg base "_law_round" k (spPath 2)
section
variable {X : Cx} {N : List PySem.Str} {S scope : Scope} {B0 H0 : Hp} {sds : List SD} {os : List (Addr × OV)} {P : D → Prop} {pos p p1 p2 : Pos} {k : Nat}
theorem ex_take (c : Ctx X N S) (F : FnD X.prog X.w X.K X.mg X.base "_law_take" k spTake) (hr : Room k X.A) {e : Expr} (i : Nat) {x : PySem.Str} (h : EX X B0 H0 sds os e fun d => ∃ m : Nat, d = .int (m : Int) ∧ 0 < m ∧ ∀ r : Nat, r < m → P (.int (r : Int))) (hs : sds[i]? = some (.d .drw) := by rfl) (hN : N[i]? = some x := by rfl) (hv : visB S x = true := by decide +kernel)
    (hd : (x == ("__debug__" : PySem.Str)) = false := by decide +kernel) (hcd : (x == ("__classdict__" : PySem.Str)) = false := by decide +kernel) (hg : glB S "_law_take" = true := by decide +kernel) (he : starEach (.Name x p1 :: [e]) X.env = (false, eval (.Name x p1) X.env) :: starEach [e] X.env := by rfl) (hpl : (backTo pos (starEach [e] X.env)).any (·.1) = false := by rfl) (he2 : starEach [e] X.env = (false, eval e X.env) :: starEach [] X.env := by rfl) : EX X B0 H0 sds os (.Call (.Name "_law_take" p) [.Name x p1, e] [] pos) P :=
  ex_call c F hr (ea_cons (ex_var c i (ea_cons (h.imp fun d ⟨m, e1, h1, h2⟩ => ea_nil ⟨(m : Int), by rw [e1], by omega, fun r r0 r1 => by
    obtain ⟨n, rfl⟩ := Int.eq_ofNat_of_zero_le r0
    exact h2 n (by omega)⟩) he2) hs hN hv hd hcd) he) hg (by decide +kernel) he hpl
end
def spBase : SpD := fun ds P _ => ds = [.drw] ∧ ∀ n g, 2 ≤ n → n ≤ 6 → Sym g → P (webD n g)
abbrev N51 : List PySem.Str := ["_law_draws_here", "_law_word"]
end OB
set_option Elab.async false
set_option linter.all false
set_option maxRecDepth 100000
set_option maxHeartbeats 4000000
namespace OB
open PySem PySem.Spec PyProof.Rows L2
def spWeb (lo : Nat) : SpD := fun ds P _ => ∃ m : Nat, ds = [.drw, .int (m : Int)] ∧ lo ≤ m ∧ m ≤ 40 ∧ ∀ n g, 1 ≤ n → n ≤ m → Sym g → P (webD n g)
abbrev N52 : List PySem.Str := ["_law_draws_here", "_law_most", "_law_near_here", "_law_k", "_law_guest", "_law_thing"]
end OB
set_option Elab.async false
set_option linter.all false
set_option maxRecDepth 100000
set_option maxHeartbeats 4000000
namespace OB
open PySem PySem.Spec PyProof.Rows L2
def spAny : SpD := fun ds P _ => ∃ n : Nat, ds = [.drw, .int (n : Int)] ∧ 1 ≤ n ∧ n ≤ 40 ∧ ∀ g, Sym g → P (webD n g)
abbrev N53 : List PySem.Str := ["_law_draws_here", "_law_size", "_law_share", "_law_ties_here", "_law_a", "_law_b"]
theorem body_any {X : Cx} (c : CtxT X N53 (defScope (top 58))) {k : Nat} (hr : Room k X.A) (W : Ws X.prog X.w X.K X.mg X.base k) : BodyOk X N53 spAny (defBody (top 58)) := by
  intro ds P R h B0 H0 air
  obtain ⟨n, rfl, hn0, hn, hp⟩ := h
  refine go_cons (g1_asg c.toCtxD 2 (ex_addI (ex_int ⟨_, rfl, ex_take c.toCtx W.take hr 0 (ex_int ⟨4, rfl, by decide, fun r hr' => ⟨_, rfl, ?_⟩⟩)⟩)))
  refine go_cons (g1_asgO c.toCtxD 3 (el_lst (ea_nil ⟨by decide, fun p => ?_⟩)))
  let J : Nat → Nat → List SD → List (Addr × OV) → Prop := fun i j sds os => ∃ (x y : SD) (l : List (Nat × Nat)), sds = [.d .drw, .d (.int (n : Int)), .d (.int (1 + (r : Int))), .v (.ref p), x, y] ∧ os = [(p, .lst (l.map prn))] ∧ l.length ≤ i * n + j ∧ ∀ q ∈ l, q.1 < q.2 ∧ q.2 < n
  refine go_cut (J n 0) (g1_for (t := .nm 4) c.own c.calm (tg_nm c.toCtxD 4) (ix_range1 c.toCtx W.bi.range (ex_var c.toCtx 1 ⟨(n : Int), rfl, by omega, by omega, ?_⟩))) ?_
  · rw [rng0]
    refine forOk_rng (fun i => J i 0) ⟨_, _, [], rfl, rfl, by simp, by simp⟩ ?_ fun _ _ h => h
    rintro i sds os hi ⟨x, y, l, rfl, rfl, hl, hq⟩
    refine go_cons (g1_for (t := .nm 5) c.own c.calm (tg_nm c.toCtxD 5) (ix_range2 c.toCtx W.bi.range (ex_addI (ex_var c.toCtx 4 ⟨_, rfl, ex_int ⟨_, rfl, ex_var c.toCtx 1 ⟨((i + 1 : Nat) : Int), (n : Int), rfl, rfl, ⟨by omega, by omega, by omega, by omega⟩, ?_⟩⟩⟩))))
    rw [rng1]
    refine forOk_rng (fun j sds os => ∃ (y : SD) (l : List (Nat × Nat)), sds = [.d .drw, .d (.int (n : Int)), .d (.int (1 + (r : Int))), .v (.ref p), .d (.int (i : Int)), y] ∧ os = [(p, .lst (l.map prn))] ∧ l.length ≤ i * n + j ∧ ∀ q ∈ l, q.1 < q.2 ∧ q.2 < n) ⟨_, l, rfl, rfl, hl, hq⟩ ?_ ?_
    · rintro j sds os hj ⟨y, l, rfl, rfl, hl, hq⟩
      refine go_cons (g1_if (tx_ltI (ex_take c.toCtx W.take hr 0 (ex_int ⟨5, rfl, by decide, fun r' _ => ⟨_, rfl, ex_var c.toCtx 2 ⟨_, rfl, ⟨fun _ => ?_, fun _ => go_nil (go_nil ⟨_, l, rfl, rfl, by omega, hq⟩)⟩⟩⟩⟩))))
      refine go_cons (g1_append c.toCtx 3 0 (ex_tup (ea_cons (ex_var c.toCtx 4 (ea_cons (ex_var c.toCtx 5 (ea_nil ⟨le2, ?_, go_nil (go_nil ⟨_, l ++ [(i, i + 1 + j)], rfl, ?_, ?_, ?_⟩)⟩)))))))
      · rw [List.length_map]
        have h3 : i * n ≤ 40 * 40 := Nat.mul_le_mul (by omega) hn
        omega
      · simp [prn]
      · simp; omega
      · intro q hm
        rcases List.mem_append.mp hm with hm | hm
        · exact hq q hm
        · have e : q = (i, i + 1 + j) := by simpa using hm
          subst e
          exact ⟨by show i < i + 1 + j; omega, by show i + 1 + j < n; omega⟩
    · rintro sds os ⟨y, l, rfl, rfl, hl, hq⟩
      refine go_nil ⟨_, _, l, rfl, rfl, ?_, hq⟩
      have : (i + 1) * n = i * n + n := Nat.succ_mul i n
      omega
  rintro sds os ⟨x, y, l, rfl, rfl, hl, hq⟩
  refine go_freeze 3 0 ?_
  refine go_cons (g1_ret (ex_call c.toCtx W.near hr (ea_cons (ex_var c.toCtx 1 (ea_cons (ex_var c.toCtx 3 (ea_nil ⟨n, l, rfl, by omega, fun q hm => ?_, hp⟩)))))))
  have := hq q hm
  exact ⟨by omega, by omega, by omega⟩
/-! spans -/
def spSpans : SpD := fun ds P _ => ∃ n : Nat, ds = [.drw, .int (n : Int)] ∧ n ≤ 40 ∧ ∀ l : List (Int × Int), l.length = n → P (.lst (l.map pr))
abbrev N54 : List PySem.Str := ["_law_draws_here", "_law_size", "_law_spans_here", "_law_a", "_law_first"]
end OB
set_option Elab.async false
set_option linter.all false
set_option maxRecDepth 100000
set_option maxHeartbeats 4000000
namespace OB
open PySem PySem.Spec PyProof.Rows L2
def spMeeting : SpD := fun ds P _ => ∃ l : List (Int × Int), ds = [.lst (l.map pr)] ∧ l.length ≤ 40 ∧ ∀ g, Sym g → P (webD l.length g)
abbrev N55 : List PySem.Str := ["_law_spans_here", "_law_near_here", "_law_a", "_law_b"]
def metG (l : List (Int × Int)) : Nat → Nat → Bool := fun a b => decide (a ≠ b) && (decide ((l.getD a (0, 0)).1 ≤ (l.getD b (0, 0)).2) && decide ((l.getD b (0, 0)).1 ≤ (l.getD a (0, 0)).2))
theorem sym_met (l : List (Int × Int)) : Sym (metG l) := ⟨fun a b => by unfold metG; rw [Bool.and_comm (decide ((l.getD a (0, 0)).1 ≤ (l.getD b (0, 0)).2))]; by_cases e : a = b <;> simp [e, eq_comm], fun a => by simp [metG]⟩
theorem len_prs {l : List (Int × Int)} : LenD (.lst (l.map pr)) l.length := by simp [LenD]
theorem ixP {l : List (Int × Int)} {u : Nat} {P : D → Prop} (h : u < l.length) (p : P (pr (l.getD u (0, 0)))) : IxD (.lst (l.map pr)) (u : Int) P := ixL u (by rw [List.getElem?_map, List.getElem?_eq_getElem h, List.getD_eq_getElem?_getD, List.getElem?_eq_getElem h] <;> rfl) p
theorem ixP0 {x : Int × Int} {P : D → Prop} (p : P (.int x.1)) : IxD (pr x) 0 P := ixT 0 rfl p
theorem ixP1 {x : Int × Int} {P : D → Prop} (p : P (.int x.2)) : IxD (pr x) 1 P := ixT 1 rfl p
/-! a row is drawn -/
theorem own_mem {os : List (Addr × OV)} {j : Nat} {p : Addr} {l : List D} (h : os[j]? = some (p, .lst l)) : p ∈ os.flatMap fpt := List.mem_flatMap.mpr ⟨_, List.mem_of_getElem? h, by simp [fpt]⟩
theorem own_ne : ∀ {os : List (Addr × OV)} {j j2 : Nat} {p q : Addr} {l m : List D}, (os.flatMap fpt).Nodup → os[j]? = some (p, .lst l) → os[j2]? = some (q, .lst m) → j ≠ j2 → p ≠ q
  | [], _, _, _, _, _, _, _, h, _, _ => by simp at h
  | o :: os, 0, 0, _, _, _, _, _, _, _, hn => absurd rfl hn
  | o :: os, 0, j2 + 1, p, q, l, m, nd, h1, h2, _ => fun e => by
    have e1 : o = (p, .lst l) := by simpa using h1
    subst e1
    rw [List.flatMap_cons] at nd
    exact (List.nodup_append.mp nd).2.2 p (by simp [fpt]) q (own_mem (by simpa using h2)) e
  | o :: os, j + 1, 0, p, q, l, m, nd, h1, h2, _ => fun e => by
    have e1 : o = (q, .lst m) := by simpa using h2
    subst e1
    rw [List.flatMap_cons] at nd
    exact (List.nodup_append.mp nd).2.2 q (by simp [fpt]) p (own_mem (by simpa using h1)) e.symm
  | o :: os, j + 1, j2 + 1, p, q, l, m, nd, h1, h2, hn => by
    rw [List.flatMap_cons] at nd
    exact own_ne (List.nodup_append.mp nd).2.1 (by simpa using h1) (by simpa using h2) (by omega)
theorem IsAll.eraseIdx {K : PySem.W.Frag} {B : Hp} : ∀ {ds : List D} {vs : List V}, IsAll K B vs ds → ∀ i, IsAll K B (vs.eraseIdx i) (ds.eraseIdx i)
  | [], _, .nil, _ => .nil
  | d :: ds, _, .cons h1 h2, 0 => h2
  | d :: ds, _, .cons h1 h2, i + 1 => .cons h1 (h2.eraseIdx i)
section
variable {X : Cx} {N : List PySem.Str} {S : Scope} {B0 H0 : Hp} {sds : List SD} {os : List (Addr × OV)} {E : DE} {pos : Pos} {e : Expr}
theorem g1_appendPop (c : Ctx X N S) (i j i2 j2 : Nat) {x y : PySem.Str} {p q : Addr} {l m : List D} {px pa pc qx qa qc : Pos}
    (h : EX X B0 H0 sds os e fun d => ∃ u : Nat, d = .int (u : Int) ∧ u < m.length ∧ u < 2 ^ 62 ∧ l.length < 100000 ∧ ∀ z, m[u]? = some z → E.nx sds ((os.set j2 (q, .lst (m.eraseIdx u))).set j (p, .lst (l ++ [z])))) (hne : j ≠ j2) (hj : os[j]? = some (p, .lst l) := by rfl) (hi : sds[i]? = some (.v (.ref p)) := by rfl) (hj2 : os[j2]? = some (q, .lst m) := by rfl) (hi2 : sds[i2]? = some (.v (.ref q)) := by rfl)
    (hN : N[i]? = some x := by rfl) (hN2 : N[i2]? = some y := by rfl) (hv : visB S x = true := by decide +kernel) (hv2 : visB S y = true := by decide +kernel) (hd : (x == ("__debug__" : PySem.Str)) = false := by decide +kernel) (hcd : (x == ("__classdict__" : PySem.Str)) = false := by decide +kernel) (hd2 : (y == ("__debug__" : PySem.Str)) = false := by decide +kernel) (hcd2 : (y == ("__classdict__" : PySem.Str)) = false := by decide +kernel)
    (hs : swapsWith (.Call (.Attribute (.Name x px) "append" pa) [.Call (.Attribute (.Name y qx) "pop" qa) [e] [] qc] [] pc) none pos.line X.env = pure false := by rfl)
    (hbase : attributeBase (.Name x px) "append" X.env (eval (.Name x px) X.env) = eval (.Name x px) X.env := by rfl) (hbase2 : attributeBase (.Name y qx) "pop" X.env (eval (.Name y qx) X.env) = eval (.Name y qx) X.env := by rfl)
    (hfew : ((backTo pc (starEach [.Call (.Attribute (.Name y qx) "pop" qa) [e] [] qc] X.env)).all (fun x => !x.1) && (backToKw pc (keywordEach [] X.env)).all (fun x => x.1.isSome)
      && decide (([.Call (.Attribute (.Name y qx) "pop" qa) [e] [] qc] : List Expr).length + ([] : List Keyword).length + (if ([] : List Keyword).isEmpty then 0 else 1) < 30)) = true := by rfl)
    (hfew2 : ((backTo qc (starEach [e] X.env)).all (fun x => !x.1) && (backToKw qc (keywordEach [] X.env)).all (fun x => x.1.isSome)
      && decide ([e].length + ([] : List Keyword).length + (if ([] : List Keyword).isEmpty then 0 else 1) < 30)) = true := by rfl)
    (hline : (pa.endLine == pc.line) = true := by rfl) (hline2 : (qa.endLine == qc.line) = true := by rfl) (hst : starEach [.Call (.Attribute (.Name y qx) "pop" qa) [e] [] qc] X.env = [(false, eval (.Call (.Attribute (.Name y qx) "pop" qa) [e] [] qc) X.env)] := by rfl) (hst2 : starEach [e] X.env = [(false, eval e X.env)] := by rfl) :
    Go1 X B0 H0 sds os E (.Expr (.Call (.Attribute (.Name x px) "append" pa) [.Call (.Attribute (.Name y qx) "pop" qa) [e] [] qc] [] pc) pos) := fun A B H σ ea s => by
  refine PS.to (ps_expr (pe_bm PySem.F.plainAttrs_list PySem.F.slot_list_append PySem.F.type_list_append mt_append (pe_var (i := i) (by rw [c.hN]; exact hN) (c.vis hv) hd hcd) (pa_cons (pe_bm PySem.F.plainAttrs_list PySem.F.slot_list_pop PySem.F.type_list_pop mt_popAt (pe_var (i := i2) (by rw [c.hN]; exact hN2) (c.vis hv2) hd2 hcd2) (pa_cons pe_w pa_nil hst2) hbase2 hfew2 hline2 hst2 rfl) pa_nil hst) hbase hfew hline hst rfl) hs) ?_
  obtain ⟨xs, hp, ha⟩ := s.ownAt hj
  obtain ⟨ys, hp2, ha2⟩ := s.ownAt hj2
  refine ⟨.ref p, s.varV hi, .inl ⟨rfl, _, SqL.of hp⟩, .ref q, s.varV hi2, .inl ⟨rfl, _, SqL.of hp2⟩, ?_⟩
  refine h B H σ s _ fun v B1 H1 d g1 i1 ⟨u, e1, hu, hu2, hl, k⟩ => ?_
  subst e1; cases i1
  have s1 := s.grow g1
  have ha1 := IsAll.mono g1.b _ _ ha
  have hm1 := IsAll.mono g1.b _ _ ha2
  obtain ⟨z, hz⟩ : ∃ z, m[u]? = some z := ⟨_, List.getElem?_eq_getElem hu⟩
  obtain ⟨w, hw, iw⟩ := hm1.get hz
  have hpq : p ≠ q := own_ne s.nd hj hj2 hne
  refine ⟨q, ys, (u : Int), u, w, rfl, rfl, g1.h _ _ hp2, by omega, by omega, (ixN_seq (Evl.ixN_nat (by rw [ha2.len]; exact hu))).1, hw, ?_⟩
  refine ⟨p, xs, w, rfl, rfl, by rw [upd_ne hpq]; exact g1.h _ _ hp, by rw [ha.len]; exact Nat.lt_of_lt_of_le hl (by decide), ?_⟩
  have s2 := s1.putAt hj2 (hm1.eraseIdx u)
  exact ⟨B1, _, _, ea.trans g1.b, s2.putAt (l := l) (by rw [List.getElem?_set_ne (Ne.symm hne)]; exact hj) (ha1.app (.cons iw .nil)), k z hz⟩
end
end OB
set_option Elab.async false
set_option linter.all false
set_option maxRecDepth 100000
set_option maxHeartbeats 4000000
namespace OB
open PySem PySem.Spec PyProof.Rows L2
abbrev intl (r : List Nat) : List D := r.map fun (i : Nat) => .int (i : Int)
theorem intl_len (r : List Nat) : (intl r).length = r.length := List.length_map _
theorem erase_map {α β : Type} (f : α → β) : ∀ (l : List α) (u : Nat), (l.map f).eraseIdx u = (l.eraseIdx u).map f
  | [], _ => rfl
  | a :: l, 0 => rfl
  | a :: l, u + 1 => by rw [List.map_cons, List.eraseIdx_cons_succ, List.eraseIdx_cons_succ, List.map_cons, erase_map f l u]
theorem erase_perm : ∀ {m : List Nat} {u v : Nat}, m[u]? = some v → (v :: m.eraseIdx u).Perm m
  | [], _, _, h => by simp at h
  | a :: m, 0, v, h => by have e : a = v := by simpa using h
                          subst e; exact List.Perm.refl _
  | a :: m, u + 1, v, h => by
    rw [List.eraseIdx_cons_succ]
    exact (List.Perm.swap a v _).trans ((erase_perm (by simpa using h)).cons a)
def spRow : SpD := fun ds P _ => ∃ n : Nat, ds = [.drw, .int (n : Int)] ∧ n ≤ 40 ∧ ∀ r : List Nat, r.Perm (List.range n) → P (intsD r)
abbrev N41 : List PySem.Str := ["_law_draws_here", "_law_size", "_law_left", "_law_row_here", "_law_k"]
theorem body_row {X : Cx} (c : CtxT X N41 (defScope (top 48))) {k : Nat} (hr : Room k X.A) (bi : Bi X.mg) (fTake : FnD X.prog X.w X.K X.mg X.base "_law_take" k spTake) : BodyOk X N41 spRow (defBody (top 48)) := by
  intro ds P R h B0 H0 air
  obtain ⟨n, rfl, hn, hp⟩ := h
  refine go_cons (g1_asgO c.toCtxD 2 (el_listRng c.toCtx bi.list bi.range (ex_var c.toCtx 1 ⟨n, rfl, by omega, fun q => ?_⟩)))
  have e0 : rngD 0 n = intl (List.range n) := by simp [rngD, intl]
  rw [e0]
  refine go_cons (g1_asgO c.toCtxD 3 (el_lst (ea_nil ⟨by decide, fun p => ?_⟩)))
  refine go_cut (fun sds os => ∃ (x : SD) (r m : List Nat), sds = [.d .drw, .d (.int (n : Int)), .v (.ref q), .v (.ref p), x] ∧ os = [(p, .lst (intl r)), (q, .lst (intl m))] ∧ (r ++ m).Perm (List.range n) ∧ r.length = n) (g1_for (t := .nm 4) c.own c.calm (tg_nm c.toCtxD 4) (ix_range1 c.toCtx bi.range (ex_var c.toCtx 1 ⟨(n : Int), rfl, by omega, by omega, ?_⟩))) ?_
  · rw [rng0]
    refine forOk_rng (fun i sds os => ∃ (x : SD) (r m : List Nat), sds = [.d .drw, .d (.int (n : Int)), .v (.ref q), .v (.ref p), x] ∧ os = [(p, .lst (intl r)), (q, .lst (intl m))] ∧ (r ++ m).Perm (List.range n) ∧ r.length = i) ⟨_, [], List.range n, rfl, rfl, by simp, rfl⟩ ?_ fun _ _ h => h
    rintro i sds os hi ⟨x, r, m, rfl, rfl, hpm, hl⟩
    have hml : m.length = n - i := by
      have := hpm.length_eq
      simp at this; omega
    refine go_cons (g1_appendPop (l := intl r) (m := intl m) c.toCtx 3 0 2 1 (ex_take c.toCtx fTake hr 0 (ex_borrow 2 1 (ex_len c.toCtx bi.len (ex_var c.toCtx 2 ⟨_, lenL, ⟨rfl, (intl m).length, rfl, by rw [intl_len]; omega, fun u hu => ⟨u, rfl, hu, by rw [intl_len] at hu; omega, by rw [intl_len]; omega, fun z hz => ?_⟩⟩⟩)))) (by decide))
    rw [List.getElem?_map] at hz
    cases hq : m[u]? with
    | none => rw [hq] at hz; cases hz
    | some v =>
      rw [hq] at hz
      cases hz
      obtain ⟨hul, hv⟩ := List.getElem?_eq_some_iff.mp hq
      refine go_nil ⟨_, r ++ [v], m.eraseIdx u, rfl, ?_, ?_, by simp [hl]⟩
      · have e1 : (intl m).eraseIdx u = intl (m.eraseIdx u) := erase_map _ _ _
        rw [e1]
        simp [intl]
      · have h1 : (v :: m.eraseIdx u).Perm m := erase_perm hq
        rw [List.append_assoc]
        exact ((List.Perm.append_left r h1)).trans hpm
  rintro sds os ⟨x, r, m, rfl, rfl, hpm, hl⟩
  have hm : m = [] := by
    have := hpm.length_eq
    simp at this
    exact List.eq_nil_of_length_eq_zero (by omega)
  subst hm
  rw [List.append_nil] at hpm
  refine go_freeze 3 0 ?_
  exact go_cons (g1_ret (ex_var c.toCtx 3 (hp r hpm)))
end OB
set_option Elab.async false
set_option linter.all false
set_option maxRecDepth 100000
set_option maxHeartbeats 4000000
namespace OB
open PySem PySem.Spec PyProof.Rows L2
theorem intsD_eq (r : List Nat) : intsD r = .lst ((r.map fun (i : Nat) => (i : Int)).map .int) := by unfold intsD; rw [List.map_map] <;> rfl
theorem idx_lt {n : Nat} {r : List Nat} (h : r.Perm (List.range n)) {a : Nat} (ha : a < n) : r.idxOf a < r.length ∧ r[r.idxOf a]? = some a ∧ ∀ m, m < r.idxOf a → r[m]? ≠ some a := by
  have hm : a ∈ r := h.mem_iff.mpr (List.mem_range.mpr ha)
  have hl := List.idxOf_lt_length_of_mem hm
  refine ⟨hl, ?_, fun m hm' e => ?_⟩
  · rw [List.getElem?_eq_getElem hl, List.getElem_idxOf hl]
  · obtain ⟨h1, h2⟩ := List.getElem?_eq_some_iff.mp e
    have nd : r.Nodup := h.nodup_iff.mpr List.nodup_range
    have e3 : r[m] = r[r.idxOf a] := by rw [h2, List.getElem_idxOf hl]
    have := (List.getElem_inj nd).mp e3
    omega
theorem ex_indexN {X : Cx} {N : List PySem.Str} {S : Scope} {B0 H0 : Hp} {sds : List SD} {os : List (Addr × OV)} {P : D → Prop} {a b : Expr} {pos pa : Pos} (c : Ctx X N S) {k : Nat} (hr : Room k X.A) {n : Nat} {r : List Nat} (hp : r.Perm (List.range n)) {u : Nat} (hu : u < n) (ha : EX X B0 H0 sds os a (· = intsD r)) (hb : EX X B0 H0 sds os b (· = .int (u : Int))) (p : P (.int ((r.idxOf u : Nat) : Int)))
    (hbase : attributeBase a "index" X.env (eval a X.env) = eval a X.env := by rfl)
    (hfew : ((backTo pos (starEach [b] X.env)).all (fun x => !x.1) && (backToKw pos (keywordEach [] X.env)).all (fun x => x.1.isSome)
      && decide ([b].length + ([] : List Keyword).length + (if ([] : List Keyword).isEmpty then 0 else 1) < 30)) = true := by rfl)
    (hline : (pa.endLine == pos.line) = true := by rfl) (hst : starEach [b] X.env = [(false, eval b X.env)] := by rfl) : EX X B0 H0 sds os (.Call (.Attribute a "index" pa) [b] [] pos) P := by
  obtain ⟨h1, h2, h3⟩ := idx_lt hp hu
  refine ex_indexI c hr (ha.imp fun d e => ⟨_, e.trans (intsD_eq r), hb.imp fun d' e' => ⟨(u : Int), r.idxOf u, e', by rw [List.getElem?_map, h2] <;> rfl, fun m hm e2 => ?_, p⟩⟩) hbase hfew hline hst
  rw [List.getElem?_map] at e2
  cases hq : r[m]? with
  | none => rw [hq] at e2; cases e2
  | some v =>
    rw [hq] at e2
    have e3 : (v : Int) = (u : Int) := by simpa using e2
    exact h3 m hm (by rw [hq]; congr 1; omega)
theorem go_forget {X : Cx} {B0 H0 : Hp} {sds : List SD} {os : List (Addr × OV)} {E : DE} {sts : List Stmt} (i : Nat) (h : Go X B0 H0 (sds.set i .un) os E sts) : Go X B0 H0 sds os E sts := fun A B H σ ea s => by
  refine h A B H σ ea ⟨s.g, ⟨by rw [List.length_set]; exact s.sl.len, fun j sd q => ?_⟩, s.ow, s.fr, s.nd⟩
  by_cases hj : i = j
  · subst hj
    have hl : i < sds.length := by
      have := (List.getElem?_eq_some_iff.mp q).1
      rwa [List.length_set] at this
    rw [List.getElem?_set_self hl] at q
    cases q
    trivial
  · rw [List.getElem?_set_ne hj] at q
    exact s.sl.at' j sd q
def spAgree : SpD := fun ds P _ => ∃ (n : Nat) (rows : List (List Nat)), ds = [.lst (rows.map intsD)] ∧ n ≤ 40 ∧ rows ≠ [] ∧ rows.length ≤ 100 ∧ (∀ r ∈ rows, r.Perm (List.range n)) ∧ ∀ g, Sym g → P (webD n g)
def waysOf (rows : List (List Nat)) (a b : Nat) : List Bool := rows.map fun r => decide (r.idxOf a < r.idxOf b)
def agrG (n : Nat) (rows : List (List Nat)) : Nat → Nat → Bool := fun a b => decide (a < n) && (decide (b < n) && (decide (a ≠ b) && ((waysOf rows a b).all id || !(waysOf rows a b).any id)))
theorem sym_agr {n : Nat} {rows : List (List Nat)} (h : ∀ r ∈ rows, r.Perm (List.range n)) : Sym (agrG n rows) := by
  refine ⟨fun a b => ?_, fun a => by simp [agrG]⟩
  by_cases ha : a < n
  · by_cases hb : b < n
    · by_cases e : a = b
      · subst e; rfl
      · have key : ∀ rows : List (List Nat), (∀ r ∈ rows, r.Perm (List.range n)) → (waysOf rows a b).all id = !(waysOf rows b a).any id ∧ (waysOf rows b a).all id = !(waysOf rows a b).any id := by
          intro rows
          induction rows with
          | nil => intro _; exact ⟨rfl, rfl⟩
          | cons r rs ih =>
            intro hr
            obtain ⟨i1, i2⟩ := ih fun r hm => hr r (List.mem_cons_of_mem _ hm)
            have hp := hr r (by simp)
            have hne : r.idxOf a ≠ r.idxOf b := fun q => by
              obtain ⟨_, q1, _⟩ := idx_lt hp ha
              obtain ⟨_, q2, _⟩ := idx_lt hp hb
              rw [q, q2] at q1
              exact e (by simpa using q1.symm)
            have hd : decide (r.idxOf a < r.idxOf b) = !decide (r.idxOf b < r.idxOf a) := by
              by_cases q : r.idxOf a < r.idxOf b
              · have : ¬ r.idxOf b < r.idxOf a := by omega
                simp [q, this]
              · have : r.idxOf b < r.idxOf a := by omega
                simp [q, this]
            have hd2 : decide (r.idxOf b < r.idxOf a) = !decide (r.idxOf a < r.idxOf b) := by rw [hd, Bool.not_not]
            unfold waysOf at i1 i2 ⊢
            refine ⟨?_, ?_⟩
            · rw [List.map_cons, List.map_cons, List.all_cons, List.any_cons, i1, Bool.not_or, id, id, hd]
            · rw [List.map_cons, List.map_cons, List.all_cons, List.any_cons, i2, Bool.not_or, id, id, hd2]
        obtain ⟨k1, k2⟩ := key rows h
        unfold agrG
        rw [k1, k2, Bool.or_comm]
        simp [ha, hb, e, eq_comm]
    · simp [agrG, hb]
  · simp [agrG, ha]
abbrev N50 : List PySem.Str := ["_law_rows", "_law_size", "_law_near_here", "_law_a", "_law_b", "_law_ways", "_law_row_here"]
theorem body_agree {X : Cx} (c : CtxT X N50 (defScope (top 57))) {k : Nat} (hr : Room k X.A) (W : Ws X.prog X.w X.K X.mg X.base k) : BodyOk X N50 spAgree (defBody (top 57)) := by
  intro ds P R h B0 H0 air
  obtain ⟨n, rows, rfl, hn, hne, hlr, hrows, hp⟩ := h
  obtain ⟨r0, hr0⟩ : ∃ r0, rows[0]? = some r0 := by cases rows with
    | nil => exact absurd rfl hne
    | cons r _ => exact ⟨r, rfl⟩
  have hl0 : r0.length = n := by simpa using (hrows r0 (List.mem_of_getElem? hr0)).length_eq
  refine go_cons (g1_asg c.toCtxD 1 (ex_len c.toCtx W.bi.len (ex_ix (ex_var c.toCtx 0 (ex_int ⟨0, rfl, ixL 0 (by rw [List.getElem?_map, hr0] <;> rfl) ⟨_, len_ints, ?_⟩⟩)))))
  rw [hl0]
  refine go_cons (g1_asgM c.toCtxD 2 (em_call c.toCtx W.blank hr (ea_cons (ex_var c.toCtx 1 (ea_nil ⟨n, rfl, by omega, fun p rs => ?_⟩)))))
  refine go_cons (g1_two c n n (fun x y => [.d (.lst (rows.map intsD)), .d (.int (n : Int)), .v (.ref p), x, y, .un, .un]) (fun k j os => ∃ h, Fil n (agrG n rows) k j h ∧ os = [(p, .mat rs (matOf n h))]) (ia := 3) (ib := 4) ⟨_, Fil.zero, rfl⟩ (tg_nm c.toCtxD 3) (tg_nm c.toCtxD 4) ?_ ?_ ?_ ?_ ?_)
  · intro Q hQ
    exact ix_range1 c.toCtx W.bi.range (ex_var c.toCtx 1 ⟨(n : Int), rfl, by omega, by omega, by rw [rngI]; exact hQ⟩)
  · intro k os y hk hI Q hQ
    exact ix_range1 c.toCtx W.bi.range (ex_var c.toCtx 1 ⟨(n : Int), rfl, by omega, by omega, by rw [rngI]; exact hQ⟩)
  · rintro k j os hk hj ⟨h, f, rfl⟩ E' hE
    refine go_cons (g1_setLc0 c.toCtxD 5 [("_law_row_here", 6)] (.nm 6) (fun X' b => tb_nm (b.ctx c.toCtx) 6) (ix_list (ex_var c.toCtx 0 ⟨_, rfl, List Nat, rows, intsD, fun r => .bl (decide (r.idxOf k < r.idxOf j)), rfl, by omega, fun r hm X' b => ?_, ?_⟩)))
    · exact ex_ltI (ex_indexN (b.ctx c.toCtx) (b.room hr) (hrows r hm) hk (ex_var (b.ctx c.toCtx) 6 rfl) (ex_var (b.ctx c.toCtx) 3 rfl) ⟨_, rfl, ex_indexN (b.ctx c.toCtx) (b.room hr) (hrows r hm) hj (ex_var (b.ctx c.toCtx) 6 rfl) (ex_var (b.ctx c.toCtx) 4 rfl) ⟨_, rfl, congrArg D.bl (decide_eq_decide.mpr Int.ofNat_lt)⟩⟩)
    have ew : (rows.map fun r => D.bl (decide (r.idxOf k < r.idxOf j))) = (waysOf rows k j).map .bl := by unfold waysOf; rw [List.map_map] <;> rfl
    rw [ew]
    refine go_cons (g1_if (tx_w (wx_and (k1 := decide (k ≠ j)) (k2 := (waysOf rows k j).all id || !(waysOf rows k j).any id) (tx_neI (ex_var c.toCtx 3 ⟨_, rfl, ex_var c.toCtx 4 ⟨_, rfl, ?_⟩⟩)) (fun _ => tx_and1 (tx_w (wx_or (tx_val (ex_allB c.toCtx W.bi.all (ex_var c.toCtx 5 ⟨_, rfl, _, rfl, rfl⟩))) (fun _ => tx_or1 (tx_not (tx_val (ex_anyB c.toCtx W.bi.any (ex_var c.toCtx 5 ⟨_, rfl, _, rfl, rfl⟩))))) rfl))) ?_)))
    · by_cases e : k = j <;> simp [e, Int.ofNat_inj]
    refine ⟨fun ht => ?_, fun ht => ?_⟩
    · refine go_cons (g1_setM c.toCtx 2 0 (ex_int (ex_var c.toCtx 3 ⟨k, _, rfl, matOf_get hk, ex_var c.toCtx 4 ⟨j, rfl, by rw [rowOf_len]; exact hj, ?_⟩⟩)))
      rw [matOf_set1 hk hj]
      exact go_nil (go_forget 5 (go_nil (hE _ ⟨_, f.set (by unfold agrG; rw [ht]; simp [hk, hj]), rfl⟩)))
    · exact go_nil (go_forget 5 (go_nil (hE _ ⟨_, f.keep (by unfold agrG; rw [ht]; simp), rfl⟩)))
  · rintro k os hk ⟨h, f, rfl⟩
    exact ⟨h, f.row, rfl⟩
  · rintro x y os ⟨h, f, rfl⟩
    refine go_freezeM 2 0 ?_
    refine go_cons (g1_ret (ex_var c.toCtx 2 ?_))
    have e := f.done
    unfold webD at e
    rw [e]
    exact hp _ (sym_agr hrows)
end OB
set_option Elab.async false
set_option linter.all false
set_option maxRecDepth 100000
set_option maxHeartbeats 4000000
namespace OB
open PySem PySem.Spec PyProof.Rows L2
abbrev N56 : List PySem.Str := ["_law_draws_here", "_law_most", "_law_word"]
end OB
set_option Elab.async false
set_option linter.all false
set_option maxRecDepth 100000
set_option maxHeartbeats 4000000
namespace OB
open PySem PySem.Spec PyProof.Rows L2
structure Ws2 (P : Program) (w : World) (K : PySem.W.Frag) (mg : PySem.Str → Option Value) (base : Heap) (k : Nat) : Prop extends Ws P w K mg base k where
  row : FnD P w K mg base "_law_row" k spRow
  nested : FnD P w K mg base "_law_nested" k (spWeb 4)
  agree : FnD P w K mg base "_law_agree" k spAgree
  any : FnD P w K mg base "_law_any_ties" k spAny
  spans : FnD P w K mg base "_law_spans" k spSpans
  meeting : FnD P w K mg base "_law_meeting" k spMeeting
  edge : FnD P w K mg base "_law_edge" k (spWeb 4)
  renamed : FnD P w K mg base "_law_renamed" k spRenamed
abbrev N57 : List PySem.Str := ["_law_draws_here", "_law_most", "_law_word", "_law_size", "_law_near_here"]
end OB
set_option Elab.async false
set_option linter.all false
set_option maxRecDepth 100000
set_option maxHeartbeats 4000000
namespace OB
open PySem PySem.Spec PyProof.Rows L2
section
variable {X : Cx} {N : List PySem.Str} {S scope : Scope} {B0 H0 : Hp} {sds : List SD} {os : List (Addr × OV)} {E : DE} {pos p px p2 p3 : Pos} {a b e : Expr} {P : D → Prop} {k : Nat}
theorem ex_powI (h : EX X B0 H0 sds os a fun da => ∃ i, da = .int i ∧ EX X B0 H0 sds os b fun db => ∃ j, db = .int j ∧ CPow i j ∧ P (.int (i ^ j.toNat))) : EX X B0 H0 sds os (.BinOp a .Pow b pos) P :=
  ex_bin op_pow (h.imp fun d ⟨i, e1, k⟩ => k.imp fun d' ⟨j, e2, hc, hp⟩ => by subst e1; subst e2; exact opd_I (fun B i j => .int _) hc hp)
theorem sqL_mono {K : PySem.W.Frag} {H H' : Hp} {a : Addr} {xs : List V} (h : SqL K H a xs) (e : Ex H H') : SqL K H' a xs := by
  rcases h with (h | ⟨o, h⟩) | h
  · exact .inl (.inl (e _ _ h))
  · exact .inl (.inr ⟨o, e _ _ h⟩)
  · exact .inr h
theorem cut_ints (ns : List Int) (lo hi : Option Int) : ∃ ms : List Int, cutV (ns.map V.int) lo hi = ms.map V.int ∧ ms.length ≤ ns.length := by
  unfold cutV
  rw [← List.map_drop, ← List.map_take]
  refine ⟨_, rfl, ?_⟩
  rw [List.length_take, List.length_drop]
  omega
theorem el_scr (c : Ctx X N S) (i : Nat) {x : PySem.Str} {ad : Addr} {ns : List Int} {z : Int} {j : Nat} {P : List D → Prop} (hq : SqL X.K H0 ad (ns.map V.int)) (h : ∀ ms : List Int, ms.length ≤ ns.length → P (ms.map .int)) (hi : sds[i]? = some (.v (.ref ad)) := by rfl)
    (hN : N[i]? = some x := by rfl) (hv : visB S x = true := by decide +kernel) (hd : (x == ("__debug__" : PySem.Str)) = false := by decide +kernel) (hcd : (x == ("__classdict__" : PySem.Str)) = false := by decide +kernel) : EL X B0 H0 sds os (.Subscript (.Name x px) (.Slice none (some (.Constant (.int z) j p2)) none p3) pos) P := fun B H σ s Q q => by
  refine PE.to (pe_slice sl_list (pe_var (i := i) (by rw [c.hN]; exact hN) (c.vis hv) hd hcd) po_none (po_some pe_int)) ?_
  refine ⟨.ref ad, s.varV hi, z, rfl, ad, _, rfl, sqL_mono hq s.g.h, fun p hp => ?_⟩
  obtain ⟨ms, e, hl⟩ := cut_ints ns none (some z)
  rw [e]
  exact q p _ B _ _ (Grow.up s.g.bh (Evl.Ex.new hp)) hp (Evl.fresh_back s.g.bh hp) upd_same of_ints (h ms hl)
theorem isall_rev {K : PySem.W.Frag} {B : Hp} : ∀ {l : List D} {xs : List V}, IsAll K B xs l → IsAll K B xs.reverse l.reverse
  | [], _, .nil => .nil
  | d :: l, _, .cons h1 h2 => by rw [List.reverse_cons, List.reverse_cons]; exact (isall_rev h2).app (.cons h1 .nil)
theorem g1_reverse (c : Ctx X N S) (i j : Nat) {x : PySem.Str} {ad : Addr} {l : List D} {pa pc : Pos} (h : E.nx sds (os.set j (ad, .lst l.reverse))) (hj : os[j]? = some (ad, .lst l) := by rfl) (hi : sds[i]? = some (.v (.ref ad)) := by rfl)
    (hN : N[i]? = some x := by rfl) (hv : visB S x = true := by decide +kernel) (hd : (x == ("__debug__" : PySem.Str)) = false := by decide +kernel) (hcd : (x == ("__classdict__" : PySem.Str)) = false := by decide +kernel)
    (hs : swapsWith (.Call (.Attribute (.Name x px) "reverse" pa) [] [] pc) none pos.line X.env = pure false := by rfl) (hbase : attributeBase (.Name x px) "reverse" X.env (eval (.Name x px) X.env) = eval (.Name x px) X.env := by rfl) (hline : (pa.endLine == pc.line) = true := by rfl) :
    Go1 X B0 H0 sds os E (.Expr (.Call (.Attribute (.Name x px) "reverse" pa) [] [] pc) pos) := fun A B H σ ea s => by
  refine PS.to (ps_expr (pe_bm0 PySem.F.plainAttrs_list PySem.F.slot_list_reverse PySem.F.type_list_reverse mt_reverse (pe_var (i := i) (by rw [c.hN]; exact hN) (c.vis hv) hd hcd) hbase hline) hs) ?_
  obtain ⟨xs, hp, ha⟩ := s.ownAt hj
  refine ⟨.ref ad, s.varV hi, .inl ⟨rfl, _, SqL.of hp⟩, ad, xs, rfl, rfl, hp, ?_⟩
  exact ⟨B, _, _, ea, s.putAt hj (isall_rev ha), h⟩
end
def spDr (K : PySem.W.Frag) : Sp := fun vs H Q _ => ∃ (a : Addr) (ns : List Int) (B : Hp), vs = [.ref a] ∧ SqL K H a (ns.map V.int) ∧ ns.length ≤ 63 ∧ Ex B H ∧ ∀ v B' H', Grow B H B' H' → Is K B' v .drw → Q v H'
abbrev N39 : List PySem.Str := ["_law_script", "_law_draws_here", "_law_place", "_law_raw", "_law_cell", "_law_k", "_law_mixed"]
theorem body_draws {X : Cx} (c : CtxT X N39 (defScope (top 46))) (bi : Bi X.mg) {B0 H0 : Hp} {a : Addr} {ns : List Int} (hq : SqL X.K H0 a (ns.map V.int)) (hn : ns.length ≤ 63) : Go X B0 H0 [.v (.ref a), .un, .un, .un, .un, .un, .un] [] { rt := (· = .drw) } (defBody (top 46)) := by
  refine go_cons (g1_asgO c.toCtxD 1 (el_lst (ea_nil ⟨by decide, fun p => ?_⟩)))
  refine go_cons (g1_asg c.toCtxD 2 (ex_int ?_))
  refine go_cut (fun sds os => ∃ (x y z t u : SD) (l : List Int), sds = [.v (.ref a), .v (.ref p), x, y, z, t, u] ∧ os = [(p, .lst (l.map .int))]) (g1_for (t := .nm 3) c.own c.calm (tg_nm c.toCtxD 3) (ix_list (ex_ofL (el_scr c.toCtx 0 hq fun ms hms => ⟨_, rfl, ?_⟩)))) ?_
  · refine forOk_map (fun i sds os => ∃ (pl : Int) (y z t u : SD) (l : List Int), sds = [.v (.ref a), .v (.ref p), .d (.int pl), y, z, t, u] ∧ os = [(p, .lst (l.map .int))] ∧ l.length ≤ 60 * i) ⟨_, _, _, _, _, [], rfl, rfl, by simp⟩ ?_ ?_
    · rintro i x sds os hx ⟨pl, y, z, t, u, l, rfl, rfl, hl⟩
      have hi : i < ms.length := (List.getElem?_eq_some_iff.mp hx).1
      refine go_cons (g1_asg c.toCtxD 4 (ex_int1 c.toCtx bi.int (ex_var c.toCtx 3 ⟨x, rfl, ?_⟩)))
      refine go_cons (g1_asg c.toCtxD 2 (ex_addI (ex_var c.toCtx 2 ⟨_, rfl, ex_int ⟨_, rfl, ?_⟩⟩)))
      refine go_cut (fun sds os => ∃ x' : Int, sds = [.v (.ref a), .v (.ref p), .d (.int (pl + 1)), .d (.int x), .d (.int x'), t, u] ∧ os = [(p, .lst (l.map .int))]) (g1_if (tx_ltI (ex_var c.toCtx 4 ⟨_, rfl, ex_int ⟨_, rfl, ⟨fun _ => ?_, fun _ => go_nil ⟨_, rfl, rfl⟩⟩⟩⟩))) ?_
      · exact go_cons (g1_asg c.toCtxD 4 (ex_subI (ex_int ⟨_, rfl, ex_mulI (ex_int ⟨_, rfl, ex_var c.toCtx 4 ⟨_, rfl, .inl ⟨by decide, by decide⟩, ⟨_, rfl, go_nil ⟨_, rfl, rfl⟩⟩⟩⟩)⟩)))
      rintro sds os ⟨x', rfl, rfl⟩
      refine go_cons (g1_if (tx_geI (ex_var c.toCtx 4 ⟨_, rfl, ex_powI (ex_int ⟨_, rfl, ex_int ⟨_, rfl, ⟨by decide, by decide, by decide⟩, ⟨_, rfl, ⟨fun _ => ?_, fun _ => ?_⟩⟩⟩⟩)⟩)))
      · refine go_cons (g1_for (t := .nm 5) c.own c.calm (tg_nm c.toCtxD 5) (ix_range1 c.toCtx bi.range (ex_int ⟨60, rfl, by decide, by decide, ?_⟩)))
        rw [show rngD 0 (60 : Int).toNat = intsTo 60 from rngI 60]
        refine forOk_rng (fun j sds os => ∃ (x' : Int) (t : SD) (l' : List Int), sds = [.v (.ref a), .v (.ref p), .d (.int (pl + 1)), .d (.int x), .d (.int x'), t, u] ∧ os = [(p, .lst (l'.map .int))] ∧ l'.length ≤ 60 * i + j) ⟨_, _, l, rfl, rfl, by omega⟩ ?_ ?_
        · rintro j sds os hj ⟨x', t, l', rfl, rfl, hl'⟩
          refine go_cons (g1_if (tx_gtI (ex_var c.toCtx 4 ⟨_, rfl, ex_int ⟨_, rfl, ⟨fun _ => ?_, fun _ => go_nil (go_nil ⟨_, _, l', rfl, rfl, by omega⟩)⟩⟩⟩)))
          refine go_cons (g1_append c.toCtx 1 0 (ex_modI (ex_int1 c.toCtx bi.int (ex_var c.toCtx 4 ⟨_, rfl, ⟨_, rfl, ex_int ⟨_, rfl, by decide, ?_, ?_⟩⟩⟩))))
          · rw [List.length_map]; omega
          · refine go_cons (g1_asg c.toCtxD 4 (ex_divI (ex_var c.toCtx 4 ⟨_, rfl, ex_int ⟨_, rfl, ⟨by decide, by decide⟩, go_nil (go_nil ⟨_, _, l' ++ [x' % 24], rfl, by simp, by simp; omega⟩)⟩⟩)))
        · rintro sds os ⟨x', t, l', rfl, rfl, hl'⟩
          exact go_nil (go_nil ⟨_, _, _, _, _, l', rfl, rfl, by omega⟩)
      · refine go_cons (g1_asg c.toCtxD 6 (ex_modI (ex_int1 c.toCtx bi.int (ex_addI (ex_addI (ex_mulI (ex_var c.toCtx 4 ⟨_, rfl, ex_int ⟨_, rfl, .inr ⟨by decide, by decide⟩, ⟨_, rfl, ex_mulI (ex_var c.toCtx 2 ⟨_, rfl, ex_int ⟨_, rfl, .inr ⟨by decide, by decide⟩, ⟨_, rfl, ⟨_, rfl, ex_int ⟨_, rfl, ⟨_, rfl, ⟨_, rfl, ex_int ⟨_, rfl, by decide, ?_⟩⟩⟩⟩⟩⟩⟩⟩)⟩⟩⟩)))))))
        generalize hmx : (x' * 69069 + (pl + 1) * 40503 + 17) % 2147483629 = mx
        have hmx0 : 0 ≤ mx ∧ mx < 2147483629 := by rw [← hmx]; exact ⟨Int.emod_nonneg _ (by decide), Int.emod_lt_of_pos _ (by decide)⟩
        refine go_cons (g1_for (t := .nm 5) c.own c.calm (tg_nm c.toCtxD 5) (ix_range1 c.toCtx bi.range (ex_int ⟨5, rfl, by decide, by decide, ?_⟩)))
        rw [show rngD 0 (5 : Int).toNat = intsTo 5 from rngI 5]
        refine forOk_rng (fun j sds os => ∃ (t : SD) (mx : Int) (l' : List Int), sds = [.v (.ref a), .v (.ref p), .d (.int (pl + 1)), .d (.int x), .d (.int x'), t, .d (.int mx)] ∧ os = [(p, .lst (l'.map .int))] ∧ l'.length ≤ 60 * i + j ∧ 0 ≤ mx ∧ mx < 2147483629) ⟨_, mx, l, rfl, rfl, by omega, hmx0⟩ ?_ ?_
        · rintro j sds os hj ⟨t, mx, l', rfl, rfl, hl', h0, h1⟩
          refine go_cons (g1_asg c.toCtxD 6 (ex_modI (ex_int1 c.toCtx bi.int (ex_addI (ex_addI (ex_mulI (ex_var c.toCtx 6 ⟨_, rfl, ex_addI (ex_addI (ex_var c.toCtx 6 ⟨_, rfl, ex_mulI (ex_int ⟨_, rfl, ex_var c.toCtx 5 ⟨_, rfl, .inl ⟨by decide, by decide⟩, ⟨_, rfl, ⟨_, rfl, ex_int ⟨_, rfl, ⟨_, rfl, ?_, ⟨_, rfl, ex_mulI (ex_var c.toCtx 2 ⟨_, rfl, ex_int ⟨_, rfl, .inr ⟨by decide, by decide⟩, ⟨_, rfl, ⟨_, rfl, ex_int ⟨_, rfl, ⟨_, rfl, ⟨_, rfl, ex_int ⟨_, rfl, by decide, ?_⟩⟩⟩⟩⟩⟩⟩⟩)⟩⟩⟩⟩⟩⟩⟩)⟩))⟩)))))))
          · exact .inl ⟨by omega, by omega⟩
          generalize hmy : (mx * (mx + 2 * (j : Int) + 3) + (pl + 1) * 7919 + 11) % 2147483587 = my
          have hmy0 : 0 ≤ my ∧ my < 2147483629 := by
            rw [← hmy]
            exact ⟨Int.emod_nonneg _ (by decide), Int.lt_of_lt_of_le (Int.emod_lt_of_pos _ (by decide)) (by decide)⟩
          refine go_cons (g1_append c.toCtx 1 0 (ex_divI (ex_var c.toCtx 6 ⟨_, rfl, ex_int ⟨_, rfl, ⟨by decide, by decide⟩, ?_, go_nil ⟨_, my, l' ++ [my / 64], rfl, ?_, by simp; omega, hmy0⟩⟩⟩)))
          · rw [List.length_map]; omega
          · simp
        · rintro sds os ⟨t, mx, l', rfl, rfl, hl', h0, h1⟩
          exact go_nil (go_nil ⟨_, _, _, _, _, l', rfl, rfl, by omega⟩)
    · rintro sds os ⟨pl, y, z, t, u, l, rfl, rfl, hl⟩
      exact ⟨_, _, _, _, _, l, rfl, rfl⟩
  rintro sds os ⟨x, y, z, t, u, l, rfl, rfl⟩
  refine go_cons (g1_reverse c.toCtx 1 0 ?_)
  have er : (l.map D.int).reverse = l.reverse.map D.int := by rw [List.map_reverse]
  rw [er]
  exact go_cons (g1_retDrw c.toCtx 1 (ns := l.reverse) rfl)
end OB
set_option Elab.async false
set_option linter.all false
set_option maxRecDepth 100000
set_option maxHeartbeats 4000000
namespace OB
open PySem PySem.Spec PyProof.Rows L2
/-! ### looks at values -/
def whB : D → Bool
  | .int _ => true
  | _ => false
def isIntB : D → Bool
  | .int _ => true
  | .bl _ => true
  | _ => false
def isBlB : D → Bool
  | .bl _ => true
  | _ => false
def sevB : D → Bool
  | .lst _ => true
  | .tup _ => true
  | .tpk _ => true
  | _ => false
def isLstB : D → Bool
  | .lst _ => true
  | _ => false
def isTupB : D → Bool
  | .tup _ => true
  | .tpk _ => true
  | _ => false
def tpkB : D → Bool
  | .tpk _ => true
  | _ => false
def okT (d : D) : Prop := ((tyN d).isSome && !tpkB d) = true
theorem okT_get {d : D} (h : okT d) : ∃ t, tyN d = some t := Option.isSome_iff_exists.mp (Bool.and_eq_true_iff.mp h).1
theorem kit_int {d : D} {t : String} (h : tyN d = some t) : kitB t "int" = some (isIntB d) := by cases d <;> first | (cases h; rfl) | (cases h)
theorem kit_bool {d : D} {t : String} (h : tyN d = some t) : kitB t "bool" = some (isBlB d) := by cases d <;> first | (cases h; rfl) | (cases h)
theorem kit_list {d : D} {t : String} (h : tyN d = some t) : kitB t "list" = some (isLstB d) := by cases d <;> first | (cases h; rfl) | (cases h)
theorem kit_tuple {d : D} {t : String} (h : tyN d = some t) : kitB t "tuple" = some (isTupB d) := by cases d <;> first | (cases h; rfl) | (cases h)
def thB (n : Int) : D → Bool
  | .int i => decide (0 ≤ i) && decide (i < n)
  | _ => false
def seqD : D → Option (List D)
  | .lst l => some l
  | .tup l => some l
  | _ => none
/-- the two things of a pair -/
def pairOf (n : Int) (d : D) : Option (Int × Int) := match seqD d with
  | some [.int i, .int j] => if thB n (.int i) && thB n (.int j) && !decide (i = j) then some (i, j) else none
  | _ => none
theorem pairOf_some {n : Int} {d : D} {i j : Int} (h : pairOf n d = some (i, j)) : (d = .lst [.int i, .int j] ∨ d = .tup [.int i, .int j]) ∧ 0 ≤ i ∧ i < n ∧ 0 ≤ j ∧ j < n ∧ i ≠ j := by
  unfold pairOf at h
  split at h
  · rename_i i' j' e
    split at h
    · rename_i hc
      cases h
      refine ⟨?_, ?_⟩
      · cases d <;> simp [seqD] at e
        · exact .inl (by rw [e])
        · exact .inr (by rw [e])
      · simp [thB] at hc
        omega
    · cases h
  · cases h
section
variable {X : Cx} {N : List PySem.Str} {S scope : Scope} {B0 H0 : Hp} {sds : List SD} {os : List (Addr × OV)} {E : DE} {P : D → Prop} {pos p p1 p2 : Pos} {k : Nat} {a b e : Expr}
/-- a module's int -/
theorem ex_glI (c : Ctx X N S) {x : PySem.Str} {i : Int} (hm : ∃ t, X.mg x = some (.int i t)) (hp : P (.int i)) (hg : glB S x = true := by decide +kernel) (hd : (x == ("__debug__" : PySem.Str)) = false := by decide +kernel) : EX X B0 H0 sds os (.Name x pos) P := fun B H σ s Q q => by
  obtain ⟨t, hm⟩ := hm
  exact PE.to (pe_glob (v := .int i) (c.gl hg) hm ⟨t, rfl⟩ hd) (q _ B H _ (Grow.refl s.g.bh) (.int i) hp)
theorem ex_min1 (c : Ctx X N S) (hr : Room k X.A) (hm : X.mg "min" = none) (h : EX X B0 H0 sds os e fun d => ∃ i j : Int, d = .tup [.int i, .int j] ∧ P (.int (if j < i then j else i))) (hg : glB S "min" = true := by decide +kernel) (he : starEach [e] X.env = [(false, eval e X.env)] := by rfl) : EX X B0 H0 sds os (.Call (.Name "min" p) [e] [] pos) P :=
  ex_callB c (cr_minT c.calm hr) hm (ea_cons (h.imp fun d ⟨i, j, hn, hp⟩ => ea_nil fun B H vs eb iv Q q => by
    obtain ⟨v, rfl, jj⟩ := call1 iv
    subst hn
    cases jj with
    | tup hs ha =>
      have e2 := ints_of (bs := [i, j]) ha
      subst e2
      exact ⟨_, i, j, rfl, SqT.of (eb _ _ hs), q _ B H _ (Grow.refl eb) (.int _) hp⟩) he) hg (by decide +kernel) (by decide +kernel) (by decide +kernel) he rfl
theorem ex_max1 (c : Ctx X N S) (hr : Room k X.A) (hm : X.mg "max" = none) (h : EX X B0 H0 sds os e fun d => ∃ i j : Int, d = .tup [.int i, .int j] ∧ P (.int (if i < j then j else i))) (hg : glB S "max" = true := by decide +kernel) (he : starEach [e] X.env = [(false, eval e X.env)] := by rfl) : EX X B0 H0 sds os (.Call (.Name "max" p) [e] [] pos) P :=
  ex_callB c (cr_maxT c.calm hr) hm (ea_cons (h.imp fun d ⟨i, j, hn, hp⟩ => ea_nil fun B H vs eb iv Q q => by
    obtain ⟨v, rfl, jj⟩ := call1 iv
    subst hn
    cases jj with
    | tup hs ha =>
      have e2 := ints_of (bs := [i, j]) ha
      subst e2
      exact ⟨_, i, j, rfl, SqT.of (eb _ _ hs), q _ B H _ (Grow.refl eb) (.int _) hp⟩) he) hg (by decide +kernel) (by decide +kernel) (by decide +kernel) he rfl
end
/-! ### the package's looks -/
def spWhole : SpD := fun ds P _ => ∃ d, ds = [d] ∧ okT d ∧ P (.bl (whB d))
abbrev N9 : List PySem.Str := ["value"]
theorem body_is_whole {X : Cx} (c : CtxT X N9 (defScope (top 9))) (bi : Bi X.mg) : BodyOk X N9 spWhole (defBody (top 9)) := by
  intro ds P R h B0 H0 air
  obtain ⟨d, rfl, ok, hp⟩ := h
  obtain ⟨t, ht⟩ := okT_get ok
  refine go_cons (g1_ret (ex_andV (k1 := isIntB d) (k2 := !isBlB d) (ex_isi c.toCtx bi.isinstance bi.int (ex_var c.toCtx 0 ⟨t, _, ht, kit_int ht, rfl⟩)) (fun _ => ex_one (ex_not (ex_isi c.toCtx bi.isinstance bi.bool (ex_var c.toCtx 0 ⟨t, _, ht, kit_bool ht, _, rfl, rfl⟩)))) ?_))
  have e : (isIntB d && !isBlB d) = whB d := by cases d <;> rfl
  rw [e]; exact hp
def spThing : SpD := fun ds P _ => ∃ (n : Int) (d : D), ds = [.int n, d] ∧ okT d ∧ P (.bl (thB n d))
abbrev N10 : List PySem.Str := ["size", "value"]
theorem body_is_thing {X : Cx} (c : CtxT X N10 (defScope (top 10))) {k : Nat} (hr : Room k X.A) (fWhole : FnD X.prog X.w X.K X.mg X.base "is_whole" k spWhole) : BodyOk X N10 spThing (defBody (top 10)) := by
  intro ds P R h B0 H0 air
  obtain ⟨n, d, rfl, ok, hp⟩ := h
  refine go_cons (g1_ret (ex_andV (k1 := whB d) (k2 := thB n d) (ex_call c.toCtx fWhole hr (ea_cons (ex_var c.toCtx 1 (ea_nil ⟨d, rfl, ok, rfl⟩)))) (fun hw => ?_) ?_))
  · cases d with
    | int i => exact ex_one (ex_chainI op_le op_lt (ex_int ⟨_, rfl, ex_var c.toCtx 1 ⟨i, rfl, fun h0 => ex_var c.toCtx 0 ⟨n, rfl, by simp [thB]; exact fun _ => of_decide_eq_true h0⟩, fun h0 => by simp [thB, h0]⟩⟩))
    | _ => cases hw
  · have e : (whB d && thB n d) = thB n d := by cases d <;> rfl
    rw [e]; exact hp
def spSev : SpD := fun ds P _ => ∃ d, ds = [d] ∧ okT d ∧ P (.bl (sevB d))
theorem body_is_several {X : Cx} (c : CtxT X N9 (defScope (top 11))) (bi : Bi X.mg) : BodyOk X N9 spSev (defBody (top 11)) := by
  intro ds P R h B0 H0 air
  obtain ⟨d, rfl, ok, hp⟩ := h
  obtain ⟨t, ht⟩ := okT_get ok
  refine go_cons (g1_ret (ex_isi2 (tn := "list") (un := "tuple") c.toCtx bi.isinstance bi.list bi.tuple (ex_var c.toCtx 0 ⟨t, sevB d, ht, ?_, hp⟩)))
  rw [kit_list ht, kit_tuple ht]
  cases d <;> first | exact .inl ⟨rfl, rfl⟩ | exact .inr ⟨rfl, rfl⟩
def okP (d : D) : Prop := okT d ∧ ∀ l, seqD d = some l → ∀ x ∈ l, okT x
def spIsPair : SpD := fun ds P _ => ∃ (n : Int) (d : D), ds = [.int n, d] ∧ okP d ∧ P (.bl (pairOf n d).isSome)
theorem len_seq {d : D} {l : List D} (h : seqD d = some l) : LenD d l.length := by cases d <;> simp [seqD] at h <;> subst h <;> rfl
theorem ix_seqD {d : D} {l : List D} {j : Nat} {x : D} {P : D → Prop} (h : seqD d = some l) (hj : l[j]? = some x) (p : P x) : IxD d (j : Int) P := by
  cases d <;> simp [seqD] at h <;> subst h <;> exact ⟨j, x, rfl, hj, p⟩
theorem eqd_int (i j : Int) : eqd (.int i) (.int j) = decide (i = j) := by
  simp only [eqd, py, PyData.eqv]
  exact Bool.eq_iff_iff.mpr (by simp)
theorem body_is_pair {X : Cx} (c : CtxT X N10 (defScope (top 12))) (bi : Bi X.mg) {k : Nat} (hr : Room k X.A) (fSev : FnD X.prog X.w X.K X.mg X.base "is_several" k spSev) (fThing : FnD X.prog X.w X.K X.mg X.base "is_thing" k spThing) : BodyOk X N10 spIsPair (defBody (top 12)) := by
  intro ds P R h B0 H0 air
  obtain ⟨n, d, rfl, ⟨ok, okl⟩, hp⟩ := h
  cases hs : seqD d with
  | none =>
    have es : sevB d = false := by cases d <;> first | rfl | (cases hs; done) | exact absurd ok (by simp [okT, tyN, tpkB])
    refine go_cons (g1_if (tx_w (wx_or (k1 := true) (k2 := true) (tx_not (tx_val (ex_call c.toCtx fSev hr (ea_cons (ex_var c.toCtx 1 (ea_nil ⟨d, rfl, ok, _, rfl, by rw [es]; rfl⟩)))))) (fun z => by cases z) ⟨fun _ => ?_, fun z => by cases z⟩)))
    refine go_cons (g1_ret (ex_bl ?_))
    have e : pairOf n d = none := by unfold pairOf; rw [hs]
    rw [e] at hp; exact hp
  | some l =>
    have es : sevB d = true := by cases d <;> first | rfl | cases hs
    refine go_cons (g1_if (tx_w (wx_or (k1 := false) (k2 := !decide (l.length = 2)) (tx_not (tx_val (ex_call c.toCtx fSev hr (ea_cons (ex_var c.toCtx 1 (ea_nil ⟨d, rfl, ok, _, rfl, by rw [es]; rfl⟩)))))) (fun _ => tx_or1 (tx_neI (ex_len c.toCtx bi.len (ex_var c.toCtx 1 ⟨_, len_seq hs, _, rfl, ex_int ⟨_, rfl, ?_⟩⟩)))) ⟨fun hl => ?_, fun hl => ?_⟩)))
    · congr 1; exact decide_eq_decide.mpr (by omega)
    · refine go_cons (g1_ret (ex_bl ?_))
      have hl' : l.length ≠ 2 := by simpa using hl
      have e : pairOf n d = none := by
        unfold pairOf; rw [hs]
        split
        · rename_i e; cases e; exact absurd rfl hl'
        · rfl
      rw [e] at hp; exact hp
    · have hl' : l.length = 2 := by simpa using hl
      match l, hl' with
      | [x, y], _ =>
        have ox := okl _ hs x (by simp)
        have oy := okl _ hs y (by simp)
        have e : (pairOf n d).isSome = (thB n x && (thB n y && !eqd x y)) := by
          unfold pairOf
          rw [hs]
          cases x <;> cases y <;> try rfl
          all_goals first | (simp [thB]; done) | skip
          rw [eqd_int]
          show Option.isSome (if _ then _ else _) = _
          split
          · rename_i hc; simp at hc ⊢; exact ⟨hc.1.1, hc.1.2, hc.2⟩
          · rename_i hc; simp at hc ⊢; exact hc
        rw [e] at hp
        refine go_nil (go_cons (g1_ret (ex_andV (k1 := thB n x) (k2 := thB n y && !eqd x y) (ex_call c.toCtx fThing hr (ea_cons (ex_var c.toCtx 0 (ea_cons (ex_ix (ex_var c.toCtx 1 (ex_int ⟨0, rfl, ix_seqD (j := 0) hs rfl (ea_nil ⟨n, x, rfl, ox, rfl⟩)⟩)))))) ) (fun hx => ?_) hp)))
        refine ex_andV (k1 := thB n y) (k2 := !eqd x y) (ex_call c.toCtx fThing hr (ea_cons (ex_var c.toCtx 0 (ea_cons (ex_ix (ex_var c.toCtx 1 (ex_int ⟨1, rfl, ix_seqD (j := 1) hs rfl (ea_nil ⟨n, y, rfl, oy, rfl⟩)⟩)))))) ) (fun hy => ?_) rfl
        cases x with
        | int i =>
          cases y with
          | int j =>
            rw [eqd_int]
            exact ex_one (ex_neI (ex_ix (ex_var c.toCtx 1 (ex_int ⟨0, rfl, ix_seqD (j := 0) hs rfl ⟨i, rfl, ex_ix (ex_var c.toCtx 1 (ex_int ⟨1, rfl, ix_seqD (j := 1) hs rfl ⟨j, rfl, rfl⟩⟩))⟩⟩))))
          | _ => cases hy
        | _ => cases hx
end OB
set_option Elab.async false
set_option linter.all false
set_option maxRecDepth 100000
set_option maxHeartbeats 4000000
namespace OB
open PySem PySem.Spec PyProof.Rows L2
/-! ### masks -/
def maskl (n : Nat) (f : Nat → Nat → Bool) : List D := (List.range n).map fun a => D.int ((mskN n (f a) : Nat) : Int)
theorem maskl_len (n : Nat) (f : Nat → Nat → Bool) : (maskl n f).length = n := by simp [maskl]
theorem maskl_get {n u : Nat} {f : Nat → Nat → Bool} (h : u < n) : (maskl n f)[u]? = some (.int ((mskN n (f u) : Nat) : Int)) := by simp [maskl, h]
theorem maskl_congr {n : Nat} {f g : Nat → Nat → Bool} (h : ∀ a b, a < n → b < n → f a b = g a b) : maskl n f = maskl n g := by
  unfold maskl
  refine List.map_congr_left fun a ha => ?_
  rw [mskN_congr fun b hb => h a b (List.mem_range.mp ha) hb]
theorem maskl_set {n u v : Nat} {f : Nat → Nat → Bool} (hu : u < n) (hv : v < n) : (maskl n f).set u (.int ((mskN n (f u) ||| 2 ^ v : Nat) : Int)) = maskl n (updM f u v true) := by
  apply List.ext_getElem?
  intro i
  by_cases hi : i < n
  · by_cases e : u = i
    · subst e
      rw [List.getElem?_set_self (by rw [maskl_len]; exact hu), maskl_get hu, mskN_or1 hv]
      congr 4
      funext b
      simp [updM]
    · rw [List.getElem?_set_ne e, maskl_get hi, maskl_get hi]
      congr 4
      funext b
      simp [updM, Ne.symm e]
  · rw [List.getElem?_eq_none (by rw [List.length_set, maskl_len]; omega), List.getElem?_eq_none (by rw [maskl_len]; omega)]
theorem maskl_zero (n : Nat) : List.replicate n (D.int 0) = maskl n fun _ _ => false := by
  apply List.ext_getElem?
  intro i
  by_cases hi : i < n
  · rw [List.getElem?_replicate, if_pos hi, maskl_get hi, mskN_zero]; rfl
  · rw [List.getElem?_eq_none (by simp; omega), List.getElem?_eq_none (by rw [maskl_len]; omega)]
def natD (i : Nat) : D := .int (i : Int)
def spLeast : SpD := fun ds P _ => ∃ m : Nat, ds = [.int (m : Int)] ∧ 0 < m ∧ ∀ l, m.testBit l = true → (∀ i, i < l → m.testBit i = false) → P (.int (l : Int))
abbrev N21 : List PySem.Str := ["mask"]
theorem body_least_in {X : Cx} (c : CtxT X N21 (defScope (top 21))) : BodyOk X N21 spLeast (defBody (top 21)) := by
  intro ds P R h B0 H0 air
  obtain ⟨m, rfl, hm, hp⟩ := h
  obtain ⟨l, h1, h2, h3, h4⟩ := low_bit m hm
  refine go_cons (g1_ret (ex_subI (ex_bits (ex_andI (ex_var c.toCtx 0 ⟨(m : Int), rfl, ex_neg (ex_var c.toCtx 0 ⟨(m : Int), rfl, _, rfl, _, rfl, _, rfl, ex_int ⟨_, rfl, ?_⟩⟩)⟩)))))
  have e : Builtin.bitAnd (m : Int) (-(m : Int)) = ((2 ^ l : Nat) : Int) := by
    have e1 : (-(m : Int)) = -((m - 1 + 1 : Nat) : Int) := by omega
    rw [e1, band_neg, andNot_sub, h4]
  rw [e, bits_two]
  have e2 : ((l + 1 : Nat) : Int) - 1 = (l : Int) := by omega
  rw [e2]
  exact hp l h1 h2
def spThings : SpD := fun ds P _ => ∃ n m : Nat, ds = [.int (m : Int)] ∧ m < 2 ^ n ∧ n ≤ 1000 ∧ P (.tup ((bitsOf n m).map natD))
abbrev N20 : List PySem.Str := ["mask", "things", "left"]
theorem body_things_in {X : Cx} (c : CtxT X N20 (defScope (top 20))) (bi : Bi X.mg) {k : Nat} (hr : Room k X.A) (fLeast : FnD X.prog X.w X.K X.mg X.base "least_in" k spLeast) : BodyOk X N20 spThings (defBody (top 20)) := by
  intro ds P R h B0 H0 air
  obtain ⟨n, m, rfl, hm, hn, hp⟩ := h
  refine go_cons (g1_asgO c.toCtxD 1 (el_lst (ea_nil ⟨by decide, fun p => ?_⟩)))
  refine go_cons (g1_asg c.toCtxD 2 (ex_var c.toCtx 0 ?_))
  refine go_cut (fun sds os => sds = [.d (.int (m : Int)), .v (.ref p), .d (.int 0)] ∧ os = [(p, .lst ((bitsOf n m).map natD))]) (g1_while c.own (fun x sds os => ∃ l : List Nat, sds = [.d (.int (m : Int)), .v (.ref p), .d (.int (x : Int))] ∧ os = [(p, .lst (l.map natD))] ∧ x < 2 ^ n ∧ l ++ bitsOf n x = bitsOf n m) m ⟨[], rfl, rfl, hm, rfl⟩ ?_) ?_
  · rintro x sds os ⟨l, rfl, rfl, hx, hl⟩
    refine tx_tru (ex_var (d := .int (x : Int)) c.toCtx 2 ⟨_, rfl, fun h1 => ?_, fun h1 => ?_⟩)
    · have hx0 : 0 < x := by
        have : (x : Int) ≠ 0 := by simpa using h1
        omega
      obtain ⟨j, b1, b2, b3, b4⟩ := low_bit x hx0
      obtain ⟨b5, b6⟩ := bitsOf_low hx b1 b2
      have hlen : l.length ≤ n := by
        have e1 : (l ++ bitsOf n x).length ≤ n := by rw [hl]; exact Nat.le_trans (List.length_filter_le _ _) (by simp)
        rw [List.length_append] at e1; omega
      refine go_cons (g1_append c.toCtx 1 0 (ex_call c.toCtx fLeast hr (ea_cons (ex_var c.toCtx 2 (ea_nil ⟨x, rfl, hx0, fun j' c1 c2 => ?_⟩)))))
      have ej : j' = j := by
        rcases Nat.lt_trichotomy j' j with h | h | h
        · rw [b2 j' h] at c1; cases c1
        · exact h
        · rw [c2 j h] at b1; cases b1
      subst ej
      refine ⟨by rw [List.length_map]; omega, ?_⟩
      refine go_cons (g1_asg c.toCtxD 2 (ex_andI (ex_var c.toCtx 2 ⟨(x : Int), rfl, ex_subI (ex_var c.toCtx 2 ⟨(x : Int), rfl, ex_int ⟨1, rfl, _, rfl, ?_⟩⟩)⟩)))
      have e1 : ((x : Int) - 1) = ((x - 1 : Nat) : Int) := by omega
      rw [e1, band_nat, b3]
      refine go_nil ⟨andNot x (2 ^ j'), andNot_lt b1, l ++ [j'], rfl, by simp [natD], Nat.lt_trans (andNot_lt b1) hx, ?_⟩
      rw [List.append_assoc, ← hl, b5]; rfl
    · have hx0 : x = 0 := by
        have : (x : Int) = 0 := by simpa using h1
        omega
      subst hx0
      rw [bitsOf_zero, List.append_nil] at hl
      exact ⟨rfl, by rw [hl]⟩
  · rintro sds os ⟨rfl, rfl⟩
    refine go_freeze 1 0 ?_
    exact go_cons (g1_ret (ex_tupleOf c.toCtx bi.tuple (ex_var c.toCtx 1 ⟨_, .inl rfl, hp⟩)))
def spHas : SpD := fun ds P _ => ∃ m j : Nat, ds = [.int (m : Int), .int (j : Int)] ∧ P (.bl (m.testBit j))
abbrev N22 : List PySem.Str := ["mask", "thing"]
theorem body_has_thing {X : Cx} (c : CtxT X N22 (defScope (top 22))) : BodyOk X N22 spHas (defBody (top 22)) := by
  intro ds P R h B0 H0 air
  obtain ⟨m, j, rfl, hp⟩ := h
  refine go_cons (g1_ret (ex_eqI (ex_andI (ex_shr (ex_var c.toCtx 0 ⟨(m : Int), rfl, ex_var c.toCtx 1 ⟨(j : Int), rfl, by omega, _, rfl, ex_int ⟨1, rfl, _, rfl, ex_int ⟨1, rfl, ?_⟩⟩⟩⟩)))))
  rw [shr_nat, bit_nat]
  exact hp
def spMasks : SpD := fun ds P _ => ∃ (n : Nat) (l : List (Nat × Nat)), ds = [.int (n : Int), .tup (l.map prn)] ∧ n ≤ 1000 ∧ (∀ p ∈ l, p.1 < n ∧ p.2 < n) ∧ ∀ f : Nat → Nat → Bool, (∀ a b, f a b = true ↔ (a, b) ∈ l) → P (.tup (maskl n f))
abbrev N23 : List PySem.Str := ["size", "pairs", "masks", "first", "second"]
theorem body_masks_of_pairs {X : Cx} (c : CtxT X N23 (defScope (top 23))) (bi : Bi X.mg) : BodyOk X N23 spMasks (defBody (top 23)) := by
  intro ds P R h B0 H0 air
  obtain ⟨n, l, rfl, hn, hl, hp⟩ := h
  refine go_cons (g1_asgO c.toCtxD 2 (el_rep (ex_ofL (el_lst (ea_cons (ex_int (ea_nil ⟨le1, _, rfl, ex_var c.toCtx 0 ⟨n, rfl, by omega, fun p => ?_⟩⟩)))))))
  rw [maskl_zero]
  let I : LoopI := fun k sds os => ∃ (f : Nat → Nat → Bool) (x y : SD), (∀ a b, f a b = true ↔ (a, b) ∈ l.take k) ∧ sds = [.d (.int (n : Int)), .d (.tup (l.map prn)), .v (.ref p), x, y] ∧ os = [(p, .lst (maskl n f))]
  refine go_cut (I l.length) (g1_for (t := .tp [3, 4]) c.own c.calm (tg_tp c.toCtxD (tgs_cons c.toCtxD 3 (tgs_cons c.toCtxD 4 tgs_nil))) (ix_tup (ex_var c.toCtx 1 ⟨_, rfl, forOk_map I ⟨_, _, _, fun a b => by simp, rfl, rfl⟩ ?_ fun _ _ h => h⟩))) ?_
  · rintro k ⟨a, b⟩ sds os hk ⟨f, x, y, hf, rfl, rfl⟩
    have hm := hl _ (List.mem_of_getElem? hk)
    refine ⟨_, rfl, rfl, ?_⟩
    refine go_cons (g1_setO c.toCtx 2 0 (ex_orI (ex_borrow 2 0 (ex_ix (ex_var c.toCtx 2 (ex_var c.toCtx 3 ⟨(a : Int), rfl, ixL a (maskl_get hm.1) ⟨rfl, _, rfl, ex_shl (ex_int ⟨1, rfl, ex_var c.toCtx 4 ⟨(b : Int), rfl, cshl b (by omega), _, rfl, ?_⟩⟩)⟩⟩))))))
    rw [shl_nat, bor_nat]
    refine ex_var c.toCtx 3 ⟨a, rfl, by rw [maskl_len]; exact hm.1, ?_⟩
    rw [maskl_set hm.1 hm.2]
    refine go_nil ⟨_, _, _, fun a' b' => ?_, rfl, rfl⟩
    rw [show l.take (k + 1) = l.take k ++ [(a, b)] by rw [List.take_succ, hk]; rfl]
    unfold updM
    by_cases e : a' = a ∧ b' = b
    · rw [if_pos e]; simp [e.1, e.2]
    · rw [if_neg e, hf]
      simp
      exact fun h1 h2 => absurd ⟨h1, h2⟩ e
  · rintro sds os ⟨f, x, y, hf, rfl, rfl⟩
    rw [List.take_length] at hf
    refine go_freeze 2 0 ?_
    exact go_cons (g1_ret (ex_tupleOf c.toCtx bi.tuple (ex_var c.toCtx 2 ⟨_, .inl rfl, hp f hf⟩)))
end OB
set_option Elab.async false
set_option linter.all false
set_option maxRecDepth 100000
set_option maxHeartbeats 4000000
namespace OB
open PySem PySem.Spec PyProof.Rows L2
/-! ### the package's pairs -/
def spPairOf (C : Addr) : SpD := fun ds P R => ∃ (n : Int) (d : D), ds = [.int n, d] ∧ okP d ∧ (∀ i j, pairOf n d = some (i, j) → P (pr (i, j))) ∧ (pairOf n d = none → R C [("place", .int 0)])
abbrev N14 : List PySem.Str := ["size", "pair"]
theorem body_pair_of {X : Cx} (c : CtxT X N14 (defScope (top 14))) {C : Addr} {k : Nat} (hr : Room (k + 1) X.A) (fIs : FnD X.prog X.w X.K X.mg X.base "is_pair" k spIsPair) (xc : ExcD X.prog X.w X.K X.mg X.base "BadPair" C k ["place"]) : BodyOk X N14 (spPairOf C) (defBody (top 14)) := by
  intro ds P R h B0 H0 air
  obtain ⟨n, d, rfl, ok, h1, h2⟩ := h
  refine go_cons (g1_if (tx_not (tx_val (ex_call c.toCtx fIs (hr.mono (by omega)) (ea_cons (ex_var c.toCtx 0 (ea_cons (ex_var c.toCtx 1 (ea_nil ⟨n, d, rfl, ok, _, rfl, fun hc => ?_, fun hc => ?_⟩)))))))))
  · have e : pairOf n d = none := by simpa using hc
    exact go_cons (g1_raise c.toCtx xc hr air (ea_cons (ex_int (ea_nil ⟨rfl, by decide, h2 e⟩))))
  · have e : (pairOf n d).isSome = true := by simpa using hc
    obtain ⟨⟨i, j⟩, e⟩ := Option.isSome_iff_exists.mp e
    obtain ⟨hd, _⟩ := pairOf_some e
    have hs : seqD d = some [.int i, .int j] := by rcases hd with rfl | rfl <;> rfl
    exact go_nil (go_cons (g1_ret (ex_tup (ea_cons (ex_ix (ex_var c.toCtx 1 (ex_int ⟨0, rfl, ix_seqD (j := 0) hs rfl (ea_cons (ex_ix (ex_var c.toCtx 1 (ex_int ⟨1, rfl, ix_seqD (j := 1) hs rfl (ea_nil ⟨le2, h1 i j e⟩)⟩))))⟩)))))))
/-- good: no two things together in two of them -/
structure GoodP (n : Nat) (l : List (Nat × Nat)) : Prop where
  th : ∀ p ∈ l, p.1 < n ∧ p.2 < n ∧ p.1 ≠ p.2
  un : ∀ (i j : Nat) (p q : Nat × Nat), i < j → l[i]? = some p → l[j]? = some q → ¬ (p = q) ∧ ¬ (p.1 = q.2 ∧ p.2 = q.1)
theorem okP_prn (p : Nat × Nat) : okP (prn p) := ⟨rfl, fun l h x hx => by
  cases h
  simp at hx
  rcases hx with rfl | rfl <;> rfl⟩
theorem pairOf_prn {n : Nat} {p : Nat × Nat} (h : p.1 < n ∧ p.2 < n ∧ p.1 ≠ p.2) : pairOf (n : Int) (prn p) = some ((p.1 : Int), (p.2 : Int)) := by
  show (if _ then _ else _) = _
  rw [if_pos]
  simp [thB]
  omega
def spPairs : SpD := fun ds P _ => ∃ (n : Nat) (l : List (Nat × Nat)), ds = [.int (n : Int), .lst (l.map prn)] ∧ n ≤ 1000 ∧ l.length ≤ 50000 ∧ GoodP n l ∧ P (.lst (l.map prn))
abbrev N16 : List PySem.Str := ["size", "pairs", "met", "found", "place", "pair", "first", "second"]
theorem body_pairs_of {X : Cx} (c : CtxT X N16 (defScope (top 16))) (bi : Bi X.mg) {k : Nat} (hr : Room k X.A) (fSev : FnD X.prog X.w X.K X.mg X.base "is_several" k spSev) (fIs : FnD X.prog X.w X.K X.mg X.base "is_pair" k spIsPair) : BodyOk X N16 spPairs (defBody (top 16)) := by
  intro ds P R h B0 H0 air
  obtain ⟨n, l, rfl, hn, hll, hg, hp⟩ := h
  refine go_cons (g1_if (tx_not (tx_val (ex_call c.toCtx fSev hr (ea_cons (ex_var c.toCtx 1 (ea_nil ⟨.lst (l.map prn), rfl, rfl, _, rfl, fun hc => (by cases hc), fun _ => ?_⟩)))))))
  refine go_nil (go_cons (g1_asgO c.toCtxD 2 (el_rep (ex_ofL (el_lst (ea_cons (ex_int (ea_nil ⟨le1, _, rfl, ex_var c.toCtx 0 ⟨n, rfl, by omega, fun pm => ?_⟩⟩))))))))
  rw [maskl_zero]
  refine go_cons (g1_asgO c.toCtxD 3 (el_lst (ea_nil ⟨le0, fun pf => ?_⟩)))
  let I : LoopI := fun k sds os => ∃ (f : Nat → Nat → Bool) (x y z w : SD), (∀ a b, f a b = true → (a, b) ∈ l.take k ∨ (b, a) ∈ l.take k) ∧ sds = [.d (.int (n : Int)), .d (.lst (l.map prn)), .v (.ref pm), .v (.ref pf), x, y, z, w] ∧ os = [(pf, .lst ((l.take k).map prn)), (pm, .lst (maskl n f))]
  refine go_cut (I l.length) (g1_for (t := .tp [4, 5]) c.own c.calm (tg_tp c.toCtxD (tgs_cons c.toCtxD 4 (tgs_cons c.toCtxD 5 tgs_nil))) (ix_enum c.toCtx bi.enumerate (ex_var c.toCtx 1 ⟨_, rfl, ?_⟩))) ?_
  · refine ⟨I, ⟨fun _ _ => false, _, _, _, _, fun a b h => (nomatch h), rfl, by simp⟩, ?_, fun s o h => by rwa [enumD_len, List.length_map] at h⟩
    rintro k u sds os hu ⟨f, x, y, z, w, hf, rfl, rfl⟩
    have hk : k < l.length := by
      have := (List.getElem?_eq_some_iff.mp hu).1
      rwa [enumD_len, List.length_map] at this
    have hq : l[k]? = some l[k] := List.getElem?_eq_getElem hk
    generalize hab : l[k] = q at hq
    obtain ⟨a, b⟩ := q
    rw [enumD_get (d := prn (a, b)) (by rw [List.getElem?_map, hq]; rfl)] at hu
    cases hu
    refine ⟨_, rfl, rfl, ?_⟩
    have hm := hg.th _ (List.mem_of_getElem? hq)
    have new : f a b = false := by
      cases e : f a b with
      | false => rfl
      | true =>
        rcases hf a b e with h | h
        · obtain ⟨i, hi, ei⟩ := List.mem_iff_getElem.mp h
          rw [List.length_take] at hi
          have e2 : l[i]? = some (a, b) := by rw [← ei, List.getElem_take]; exact List.getElem?_eq_getElem (by omega)
          exact absurd rfl (hg.un i k _ _ (by omega) e2 hq).1
        · obtain ⟨i, hi, ei⟩ := List.mem_iff_getElem.mp h
          rw [List.length_take] at hi
          have e2 : l[i]? = some (b, a) := by rw [← ei, List.getElem_take]; exact List.getElem?_eq_getElem (by omega)
          exact absurd ⟨rfl, rfl⟩ (hg.un i k _ _ (by omega) e2 hq).2
    refine go_cons (g1_if (tx_w (wx_or (k1 := false) (k2 := false) ?_ (fun _ => ?_) ⟨fun z => (by cases z), fun _ => go_nil ?_⟩)))
    · exact tx_not (tx_val (ex_call c.toCtx fIs hr (ea_cons (ex_var c.toCtx 0 (ea_cons (ex_var c.toCtx 5 (ea_nil ⟨_, _, rfl, okP_prn (a, b), _, rfl, by rw [pairOf_prn hm]; rfl⟩)))))))
    · refine tx_or1 (tx_eqI (ex_andI (ex_shr (ex_borrow 2 1 (ex_ix (ex_var c.toCtx 2 (ex_ix (ex_var c.toCtx 5 (ex_int ⟨0, rfl, ixT 0 rfl ⟨(a : Int), rfl, ixL a (maskl_get hm.1) ⟨rfl, _, rfl, ex_ix (ex_var c.toCtx 5 (ex_int ⟨1, rfl, ixT 1 rfl ⟨(b : Int), rfl, by omega, _, rfl, ex_int ⟨1, rfl, _, rfl, ex_int ⟨1, rfl, ?_⟩⟩⟩⟩))⟩⟩⟩)))))))))
      rw [shr_nat, bit_nat, mskN_bit, new]; simp
    refine go_cons (g1_asg2 c.toCtxD 6 7 (ex_var c.toCtx 5 ⟨_, _, rfl, ?_⟩))
    refine go_cons (g1_setO c.toCtx 2 1 (ex_orI (ex_borrow 2 1 (ex_ix (ex_var c.toCtx 2 (ex_var c.toCtx 6 ⟨(a : Int), rfl, ixL a (maskl_get hm.1) ⟨rfl, _, rfl, ex_shl (ex_int ⟨1, rfl, ex_var c.toCtx 7 ⟨(b : Int), rfl, cshl b (by omega), _, rfl, ?_⟩⟩)⟩⟩))))))
    rw [shl_nat, bor_nat]
    refine ex_var c.toCtx 6 ⟨a, rfl, by rw [maskl_len]; exact hm.1, ?_⟩
    rw [maskl_set hm.1 hm.2.1]
    refine go_cons (g1_setO c.toCtx 2 1 (ex_orI (ex_borrow 2 1 (ex_ix (ex_var c.toCtx 2 (ex_var c.toCtx 7 ⟨(b : Int), rfl, ixL b (maskl_get hm.2.1) ⟨rfl, _, rfl, ex_shl (ex_int ⟨1, rfl, ex_var c.toCtx 6 ⟨(a : Int), rfl, cshl a (by omega), _, rfl, ?_⟩⟩)⟩⟩))))))
    rw [shl_nat, bor_nat]
    refine ex_var c.toCtx 7 ⟨b, rfl, by rw [maskl_len]; exact hm.2.1, ?_⟩
    rw [maskl_set hm.2.1 hm.1]
    refine go_cons (g1_append c.toCtx 3 0 (ex_tup (ea_cons (ex_var c.toCtx 6 (ea_cons (ex_var c.toCtx 7 (ea_nil ⟨le2, ?_, ?_⟩)))))))
    · rw [List.length_map, List.length_take]; omega
    have et : l.take (k + 1) = l.take k ++ [(a, b)] := by rw [List.take_succ, hq]; rfl
    refine go_nil ⟨updM (updM f a b true) b a true, _, _, _, _, fun a' b' h => ?_, rfl, by rw [et]; simp [prn]⟩
    rw [et]
    unfold updM at h
    split at h
    · rename_i e; rw [e.1, e.2]; exact .inr (by simp)
    · split at h
      · rename_i e; rw [e.1, e.2]; exact .inl (by simp)
      · rcases hf _ _ h with h | h
        · exact .inl (List.mem_append_left _ h)
        · exact .inr (List.mem_append_left _ h)
  · rintro sds os ⟨f, x, y, z, w, hf, rfl, rfl⟩
    rw [List.take_length]
    refine go_freeze 3 0 ?_
    exact go_cons (g1_ret (ex_var c.toCtx 3 hp))
end OB
set_option Elab.async false
set_option linter.all false
set_option maxRecDepth 100000
set_option maxHeartbeats 4000000
namespace OB
open PySem PySem.Spec PyProof.Rows L2
/-! ### ties of a web -/
def cp (p : Nat × Nat) : Int × Int := ((p.1 : Int), (p.2 : Int))
theorem prn_cp (p : Nat × Nat) : prn p = pr (cp p) := rfl
theorem map_prn (l : List (Nat × Nat)) : l.map prn = (l.map cp).map pr := by rw [List.map_map]; rfl
theorem cp_inj {p q : Nat × Nat} (h : cp p = cp q) : p = q := by
  have h1 := congrArg Prod.fst h
  have h2 := congrArg Prod.snd h
  simp [cp] at h1 h2
  exact Prod.ext (by omega) (by omega)
theorem mem_cp {p : Nat × Nat} {l : List (Nat × Nat)} : cp p ∈ l.map cp ↔ p ∈ l := by
  rw [List.mem_map]
  exact ⟨fun ⟨q, h, e⟩ => by rw [← cp_inj e]; exact h, fun h => ⟨p, h, rfl⟩⟩
theorem mem_rowTies {g : Nat → Nat → Bool} {a m : Nat} {p : Nat × Nat} : p ∈ rowTies g a m ↔ p.1 = a ∧ a < p.2 ∧ p.2 < a + 1 + m ∧ g p.1 p.2 = true := by
  unfold rowTies
  rw [List.mem_filter, List.mem_map]
  constructor
  · rintro ⟨⟨j, hj, rfl⟩, h⟩
    have := List.mem_range.mp hj
    exact ⟨rfl, by show a < a + 1 + j; omega, by show a + 1 + j < a + 1 + m; omega, h⟩
  · rintro ⟨h1, h2, h3, h4⟩
    exact ⟨⟨p.2 - a - 1, List.mem_range.mpr (by omega), Prod.ext h1.symm (by show a + 1 + (p.2 - a - 1) = p.2; omega)⟩, h4⟩
theorem mem_tiesTo {n : Nat} {g : Nat → Nat → Bool} {p : Nat × Nat} : ∀ {k : Nat}, p ∈ tiesTo n g k ↔ p.1 < k ∧ p.1 < p.2 ∧ p.2 < n ∧ g p.1 p.2 = true
  | 0 => by simp [tiesTo]
  | k + 1 => by
    rw [tiesTo_succ, List.mem_append, mem_tiesTo, mem_rowTies]
    constructor
    · rintro (⟨h1, h2, h3, h4⟩ | ⟨h1, h2, h3, h4⟩)
      · exact ⟨by omega, h2, h3, h4⟩
      · exact ⟨by omega, by omega, by omega, h4⟩
    · rintro ⟨h1, h2, h3, h4⟩
      by_cases e : p.1 < k
      · exact .inl ⟨e, h2, h3, h4⟩
      · exact .inr ⟨by omega, by omega, by omega, h4⟩
theorem mem_ties {n : Nat} {g : Nat → Nat → Bool} {p : Nat × Nat} : p ∈ tiesOf n g ↔ p.1 < p.2 ∧ p.2 < n ∧ g p.1 p.2 = true := by
  unfold tiesOf
  rw [mem_tiesTo]
  exact ⟨fun h => h.2, fun h => ⟨by omega, h⟩⟩
def ltN (p q : Nat × Nat) : Prop := p.1 < q.1 ∨ (p.1 = q.1 ∧ p.2 < q.2)
theorem rowTies_sorted (g : Nat → Nat → Bool) (a m : Nat) : (rowTies g a m).Pairwise ltN := by
  unfold rowTies
  refine List.Pairwise.filter _ ?_
  rw [List.pairwise_map]
  exact List.pairwise_lt_range.imp fun h => .inr ⟨rfl, by show a + 1 + _ < a + 1 + _; omega⟩
theorem tiesTo_sorted (n : Nat) (g : Nat → Nat → Bool) : ∀ k, (tiesTo n g k).Pairwise ltN
  | 0 => by simp [tiesTo]
  | k + 1 => by
    rw [tiesTo_succ]
    refine List.pairwise_append.mpr ⟨tiesTo_sorted n g k, rowTies_sorted g k _, fun p hp q hq => ?_⟩
    have h1 := mem_tiesTo.mp hp
    have h2 := mem_rowTies.mp hq
    exact .inl (by omega)
theorem ties_sorted (n : Nat) (g : Nat → Nat → Bool) : (tiesOf n g).Pairwise ltN := tiesTo_sorted n g n
theorem ties_good (n : Nat) (g : Nat → Nat → Bool) : GoodP n (tiesOf n g) := by
  refine ⟨fun p hp => ?_, fun i j p q hij hi hj => ?_⟩
  · have := mem_ties.mp hp
    omega
  · have h := ties_sorted n g
    have h1 := mem_ties.mp (List.mem_of_getElem? hi)
    have h2 := mem_ties.mp (List.mem_of_getElem? hj)
    obtain ⟨li, ei⟩ := List.getElem?_eq_some_iff.mp hi
    obtain ⟨lj, ej⟩ := List.getElem?_eq_some_iff.mp hj
    have h3 := List.pairwise_iff_getElem.mp h i j li lj hij
    rw [ei, ej] at h3
    refine ⟨fun e => ?_, fun e => ?_⟩
    · subst e; unfold ltN at h3; omega
    · unfold ltN at h3; omega
theorem ties_len (n : Nat) (g : Nat → Nat → Bool) : (tiesOf n g).length ≤ n * n := tiesTo_len n g n
def nrm (p : Nat × Nat) : Int × Int := (if (p.2 : Int) < (p.1 : Int) then (p.2 : Int) else (p.1 : Int), if (p.1 : Int) < (p.2 : Int) then (p.2 : Int) else (p.1 : Int))
theorem nrm_lt {p : Nat × Nat} (h : p.1 < p.2) : nrm p = cp p := by
  unfold nrm cp
  rw [if_neg (by omega), if_pos (by omega)]
theorem srt_self {l : List (Nat × Nat)} (h : l.Pairwise ltN) : srt (l.map cp) = l.map cp := by
  refine (srt_eq (List.Perm.refl _) ?_).symm
  rw [List.pairwise_map]
  refine h.imp fun {p q} h => leP_iff.mpr ?_
  unfold ltN at h
  simp [cp]; omega
theorem srt_ties (n : Nat) (g : Nat → Nat → Bool) : (srt ((tiesOf n g).map nrm)).map pr = (tiesOf n g).map prn := by
  have e : (tiesOf n g).map nrm = (tiesOf n g).map cp := List.map_congr_left fun p hp => nrm_lt (mem_ties.mp hp).1
  rw [e, srt_self (ties_sorted n g), map_prn]
def spTiesOf : SpD := fun ds P _ => ∃ (n : Nat) (l : List (Nat × Nat)), ds = [.int (n : Int), .lst (l.map prn)] ∧ n ≤ 1000 ∧ l.length ≤ 50000 ∧ GoodP n l ∧ P (.tup ((srt (l.map nrm)).map pr))
abbrev N15 : List PySem.Str := ["size", "pairs", "pair"]
theorem body_ties_of {X : Cx} (c : CtxT X N15 (defScope (top 15))) (bi : Bi X.mg) {k : Nat} (hr : Room k X.A) (fPairs : FnD X.prog X.w X.K X.mg X.base "pairs_of" k spPairs) : BodyOk X N15 spTiesOf (defBody (top 15)) := by
  intro ds P R h B0 H0 air
  obtain ⟨n, l, rfl, hn, hll, hg, hp⟩ := h
  refine go_cons (g1_ret (ex_tupleOf c.toCtx bi.tuple (ex_ofL (el_sortP c.toCtx bi.sorted (ex_ofL (el_lc0 c.toCtx [("pair", 2)] (.nm 2) (fun X' b => tb_nm (b.ctx c.toCtx) 2) (ix_list (ex_call c.toCtx fPairs hr (ea_cons (ex_var c.toCtx 0 (ea_cons (ex_var c.toCtx 1 (ea_nil ⟨n, l, rfl, hn, hll, hg, _, rfl, ?_⟩)))))))))))))
  refine ⟨Nat × Nat, l, prn, fun q => pr (nrm q), rfl, by omega, fun q _ X' b => ?_, l.map nrm, by rw [List.map_map]; rfl, _, .inl rfl, hp⟩
  have c' := b.ctx c.toCtx
  exact ex_tup (ea_cons (ex_min1 c' (b.room hr) (b.bi bi).min (ex_var c' 2 ⟨_, _, rfl, ea_cons (ex_max1 c' (b.room hr) (b.bi bi).max (ex_var c' 2 ⟨_, _, rfl, ea_nil ⟨le2, rfl⟩⟩))⟩)))
/-! ### number_of_kind, where it is one -/
def spNum : SpD := fun ds P _ => ∃ (v lo hi : Int) (s : PySem.Str), ds = [.int v, .int lo, .int hi, .str s] ∧ lo ≤ v ∧ v ≤ hi ∧ P (.int v)
abbrev N17 : List PySem.Str := ["value", "low", "high", "name"]
theorem body_number {X : Cx} (c : CtxT X N17 (defScope (top 17))) {k : Nat} (hr : Room k X.A) (fWhole : FnD X.prog X.w X.K X.mg X.base "is_whole" k spWhole) : BodyOk X N17 spNum (defBody (top 17)) := by
  intro ds P R h B0 H0 air
  obtain ⟨v, lo, hi, s, rfl, h1, h2, hp⟩ := h
  refine go_cons (g1_if (tx_w (wx_or (k1 := false) (k2 := false) ?_ (fun _ => wx_or (k1 := false) (k2 := false) ?_ (fun _ => ?_) rfl) ⟨fun z => (by cases z), fun _ => go_nil ?_⟩)))
  · exact tx_not (tx_val (ex_call c.toCtx fWhole hr (ea_cons (ex_var c.toCtx 0 (ea_nil ⟨.int v, rfl, rfl, _, rfl, rfl⟩)))))
  · exact tx_ltI (ex_var c.toCtx 0 ⟨v, rfl, ex_var c.toCtx 1 ⟨lo, rfl, by simp; omega⟩⟩)
  · exact tx_or1 (tx_gtI (ex_var c.toCtx 0 ⟨v, rfl, ex_var c.toCtx 2 ⟨hi, rfl, by simp; omega⟩⟩))
  · exact go_cons (g1_ret (ex_var c.toCtx 0 hp))
/-! ### Web -/
def webFs (n : Nat) (g : Nat → Nat → Bool) : List (PySem.Str × D) := [("size", .int (n : Int)), ("ties", .tup ((tiesOf n g).map prn)), ("masks", .tup (maskl n g))]
def webO (C : Addr) (n : Nat) (g : Nat → Nat → Bool) : D := .ins C (webFs n g)
/-- what is known of the class Web -/
structure WebC (K : PySem.W.Frag) (C : Addr) : Prop where
  cl : Cls K C
  s : NoAttr K C "size"
  t : NoAttr K C "ties"
  m : NoAttr K C "masks"
def spWebI : SpI := fun ds P _ => ∃ (n : Nat) (g : Nat → Nat → Bool), ds = [.int (n : Int), .lst ((tiesOf n g).map prn)] ∧ 1 ≤ n ∧ n ≤ 40 ∧ Sym g ∧ P (webFs n g)
abbrev sWebI : Stmt := inClass (top 44) 0
abbrev N37 : List PySem.Str := ["self", "size", "ties", "first", "second"]
theorem body_web_init {X : Cx} (c : CtxT X N37 (defScope sWebI)) (bi : Bi X.mg) {C : Addr} (wc : WebC X.K C) {k : Nat} (hr : Room k X.A) (most : ∃ t, X.mg "MOST_THINGS" = some (.int 40 t)) (fNum : FnD X.prog X.w X.K X.mg X.base "number_of_kind" k spNum)
    (fTies : FnD X.prog X.w X.K X.mg X.base "ties_of" k spTiesOf) (fMasks : FnD X.prog X.w X.K X.mg X.base "masks_of_pairs" k spMasks) {ds P R} (h : spWebI ds P R) (B0 H0 : Hp) (a dx : Addr) : Go X B0 H0 (.v (.ref a) :: ini (N37.length - 1) ds) [(a, .ins C dx [])] { nx := fun _ os => ∃ fs, os = [(a, .ins C dx fs)] ∧ P fs } (defBody sWebI) := by
  obtain ⟨n, g, rfl, hn1, hn, hg, hp⟩ := h
  have hl := ties_len n g
  have hl2 : n * n ≤ 40 * 40 := Nat.mul_le_mul hn hn
  refine go_cons (g1_fld c.toCtx 0 wc.cl wc.s (ex_call c.toCtx fNum hr (ea_cons (ex_var c.toCtx 1 (ea_cons (ex_int (ea_cons (ex_glI c.toCtx most (ea_cons (ex_str (ea_nil ⟨(n : Int), 1, 40, "size", rfl, by omega, by omega, by decide, ?_⟩)))))))))))
  refine go_cons (g1_fld c.toCtx 0 wc.cl wc.t (ex_call c.toCtx fTies hr (ea_cons (ex_fldO c.toCtx 0 0 wc.cl wc.s rfl (ea_cons (ex_var c.toCtx 2 (ea_nil ⟨n, tiesOf n g, rfl, by omega, by omega, ties_good n g, (show 1 < 1000 by decide), ?_⟩)))))))
  rw [srt_ties]
  refine go_cons (g1_fld c.toCtx 0 wc.cl wc.m (ex_call c.toCtx fMasks hr (ea_cons (ex_fldO c.toCtx 0 0 wc.cl wc.s rfl (ea_cons (ex_catT (ex_fldO c.toCtx 0 0 wc.cl wc.t rfl ⟨(tiesOf n g).map prn, rfl, ex_tupleOf c.toCtx bi.tuple (ex_ofL (el_lc0 c.toCtx [("first", 3), ("second", 4)] (.tp [3, 4]) (fun X' b => tb_tp (b.ctx c.toCtx) (tbs_cons (b.ctx c.toCtx) 3 (tbs_cons (b.ctx c.toCtx) 4 tgs_nil))) (ix_tup (ex_fldO c.toCtx 0 0 wc.cl wc.t rfl ⟨_, rfl, ?_⟩))))⟩)))))))
  refine ⟨Nat × Nat, tiesOf n g, prn, fun q => prn (q.2, q.1), rfl, by omega, fun q _ => ⟨_, rfl, rfl, fun X' b => ?_⟩, (tiesOf n g).map fun q => prn (q.2, q.1), .inl rfl, _, rfl, by rw [List.length_map, List.length_map]; omega, ?_⟩
  · have c' := b.ctx c.toCtx
    exact ex_tup (ea_cons (ex_var c' 4 (ea_cons (ex_var c' 3 (ea_nil ⟨le2, rfl⟩)))))
  have e : (tiesOf n g).map prn ++ (tiesOf n g).map (fun q => prn (q.2, q.1)) = (tiesOf n g ++ (tiesOf n g).map fun q => (q.2, q.1)).map prn := by rw [List.map_append, List.map_map]; rfl
  rw [e]
  refine ea_nil ⟨n, _, rfl, by omega, fun p hp => ?_, fun f hf => ⟨(show 2 < 1000 by decide), ?_⟩⟩
  · rcases List.mem_append.mp hp with hp | hp
    · have := mem_ties.mp hp; omega
    · obtain ⟨q, hq, rfl⟩ := List.mem_map.mp hp
      have := mem_ties.mp hq
      exact ⟨by show q.2 < n; omega, by show q.1 < n; omega⟩
  · have ef : maskl n f = maskl n g := maskl_congr fun a b ha hb => by
      apply Bool.eq_iff_iff.mpr
      rw [hf, List.mem_append, List.mem_map, mem_ties]
      constructor
      · rintro (h | ⟨q, hq, e⟩)
        · exact h.2.2
        · have h := mem_ties.mp hq
          cases e
          rw [hg.1]; exact h.2.2
      · intro h
        rcases Nat.lt_trichotomy a b with hab | hab | hab
        · exact .inl ⟨hab, hb, h⟩
        · subst hab; rw [hg.2] at h; cases h
        · exact .inr ⟨(b, a), mem_ties.mpr ⟨hab, ha, by rw [hg.1]; exact h⟩, rfl⟩
    rw [ef]
    exact go_nil ⟨_, rfl, hp⟩
end OB
set_option Elab.async false
set_option linter.all false
set_option maxRecDepth 100000
set_option maxHeartbeats 4000000
namespace OB
open PySem PySem.Spec PyProof.Rows L2
/-! ### forcing -/
def stepsN (n : Nat) (g : Nat → Nat → Bool) (a b : Nat) : List (Nat × Nat) :=
  ((List.range n).filter fun c => g a c && !g b c && decide (c ≠ b)).map (fun c => (a, c)) ++ ((List.range n).filter fun c => g b c && !g a c && decide (c ≠ a)).map fun c => (c, b)
theorem steps_len (n : Nat) (g : Nat → Nat → Bool) (a b : Nat) : (stepsN n g a b).length ≤ 2 * n := by
  unfold stepsN
  rw [List.length_append, List.length_map, List.length_map]
  have h1 := List.length_filter_le (fun c => g a c && !g b c && decide (c ≠ b)) (List.range n)
  have h2 := List.length_filter_le (fun c => g b c && !g a c && decide (c ≠ a)) (List.range n)
  rw [List.length_range] at h1 h2
  omega
theorem mem_steps {n : Nat} {g : Nat → Nat → Bool} {a b : Nat} {p : Nat × Nat} : p ∈ stepsN n g a b ↔ (p.1 = a ∧ p.2 < n ∧ g a p.2 = true ∧ g b p.2 = false ∧ p.2 ≠ b) ∨ (p.2 = b ∧ p.1 < n ∧ g b p.1 = true ∧ g a p.1 = false ∧ p.1 ≠ a) := by
  unfold stepsN
  rw [List.mem_append, List.mem_map, List.mem_map]
  constructor
  · rintro (⟨c, hc, rfl⟩ | ⟨c, hc, rfl⟩)
    · rw [List.mem_filter, List.mem_range] at hc
      simp at hc
      exact .inl ⟨rfl, hc.1, hc.2.1.1, hc.2.1.2, hc.2.2⟩
    · rw [List.mem_filter, List.mem_range] at hc
      simp at hc
      exact .inr ⟨rfl, hc.1, hc.2.1.1, hc.2.1.2, hc.2.2⟩
  · rintro (⟨h1, h2, h3, h4, h5⟩ | ⟨h1, h2, h3, h4, h5⟩)
    · exact .inl ⟨p.2, by rw [List.mem_filter, List.mem_range]; simp [h2, h3, h4, h5], Prod.ext h1.symm rfl⟩
    · exact .inr ⟨p.1, by rw [List.mem_filter, List.mem_range]; simp [h2, h3, h4, h5], Prod.ext rfl h1.symm⟩
def ends2 (n : Nat) (g : Nat → Nat → Bool) (a b : Nat) : Nat := andNot (andNot (mskN n (g a)) (mskN n (g b))) (2 ^ b)
theorem ends2_lt (n : Nat) (g : Nat → Nat → Bool) (a b : Nat) : ends2 n g a b < 2 ^ n := Nat.lt_pow_two_of_testBit _ fun i hi => by
  unfold ends2
  rw [andNot_bit, andNot_bit, mskN_bit]
  have : ¬ i < n := by omega
  simp [this]
theorem ends2_bits (n : Nat) (g : Nat → Nat → Bool) (a b : Nat) : bitsOf n (ends2 n g a b) = (List.range n).filter fun c => g a c && !g b c && decide (c ≠ b) := List.filter_congr fun i hi => by
  have h := List.mem_range.mp hi
  unfold ends2
  rw [andNot_bit, andNot_bit, mskN_bit, mskN_bit, Nat.testBit_two_pow]
  by_cases e : i = b
  · simp [h, e]
  · simp [h, e, Ne.symm e]
section
variable {X : Cx} {N : List PySem.Str} {S scope : Scope} {B0 H0 : Hp} {sds : List SD} {os : List (Addr × OV)} {P : D → Prop} {p p1 p2 pos : Pos} {n : Nat} {g : Nat → Nat → Bool} {C : Addr} {e : Expr}
theorem ex_masks (c : Ctx X N S) (wc : WebC X.K C) (i : Nat) {x : PySem.Str} (h : EX X B0 H0 sds os e fun d => ∃ u : Nat, d = .int (u : Int) ∧ u < n ∧ P (.int ((mskN n (g u) : Nat) : Int))) (hs : sds[i]? = some (.d (webO C n g)) := by rfl) (hN : N[i]? = some x := by rfl) (hv : visB S x = true := by decide +kernel)
    (hd : (x == ("__debug__" : PySem.Str)) = false := by decide +kernel) (hcd : (x == ("__classdict__" : PySem.Str)) = false := by decide +kernel) (hb : attributeBase (.Name x p) "masks" X.env (eval (.Name x p) X.env) = eval (.Name x p) X.env := by rfl) (hx : PlainIx e := by exact fun _ _ => rfl) : EX X B0 H0 sds os (.Subscript (.Attribute (.Name x p) "masks" p1) e pos) P :=
  ex_ix (ex_fld (ex_var c i ⟨C, webFs n g, .tup (maskl n g), rfl, wc.cl, wc.m, rfl, h.imp fun d ⟨u, e1, hu, hp⟩ => ⟨_, e1, ixT u (maskl_get hu) hp⟩⟩ hs hN hv hd hcd) hb) hx
theorem ex_size (c : Ctx X N S) (wc : WebC X.K C) (i : Nat) {x : PySem.Str} (h : P (.int (n : Int))) (hs : sds[i]? = some (.d (webO C n g)) := by rfl) (hN : N[i]? = some x := by rfl) (hv : visB S x = true := by decide +kernel)
    (hd : (x == ("__debug__" : PySem.Str)) = false := by decide +kernel) (hcd : (x == ("__classdict__" : PySem.Str)) = false := by decide +kernel) (hb : attributeBase (.Name x p) "size" X.env (eval (.Name x p) X.env) = eval (.Name x p) X.env := by rfl) : EX X B0 H0 sds os (.Attribute (.Name x p) "size" pos) P :=
  ex_fld (ex_var c i ⟨C, webFs n g, .int (n : Int), rfl, wc.cl, wc.s, rfl, h⟩ hs hN hv hd hcd) hb
end
def placeF : List (PySem.Str × D) := [("place", .int 0)]
def tiedF (a b : Nat) : List (PySem.Str × D) := [("second", .int (b : Int)), ("first", .int (a : Int))]
def spCheck (CW CT : Addr) : SpD := fun ds P R => ∃ (n : Nat) (g : Nat → Nat → Bool) (a b : Nat), ds = [webO CW n g, prn (a, b)] ∧ a < n ∧ b < n ∧ (g a b = true → P .non) ∧ (g a b = false → R CT (tiedF a b))
abbrev N26 : List PySem.Str := ["web", "pair"]
theorem ixPn0 {a b : Nat} {P : D → Prop} (p : P (.int (a : Int))) : IxD (prn (a, b)) 0 P := ixT 0 rfl p
theorem ixPn1 {a b : Nat} {P : D → Prop} (p : P (.int (b : Int))) : IxD (prn (a, b)) 1 P := ixT 1 rfl p
theorem body_check_tied {X : Cx} (c : CtxT X N26 (defScope (top 26))) {CW CT : Addr} (wc : WebC X.K CW) {k : Nat} (hr : Room (k + 1) X.A) (fHas : FnD X.prog X.w X.K X.mg X.base "has_thing" k spHas) (xc : ExcD X.prog X.w X.K X.mg X.base "NotTied" CT k ["first", "second"]) : BodyOk X N26 (spCheck CW CT) (defBody (top 26)) := by
  intro ds P R h B0 H0 air
  obtain ⟨n, g, a, b, rfl, ha, hb, h1, h2⟩ := h
  refine go_cons (g1_if (tx_not (tx_val (ex_call c.toCtx fHas (hr.mono (by omega)) (ea_cons (ex_masks c.toCtx wc 0 (ex_ix (ex_var c.toCtx 1 (ex_int ⟨0, rfl, ixPn0 ⟨a, rfl, ha, ea_cons (ex_ix (ex_var c.toCtx 1 (ex_int ⟨1, rfl, ixPn1 (ea_nil ⟨mskN n (g a), b, rfl, _, rfl, ?_⟩)⟩)))⟩⟩)))))))))
  rw [mskN_bit, decide_eq_true hb, Bool.true_and]
  refine ⟨fun hc => ?_, fun hc => ?_⟩
  · have e : g a b = false := by simpa using hc
    exact go_cons (g1_raise c.toCtx xc hr air (ea_cons (ex_ix (ex_var c.toCtx 1 (ex_int ⟨0, rfl, ixPn0 (ea_cons (ex_ix (ex_var c.toCtx 1 (ex_int ⟨1, rfl, ixPn1 (ea_nil ⟨rfl, by decide, h2 e⟩)⟩))))⟩)))))
  · have e : g a b = true := by simpa using hc
    exact go_nil (go_nil (h1 e))
/-- what becomes of an arrow that is passed -/
def ArrD (CB CT : Addr) (n : Nat) (g : Nat → Nat → Bool) (d : D) (P : Nat → Nat → Prop) (R : Addr → List (PySem.Str × D) → Prop) : Prop :=
  (pairOf n d = none → R CB placeF) ∧ ∀ a b : Nat, pairOf n d = some ((a : Int), (b : Int)) → (g a b = true → P a b) ∧ (g a b = false → R CT (tiedF a b))
theorem pairOf_nat {n : Nat} {d : D} {i j : Int} (h : pairOf n d = some (i, j)) : ∃ a b : Nat, i = (a : Int) ∧ j = (b : Int) ∧ a < n ∧ b < n ∧ a ≠ b := by
  obtain ⟨_, h1, h2, h3, h4, h5⟩ := pairOf_some h
  exact ⟨i.toNat, j.toNat, by omega, by omega, by omega, by omega, by omega⟩
def spArrow (CW CB CT : Addr) : SpD := fun ds P R => ∃ (n : Nat) (g : Nat → Nat → Bool) (d : D), ds = [webO CW n g, d] ∧ okP d ∧ ArrD CB CT n g d (fun a b => a < n → b < n → P (prn (a, b))) R
abbrev N27 : List PySem.Str := ["web", "arrow"]
theorem body_arrow_of {X : Cx} (c : CtxT X N27 (defScope (top 27))) {CW CB CT : Addr} (wc : WebC X.K CW) {k : Nat} (hr : Room k X.A) (fPair : FnD X.prog X.w X.K X.mg X.base "pair_of" k (spPairOf CB)) (fCheck : FnD X.prog X.w X.K X.mg X.base "check_tied" k (spCheck CW CT)) : BodyOk X N27 (spArrow CW CB CT) (defBody (top 27)) := by
  intro ds P R h B0 H0 air
  obtain ⟨n, g, d, rfl, ok, h1, h2⟩ := h
  refine go_cons (g1_asg c.toCtxD 1 (ex_callX c.toCtx fPair hr air (ea_cons (ex_size c.toCtx wc 0 (ea_cons (ex_var c.toCtx 1 (ea_nil ⟨n, d, rfl, ok, fun i j e => ?_, h1⟩)))))))
  obtain ⟨a, b, rfl, rfl, ha, hb, _⟩ := pairOf_nat e
  obtain ⟨h3, h4⟩ := h2 a b e
  exact go_cons (g1_expr (ex_callX c.toCtx fCheck hr air (ea_cons (ex_var c.toCtx 0 (ea_cons (ex_var c.toCtx 1 (ea_nil ⟨n, g, a, b, rfl, ha, hb, fun hg => go_cons (g1_ret (ex_var c.toCtx 1 (h3 hg ha hb))), h4⟩)))))))
def spTwo (CW CB CT : Addr) : SpD := fun ds P R => ∃ (n : Nat) (g : Nat → Nat → Bool) (d d' : D), ds = [webO CW n g, d, d'] ∧ okP d ∧ okP d' ∧ (pairOf n d = none → R CB placeF) ∧
  ∀ a b : Nat, pairOf n d = some ((a : Int), (b : Int)) → (pairOf n d' = none → R CB placeF) ∧ ∀ a' b' : Nat, pairOf n d' = some ((a' : Int), (b' : Int)) → (g a b = false → R CT (tiedF a b)) ∧ (g a b = true → (g a' b' = false → R CT (tiedF a' b')) ∧ (g a' b' = true → a < n → b < n → a' < n → b' < n → P (.tup [prn (a, b), prn (a', b')])))
abbrev N28 : List PySem.Str := ["web", "one", "other"]
theorem body_two_arrows {X : Cx} (c : CtxT X N28 (defScope (top 28))) {CW CB CT : Addr} (wc : WebC X.K CW) {k : Nat} (hr : Room k X.A) (fPair : FnD X.prog X.w X.K X.mg X.base "pair_of" k (spPairOf CB)) (fCheck : FnD X.prog X.w X.K X.mg X.base "check_tied" k (spCheck CW CT)) : BodyOk X N28 (spTwo CW CB CT) (defBody (top 28)) := by
  intro ds P R h B0 H0 air
  obtain ⟨n, g, d, d', rfl, ok, ok', h1, h2⟩ := h
  refine go_cons (g1_asg c.toCtxD 1 (ex_callX c.toCtx fPair hr air (ea_cons (ex_size c.toCtx wc 0 (ea_cons (ex_var c.toCtx 1 (ea_nil ⟨n, d, rfl, ok, fun i j e => ?_, h1⟩)))))))
  obtain ⟨a, b, rfl, rfl, ha, hb, _⟩ := pairOf_nat e
  obtain ⟨h3, h4⟩ := h2 a b e
  refine go_cons (g1_asg c.toCtxD 2 (ex_callX c.toCtx fPair hr air (ea_cons (ex_size c.toCtx wc 0 (ea_cons (ex_var c.toCtx 2 (ea_nil ⟨n, d', rfl, ok', fun i j e' => ?_, h3⟩)))))))
  obtain ⟨a', b', rfl, rfl, ha', hb', _⟩ := pairOf_nat e'
  obtain ⟨h5, h6⟩ := h4 a' b' e'
  refine go_cons (g1_expr (ex_callX c.toCtx fCheck hr air (ea_cons (ex_var c.toCtx 0 (ea_cons (ex_var c.toCtx 1 (ea_nil ⟨n, g, a, b, rfl, ha, hb, fun hg => ?_, h5⟩)))))))
  refine go_cons (g1_expr (ex_callX c.toCtx fCheck hr air (ea_cons (ex_var c.toCtx 0 (ea_cons (ex_var c.toCtx 2 (ea_nil ⟨n, g, a', b', rfl, ha', hb', fun hg' => ?_, (h6 hg).1⟩)))))))
  exact go_cons (g1_ret (ex_tup (ea_cons (ex_var c.toCtx 1 (ea_cons (ex_var c.toCtx 2 (ea_nil ⟨le2, (h6 hg).2 hg' ha hb ha' hb'⟩)))))))
def spFrom (CW : Addr) : SpD := fun ds P _ => ∃ (n : Nat) (g : Nat → Nat → Bool) (a b : Nat), ds = [webO CW n g, prn (a, b)] ∧ n ≤ 1000 ∧ a < n ∧ b < n ∧ P (.lst ((stepsN n g a b).map prn))
abbrev N29 : List PySem.Str := ["web", "arrow", "first", "second", "ends", "starts", "end", "start"]
theorem body_forced_from {X : Cx} (c : CtxT X N29 (defScope (top 29))) {CW : Addr} (wc : WebC X.K CW) {k : Nat} (hr : Room k X.A) (fThings : FnD X.prog X.w X.K X.mg X.base "things_in" k spThings) : BodyOk X N29 (spFrom CW) (defBody (top 29)) := by
  intro ds P R h B0 H0 air
  obtain ⟨n, g, a, b, rfl, hn, ha, hb, hp⟩ := h
  have hfl : ∀ f : Nat → Bool, ((List.range n).filter f).length ≤ n := fun f => Nat.le_trans (List.length_filter_le _ _) (by simp)
  have two : ∀ x y z : Nat, Builtin.bitAnd (Builtin.bitAnd (x : Int) (Builtin.bitNot (y : Int))) (Builtin.bitNot (1 * 2 ^ (z : Int).toNat)) = ((andNot (andNot x y) (2 ^ z) : Nat) : Int) := fun x y z => by
    rw [shl_nat, bnot_nat, bnot_nat, band_neg, band_neg]
  refine go_cons (g1_asg2 c.toCtxD 2 3 (ex_var c.toCtx 1 ⟨_, _, rfl, ?_⟩))
  refine go_cons (g1_asg c.toCtxD 4 (ex_andI (ex_andI (ex_masks c.toCtx wc 0 (ex_var c.toCtx 2 ⟨a, rfl, ha, _, rfl, ex_inv (ex_masks c.toCtx wc 0 (ex_var c.toCtx 3 ⟨b, rfl, hb, _, rfl, _, rfl, _, rfl, ex_inv (ex_shl (ex_int ⟨1, rfl, ex_var c.toCtx 3 ⟨(b : Int), rfl, cshl b (by omega), _, rfl, _, rfl, ?_⟩⟩))⟩))⟩)))))
  rw [two]
  refine go_cons (g1_asg c.toCtxD 5 (ex_andI (ex_andI (ex_masks c.toCtx wc 0 (ex_var c.toCtx 3 ⟨b, rfl, hb, _, rfl, ex_inv (ex_masks c.toCtx wc 0 (ex_var c.toCtx 2 ⟨a, rfl, ha, _, rfl, _, rfl, _, rfl, ex_inv (ex_shl (ex_int ⟨1, rfl, ex_var c.toCtx 2 ⟨(a : Int), rfl, cshl a (by omega), _, rfl, _, rfl, ?_⟩⟩))⟩))⟩)))))
  rw [two]
  refine go_cons (g1_ret (ex_ofL (el_cat (ex_ofL (el_lc0 c.toCtx [("end", 6)] (.nm 6) (fun X' b => tb_nm (b.ctx c.toCtx) 6) (ix_tup (ex_call c.toCtx fThings hr (ea_cons (ex_var c.toCtx 4 (ea_nil ⟨n, ends2 n g a b, rfl, ends2_lt n g a b, hn, _, rfl, ?_⟩))))))))))
  rw [ends2_bits]
  refine ⟨Nat, (List.range n).filter (fun c => g a c && !g b c && decide (c ≠ b)), natD, fun c => prn (a, c), rfl, Nat.le_trans (hfl _) (by omega), fun q _ X' bx => ?_, _, rfl, ?_⟩
  · exact ex_tup (ea_cons (ex_var (bx.ctx c.toCtx) 2 (ea_cons (ex_var (bx.ctx c.toCtx) 6 (ea_nil ⟨le2, rfl⟩)))))
  refine ex_ofL (el_lc0 c.toCtx [("start", 7)] (.nm 7) (fun X' b => tb_nm (b.ctx c.toCtx) 7) (ix_tup (ex_call c.toCtx fThings hr (ea_cons (ex_var c.toCtx 5 (ea_nil ⟨n, ends2 n g b a, rfl, ends2_lt n g b a, hn, _, rfl, ?_⟩))))))
  rw [ends2_bits]
  refine ⟨Nat, (List.range n).filter (fun c => g b c && !g a c && decide (c ≠ a)), natD, fun c => prn (c, b), rfl, Nat.le_trans (hfl _) (by omega), fun q _ X' bx => ?_, _, rfl, ?_, ?_⟩
  · exact ex_tup (ea_cons (ex_var (bx.ctx c.toCtx) 7 (ea_cons (ex_var (bx.ctx c.toCtx) 3 (ea_nil ⟨le2, rfl⟩)))))
  · rw [List.length_map, List.length_map]
    have := hfl (fun c => g a c && !g b c && decide (c ≠ b))
    have := hfl (fun c => g b c && !g a c && decide (c ≠ a))
    omega
  · unfold stepsN at hp
    rw [List.map_append, List.map_map, List.map_map] at hp
    exact hp
def spForcedBy (CW CB CT : Addr) : SpD := fun ds P R => ∃ (n : Nat) (g : Nat → Nat → Bool) (d : D), ds = [webO CW n g, d] ∧ n ≤ 1000 ∧ okP d ∧ ArrD CB CT n g d (fun a b => a < n → b < n → P (.tup ((srt ((stepsN n g a b).map cp)).map pr))) R
def spForces (CW CB CT : Addr) : SpD := fun ds P R => ∃ (n : Nat) (g : Nat → Nat → Bool) (d d' : D), ds = [webO CW n g, d, d'] ∧ n ≤ 1000 ∧ okP d ∧ okP d' ∧ (pairOf n d = none → R CB placeF) ∧
  ∀ a b : Nat, pairOf n d = some ((a : Int), (b : Int)) → (pairOf n d' = none → R CB placeF) ∧ ∀ a' b' : Nat, pairOf n d' = some ((a' : Int), (b' : Int)) → (g a b = false → R CT (tiedF a b)) ∧ (g a b = true → (g a' b' = false → R CT (tiedF a' b')) ∧ (g a' b' = true → P (.bl (decide ((a', b') ∈ stepsN n g a b)))))
abbrev N31 : List PySem.Str := ["web", "first", "last"]
end OB
set_option Elab.async false
set_option linter.all false
set_option maxRecDepth 100000
set_option maxHeartbeats 4000000
namespace OB
open PySem PySem.Spec PyProof.Rows L2
section
variable {X : Cx} {N : List PySem.Str} {S scope : Scope} {B0 H0 : Hp} {sds : List SD} {os : List (Addr × OV)} {P : D → Prop} {p p1 p2 pos : Pos} {a b e : Expr}
theorem ex_eqB (h : EX X B0 H0 sds os a fun da => ∃ i, da = .bl i ∧ EX X B0 H0 sds os b fun db => ∃ j, db = .bl j ∧ P (.bl (decide (i = j)))) : EX X B0 H0 sds os (.Compare a [.Eq] [b] pos) P :=
  ex_cmpB op_eq (nomark _) (h.imp fun _ ⟨i, e, k⟩ => k.imp fun _ ⟨j, e', p⟩ => by subst e; subst e'; exact cmp_eqB p)
end
/-! ### the law's looks -/
theorem body_law_int {X : Cx} (c : CtxT X ["_law_value"] (defScope (top 59))) (bi : Bi X.mg) : BodyOk X ["_law_value"] spWhole (defBody (top 59)) := by
  intro ds P R h B0 H0 air
  obtain ⟨d, rfl, ok, hp⟩ := h
  obtain ⟨t, ht⟩ := okT_get ok
  refine go_cons (g1_ret (ex_andV (k1 := isIntB d) (k2 := !isBlB d) (ex_isi c.toCtx bi.isinstance bi.int (ex_var c.toCtx 0 ⟨t, _, ht, kit_int ht, rfl⟩)) (fun _ => ex_one (ex_not (ex_isi c.toCtx bi.isinstance bi.bool (ex_var c.toCtx 0 ⟨t, _, ht, kit_bool ht, _, rfl, rfl⟩)))) ?_))
  have e : (isIntB d && !isBlB d) = whB d := by cases d <;> rfl
  rw [e]; exact hp
/-- a tuple of ints from 0 to m - 1 -/
def spInts : SpD := fun ds P _ => ∃ (l : List Int) (m : Int), ds = [.tup (l.map .int), .int m] ∧ (∀ x ∈ l, 0 ≤ x ∧ x < m) ∧ P (.bl true)
abbrev N59 : List PySem.Str := ["_law_value", "_law_many", "_law_one"]
theorem body_law_ints {X : Cx} (c : CtxT X N59 (defScope (top 60))) (bi : Bi X.mg) {k : Nat} (hr : Room k X.A) (fInt : FnD X.prog X.w X.K X.mg X.base "_law_int" k spWhole) : BodyOk X N59 spInts (defBody (top 60)) := by
  intro ds P R h B0 H0 air
  obtain ⟨l, m, rfl, hl, hp⟩ := h
  refine go_cons (g1_if (tx_not (tx_val (ex_isi (tn := "tuple") c.toCtx bi.isinstance bi.tuple (ex_var c.toCtx 0 ⟨"tuple", true, rfl, rfl, true, rfl, fun z => (by cases z), fun _ => go_nil ?_⟩)))))
  let I : LoopI := fun k sds os => ∃ x : SD, sds = [.d (.tup (l.map .int)), .d (.int m), x] ∧ os = []
  refine go_cut (I l.length) (g1_for (t := .nm 2) c.own c.calm (tg_nm c.toCtxD 2) (ix_tup (ex_var c.toCtx 0 ⟨_, rfl, forOk_map I ⟨_, rfl, rfl⟩ ?_ fun _ _ h => h⟩))) ?_
  · rintro k i sds os hk ⟨x, rfl, rfl⟩
    have hi := hl i (List.mem_of_getElem? hk)
    refine go_cons (g1_if (tx_w (wx_or (k1 := false) (k2 := false) ?_ (fun _ => wx_or (k1 := false) (k2 := false) ?_ (fun _ => ?_) rfl) ⟨fun z => (by cases z), fun _ => go_nil (go_nil ⟨_, rfl, rfl⟩)⟩)))
    · exact tx_not (tx_val (ex_call c.toCtx fInt hr (ea_cons (ex_var c.toCtx 2 (ea_nil ⟨.int i, rfl, rfl, _, rfl, rfl⟩)))))
    · exact tx_ltI (ex_var c.toCtx 2 ⟨i, rfl, ex_int ⟨0, rfl, by simp; omega⟩⟩)
    · exact tx_or1 (tx_geI (ex_var c.toCtx 2 ⟨i, rfl, ex_var c.toCtx 1 ⟨m, rfl, by simp; omega⟩⟩))
  · rintro sds os ⟨x, rfl, rfl⟩
    exact go_cons (g1_ret (ex_bl hp))
/-- ascending pairs -/
def spPairsL : SpD := fun ds P _ => ∃ (l : List (Int × Int)) (n : Int), ds = [.tup (l.map pr), .int n] ∧ (∀ p ∈ l, 0 ≤ p.1 ∧ p.1 < n ∧ 0 ≤ p.2 ∧ p.2 < n ∧ p.1 ≠ p.2) ∧ l.Pairwise (SrtO.lexB · ·) ∧ P (.bl true)
abbrev N60 : List PySem.Str := ["_law_value", "_law_size", "_law_last", "_law_pair"]
theorem body_law_pairs {X : Cx} (c : CtxT X N60 (defScope (top 62))) (bi : Bi X.mg) {k : Nat} (hr : Room k X.A) (fInts : FnD X.prog X.w X.K X.mg X.base "_law_ints" k spInts) : BodyOk X N60 spPairsL (defBody (top 62)) := by
  intro ds P R h B0 H0 air
  obtain ⟨l, n, rfl, hl, hs, hp⟩ := h
  refine go_cons (g1_if (tx_not (tx_val (ex_isi (tn := "tuple") c.toCtx bi.isinstance bi.tuple (ex_var c.toCtx 0 ⟨"tuple", true, rfl, rfl, true, rfl, fun z => (by cases z), fun _ => go_nil ?_⟩)))))
  refine go_cons (g1_asg c.toCtxD 2 (ex_tup (ea_cons (ex_neg (ex_int ⟨1, rfl, ea_cons (ex_neg (ex_int ⟨1, rfl, ea_nil ⟨le2, ?_⟩⟩))⟩)))))
  let I : LoopI := fun k sds os => ∃ (x : SD) (q : Int × Int), sds = [.d (.tup (l.map pr)), .d (.int n), .d (pr q), x] ∧ os = [] ∧ ∀ p, l[k]? = some p → SrtO.lexB q p = true
  refine go_cut (fun sds os => ∃ (x y : SD), sds = [.d (.tup (l.map pr)), .d (.int n), x, y] ∧ os = []) (g1_for (t := .nm 3) c.own c.calm (tg_nm c.toCtxD 3) (ix_tup (ex_var c.toCtx 0 ⟨_, rfl, forOk_map I ⟨_, (-1, -1), rfl, rfl, fun p hp => ?_⟩ ?_ ?_⟩))) ?_
  · have := hl p (List.mem_of_getElem? hp)
    unfold SrtO.lexB
    by_cases e : (-1 : Int) = p.1 <;> simp [e] <;> omega
  · rintro k p sds os hk ⟨x, q, rfl, rfl, hq⟩
    have hi := hl p (List.mem_of_getElem? hk)
    refine go_cons (g1_if (tx_w (wx_or (k1 := false) (k2 := false) ?_ (fun _ => wx_or (k1 := false) (k2 := false) ?_ (fun _ => wx_or (k1 := false) (k2 := false) ?_ (fun _ => ?_) rfl) rfl) ⟨fun z => (by cases z), fun _ => go_nil ?_⟩)))
    · exact tx_not (tx_val (ex_call c.toCtx fInts hr (ea_cons (ex_var c.toCtx 3 (ea_cons (ex_var c.toCtx 1 (ea_nil ⟨[p.1, p.2], n, rfl, by simp; omega, _, rfl, rfl⟩)))))))
    · exact tx_neI (ex_len c.toCtx bi.len (ex_var (d := pr p) c.toCtx 3 ⟨2, rfl, _, rfl, ex_int ⟨2, rfl, rfl⟩⟩))
    · exact tx_eqI (ex_ix (ex_var c.toCtx 3 (ex_int ⟨0, rfl, ixT 0 rfl ⟨p.1, rfl, ex_ix (ex_var c.toCtx 3 (ex_int ⟨1, rfl, ixT 1 rfl ⟨p.2, rfl, by simp; omega⟩⟩))⟩⟩)))
    · exact tx_or1 (tx_not (tx_ltP hr (ex_var c.toCtx 2 ⟨q, rfl, ex_var c.toCtx 3 ⟨p, rfl, by rw [hq p hk]; rfl⟩⟩)))
    · refine go_cons (g1_asg c.toCtxD 2 (ex_var c.toCtx 3 (go_nil ⟨_, p, rfl, rfl, fun p' hp' => ?_⟩)))
      obtain ⟨l1, e1⟩ := List.getElem?_eq_some_iff.mp hk
      obtain ⟨l2, e2⟩ := List.getElem?_eq_some_iff.mp hp'
      have := List.pairwise_iff_getElem.mp hs k (k + 1) l1 l2 (by omega)
      rw [e1, e2] at this
      exact this
  · rintro sds os ⟨x, q, rfl, rfl, _⟩
    exact ⟨_, _, rfl, rfl⟩
  · rintro sds os ⟨x, y, rfl, rfl⟩
    exact go_cons (g1_ret (ex_bl hp))
def spSays : SpD := fun ds P _ => ∃ v w : Bool, ds = [.bl v, .bl w] ∧ P (.bl (decide (v = w)))
abbrev N62 : List PySem.Str := ["_law_value", "_law_due"]
def spSteps : SpD := fun ds P _ => ∃ (n : Nat) (g : Nat → Nat → Bool) (a b : Nat), ds = [webD n g, prn (a, b)] ∧ n ≤ 100 ∧ Sym g ∧ a < n ∧ b < n ∧ P (.lst ((stepsN n g a b).map prn))
abbrev N61 : List PySem.Str := ["_law_near_here", "_law_arrow", "_law_a", "_law_b", "_law_size", "_law_out", "_law_c"]
theorem bit_eq0 (b : Bool) : (decide ((if b then 1 else 0 : Int) = 0)) = !b := by cases b <;> rfl
theorem body_law_steps {X : Cx} (c : CtxT X N61 (defScope (top 63))) (bi : Bi X.mg) : BodyOk X N61 spSteps (defBody (top 63)) := by
  intro ds P R h B0 H0 air
  obtain ⟨n, g, a, b, rfl, hn, hg, ha, hb, hp⟩ := h
  have hfl : ∀ f : Nat → Bool, ((List.range n).filter f).length ≤ n := fun f => Nat.le_trans (List.length_filter_le _ _) (by simp)
  refine go_cons (g1_asg c.toCtxD 2 (ex_ix (ex_var c.toCtx 1 (ex_int ⟨0, rfl, ixPn0 ?_⟩))))
  refine go_cons (g1_asg c.toCtxD 3 (ex_ix (ex_var c.toCtx 1 (ex_int ⟨1, rfl, ixPn1 ?_⟩))))
  refine go_cons (g1_asg c.toCtxD 4 (ex_len c.toCtx bi.len (ex_var c.toCtx 0 ⟨n, web_len, ?_⟩)))
  refine go_cons (g1_setLc1 c.toCtxD 5 [("_law_c", 6)] (.nm 6) (fun X' b => tb_nm (b.ctx c.toCtx) 6) (ix_range1 c.toCtx bi.range (ex_var c.toCtx 4 ⟨(n : Int), rfl, by omega, by omega, ?_⟩)))
  rw [rngI]
  refine ⟨Nat, List.range n, natD, fun x => g a x && !g b x && decide (x ≠ b), fun x => prn (a, x), rfl, by simp; omega, fun x hx X' bx => ⟨?_, fun _ => ?_⟩, ?_⟩
  · have c' := bx.ctx c.toCtx
    have hx' := List.mem_range.mp hx
    refine tx_w (wx_and (k1 := decide (x ≠ b)) (k2 := g a x && !g b x) (tx_neI (ex_var c' 6 ⟨(x : Int), rfl, ex_var c' 3 ⟨(b : Int), rfl, ?_⟩⟩)) (fun _ => wx_and (k1 := g a x) (k2 := !g b x) ?_ (fun _ => tx_and1 ?_) rfl) ?_)
    · by_cases e : x = b <;> simp [e, Int.ofNat_inj]
    · exact tx_eqI (ex_ix (ex_ix (ex_var c' 0 (ex_var c' 2 ⟨_, rfl, ixW ha (ex_var c' 6 ⟨_, rfl, ixR hx' ⟨_, rfl, ex_int ⟨1, rfl, bit_eq1 _⟩⟩⟩)⟩))))
    · exact tx_eqI (ex_ix (ex_ix (ex_var c' 0 (ex_var c' 3 ⟨_, rfl, ixW hb (ex_var c' 6 ⟨_, rfl, ixR hx' ⟨_, rfl, ex_int ⟨0, rfl, bit_eq0 _⟩⟩⟩)⟩))))
    · rw [Bool.and_comm]
  · exact ex_tup (ea_cons (ex_var (bx.ctx c.toCtx) 2 (ea_cons (ex_var (bx.ctx c.toCtx) 6 (ea_nil ⟨le2, rfl⟩)))))
  refine go_cons (g1_ret (ex_ofL (el_cat (ex_var c.toCtx 5 ⟨_, rfl, ex_ofL (el_lc1 c.toCtx [("_law_c", 6)] (.nm 6) (fun X' b => tb_nm (b.ctx c.toCtx) 6) (ix_range1 c.toCtx bi.range (ex_var c.toCtx 4 ⟨(n : Int), rfl, by omega, by omega, ?_⟩)))⟩))))
  rw [rngI]
  refine ⟨Nat, List.range n, natD, fun x => g b x && !g a x && decide (x ≠ a), fun x => prn (x, b), rfl, by simp; omega, fun x hx X' bx => ⟨?_, fun _ => ?_⟩, _, rfl, ?_, ?_⟩
  · have c' := bx.ctx c.toCtx
    have hx' := List.mem_range.mp hx
    refine tx_w (wx_and (k1 := decide (x ≠ a)) (k2 := g b x && !g a x) (tx_neI (ex_var c' 6 ⟨(x : Int), rfl, ex_var c' 2 ⟨(a : Int), rfl, ?_⟩⟩)) (fun _ => wx_and (k1 := g b x) (k2 := !g a x) ?_ (fun _ => tx_and1 ?_) rfl) ?_)
    · by_cases e : x = a <;> simp [e, Int.ofNat_inj]
    · exact tx_eqI (ex_ix (ex_ix (ex_var c' 0 (ex_var c' 6 ⟨_, rfl, ixW hx' (ex_var c' 3 ⟨_, rfl, ixR hb ⟨_, rfl, ex_int ⟨1, rfl, by rw [bit_eq1, hg.1]⟩⟩⟩)⟩))))
    · exact tx_eqI (ex_ix (ex_ix (ex_var c' 0 (ex_var c' 2 ⟨_, rfl, ixW ha (ex_var c' 6 ⟨_, rfl, ixR hx' ⟨_, rfl, ex_int ⟨0, rfl, bit_eq0 _⟩⟩⟩)⟩))))
    · rw [Bool.and_comm]
  · exact ex_tup (ea_cons (ex_var (bx.ctx c.toCtx) 6 (ea_cons (ex_var (bx.ctx c.toCtx) 3 (ea_nil ⟨le2, rfl⟩)))))
  · rw [List.length_map, List.length_map]
    have := hfl (fun c => g a c && !g b c && decide (c ≠ b))
    have := hfl (fun c => g b c && !g a c && decide (c ≠ a))
    omega
  · unfold stepsN at hp
    rw [List.map_append, List.map_map, List.map_map] at hp
    exact hp
end OB
set_option Elab.async false
set_option linter.all false
set_option maxRecDepth 100000
set_option maxHeartbeats 4000000
namespace OB
open PySem PySem.Spec PyProof.Rows L2
theorem body_take {X : Cx} (c : CtxT X ["_law_draws_here", "_law_many"] (defScope (top 47))) (bi : Bi X.mg) : BodyOk X ["_law_draws_here", "_law_many"] spTake (defBody (top 47)) := by
  intro ds P R h B0 H0 air
  obtain ⟨m, rfl, hm, hp⟩ := h
  intro A B H σ ea s
  obtain ⟨v0, e0, i0⟩ := s.var (i := 0) (d := .drw) rfl
  obtain ⟨v1, e1, i1⟩ := s.var (i := 1) (d := .int m) rfl
  cases i1
  cases i0 with
  | @drw a hB =>
  have hH := s.g.bh _ _ hB
  refine wSs_view hH fun ns => ?_
  have back : ∀ H' : Hp, Ex (upd H a (.lst (ns.map V.int))) H' → Ex H (upd H' a (drawsHO a)) := fun H' e b o q => by
    by_cases hb : b = a
    · subst hb; rw [upd_same]; rw [hH] at q; exact q
    · rw [upd_ne hb]; exact e _ _ (by rw [upd_ne hb]; exact q)
  have fin : ∀ (H' : Hp) (r : Int), Ex (upd H a (.lst (ns.map V.int))) H' → 0 ≤ r → r < m → (DE.ends X.K B0 H0 A { rt := P, nx := fun _ _ => P .non }).rt (.int r) (upd H' a (drawsHO a)) := fun H' r e h1 h2 =>
    ⟨B, .int r, ea, ⟨s.g.b, s.g.h.trans (back H' e), s.g.bh.trans (back H' e), s.g.fr⟩, .int r, hp r h1 h2⟩
  have st1 : St X.K (fun _ => none) (fun b => if b = a then none else H b) (fun _ => none) (upd H a (.lst (ns.map V.int))) σ [.v (.ref a), .d (.int m)] [(a, .lst (ns.map .int))] := by
    refine ⟨⟨fun _ _ q => q, fun b o q => ?_, (fun _ _ q => nomatch q), fun _ q => .inl q⟩, ⟨s.sl.len, fun i sd q => ?_⟩, fun e he => ?_, fun b hb => ?_, by simp [fpt]⟩
    · by_cases hb : b = a
      · simp [hb] at q
      · simp [hb] at q; rw [upd_ne hb]; exact q
    · match i, q with
      | 0, q => cases q; exact e0
      | 1, q => cases q; exact ⟨_, e1, .int m⟩
    · have e' : e = (a, .lst (ns.map .int)) := by simpa using he
      subst e'; exact ⟨_, upd_same, of_ints⟩
    · have e' : b = a := by simpa [fpt] using hb
      subst e'; exact ⟨rfl, by simp⟩
  refine PSs.to (pss_cons (ps_if pt_w pss_w pss_w) (pss_cons ps_w pss_nil)) ?_
  refine (tx_borrow (P := fun b => b = decide (ns = [])) 0 0 (tx_eqI (ex_len c.toCtx bi.len (ex_var c.toCtx 0 ⟨_, lenL, ⟨_, rfl, ex_int ⟨_, rfl, ?_⟩⟩⟩)))) _ _ _ st1 _ ?_
  · rw [List.length_map]
    cases ns with
    | nil => rfl
    | cons x r => exact decide_eq_decide.mpr (by simp; omega)
  intro b B' H' g hb
  subst hb
  by_cases hn : ns = []
  · rw [if_pos (by simp [hn])]
    refine PSs.to (pss_cons (ps_ret pe_int) pss_nil) ?_
    exact ⟨ns, g.h _ _ upd_same, fin _ _ g.h (by omega) hm⟩
  · rw [if_neg (by simp [hn])]
    refine PSs.to pss_nil ?_
    refine PS.to (ps_ret (pe_op op_mod (pe_callTy call_int1 (c.toCtx.gl (by decide +kernel)) bi.int PyProof.Rows.boot_int (pa_cons (pe_bm0 PySem.F.plainAttrs_list PySem.F.slot_list_pop PySem.F.type_list_pop mt_pop (pe_var (i := 0) (by rw [c.hN]; rfl) (c.toCtx.vis (by decide +kernel)) (by decide +kernel) (by decide +kernel))) pa_nil rfl)  (by decide +kernel) (by decide +kernel) rfl rfl) (pe_var (i := 1) (by rw [c.hN]; rfl) (c.toCtx.vis (by decide +kernel)) (by decide +kernel) (by decide +kernel)))) ?_
    have ha : H' a = some (.lst (ns.map V.int)) := g.h _ _ upd_same
    have hl : ns.getLast? = some (ns.getLast hn) := List.getLast?_eq_some_getLast hn
    refine ⟨.ref a, e0, .inl ⟨rfl, _, SqL.of ha⟩, a, _, .int (ns.getLast hn), rfl, rfl, ha, ?_, ?_⟩
    · rw [List.getElem?_map, List.length_map, ← List.getLast?_eq_getElem?, hl] <;> rfl
    refine .inl ⟨_, rfl, .int m, e1, _, _, rfl, rfl, hm, ns.dropLast, ?_, ?_⟩
    · rw [← List.map_dropLast]; exact upd_same
    · have e : ∀ x y : HO, upd (upd H' a x) a y = upd H' a y := fun x y => by
        funext b
        by_cases hb : b = a
        · subst hb; rw [upd_same, upd_same]
        · rw [upd_ne hb, upd_ne hb, upd_ne hb]
      rw [e]
      exact fin _ _ g.h (Int.emod_nonneg _ (by omega)) (Int.emod_lt_of_pos _ hm)

/-! ### steps, seen from all sides -/
theorem steps_facts {n : Nat} {g : Nat → Nat → Bool} (hg : Sym g) {a b : Nat} (ha : a < n) (hb : b < n) (hab : g a b = true) {p : Nat × Nat} (h : p ∈ stepsN n g a b) :
    p.1 < n ∧ p.2 < n ∧ p.1 ≠ p.2 ∧ g p.1 p.2 = true ∧ (a, b) ∈ stepsN n g p.1 p.2 ∧ (p.2, p.1) ∈ stepsN n g b a := by
  obtain ⟨x, y⟩ := p
  have hba : g b a = true := by rw [hg.1]; exact hab
  rcases mem_steps.mp h with ⟨h1, h2, h3, h4, h5⟩ | ⟨h1, h2, h3, h4, h5⟩
  · have h1' : x = a := h1
    subst h1'
    have e1 : g x y = true := h3
    have e2 : g b y = false := h4
    have ne : x ≠ y := fun e => by rw [e, hg.2] at e1; cases e1
    refine ⟨ha, h2, ne, e1, mem_steps.mpr (.inl ⟨rfl, hb, hab, by rw [hg.1]; exact e2, Ne.symm h5⟩), mem_steps.mpr (.inr ⟨rfl, h2, e1, e2, h5⟩)⟩
  · have h1' : y = b := h1
    subst h1'
    have e1 : g y x = true := h3
    have e2 : g a x = false := h4
    have ne : x ≠ y := fun e => by rw [e, hg.2] at e1; cases e1
    refine ⟨h2, hb, ne, by rw [hg.1]; exact e1, mem_steps.mpr (.inr ⟨rfl, ha, hba, by rw [hg.1]; exact e2, Ne.symm h5⟩), mem_steps.mpr (.inl ⟨rfl, h2, e1, e2, h5⟩)⟩
theorem steps_not {n : Nat} {g : Nat → Nat → Bool} (hg : Sym g) {a b : Nat} (hab : g a b = true) : (a, b) ∉ stepsN n g a b ∧ (b, a) ∉ stepsN n g a b := by
  have ne : a ≠ b := fun e => by rw [e, hg.2] at hab; cases hab
  refine ⟨fun h => ?_, fun h => ?_⟩
  · rcases mem_steps.mp h with ⟨_, _, _, _, h5⟩ | ⟨_, _, _, _, h5⟩
    · exact h5 rfl
    · exact h5 rfl
  · rcases mem_steps.mp h with ⟨h1, _⟩ | ⟨h1, _⟩
    · exact ne h1.symm
    · exact ne h1
theorem steps_nodup (n : Nat) (g : Nat → Nat → Bool) (a b : Nat) : (stepsN n g a b).Nodup := by
  unfold stepsN
  refine List.nodup_append.mpr ⟨?_, ?_, ?_⟩
  · refine List.Pairwise.map _ (fun x y h e => h ?_) (List.nodup_range.filter _)
    exact congrArg Prod.snd e
  · refine List.Pairwise.map _ (fun x y h e => h ?_) (List.nodup_range.filter _)
    exact congrArg Prod.fst e
  · intro p hp q hq e
    subst e
    obtain ⟨c, hc, rfl⟩ := List.mem_map.mp hp
    obtain ⟨d, hd, e⟩ := List.mem_map.mp hq
    rw [List.mem_filter] at hc hd
    have h1 := congrArg Prod.fst e
    have h2 := congrArg Prod.snd e
    simp at h1 h2 hc
    exact hc.2.2 h2.symm
/-- sorted without equal ones: ascending -/
theorem srt_lt {l : List (Int × Int)} (h : l.Nodup) : (srt l).Pairwise (SrtO.lexB · ·) := by
  have h1 := srt_sorted l
  have h2 : (srt l).Nodup := (srt_perm l).nodup_iff.mpr h
  have h3 := h1.and h2
  refine h3.imp fun {p q} ⟨e1, e2⟩ => ?_
  rw [leP_iff] at e1
  rw [SrtO.lexB_iff]
  rcases e1 with e1 | ⟨e1, e3⟩
  · exact .inl e1
  · refine .inr ⟨e1, ?_⟩
    rcases Int.lt_or_eq_of_le e3 with h | h
    · exact h
    · exact absurd (Prod.ext e1 h) e2
def dueL (n : Nat) (g : Nat → Nat → Bool) (a b : Nat) : List (Int × Int) := srt ((stepsN n g a b).map cp)
theorem mem_due {n : Nat} {g : Nat → Nat → Bool} {a b : Nat} {q : Int × Int} : q ∈ dueL n g a b ↔ ∃ p ∈ stepsN n g a b, q = cp p := by
  unfold dueL
  rw [(srt_perm _).mem_iff, List.mem_map]
  exact ⟨fun ⟨p, h, e⟩ => ⟨p, h, e.symm⟩, fun ⟨p, h, e⟩ => ⟨p, h, e.symm⟩⟩
theorem mem_due_cp {n : Nat} {g : Nat → Nat → Bool} {a b : Nat} {p : Nat × Nat} : cp p ∈ dueL n g a b ↔ p ∈ stepsN n g a b := by
  unfold dueL
  rw [(srt_perm _).mem_iff, mem_cp]
theorem due_lt (n : Nat) (g : Nat → Nat → Bool) (a b : Nat) : (dueL n g a b).Pairwise (SrtO.lexB · ·) := srt_lt (List.Pairwise.map _ (fun _ _ h e => h (cp_inj e)) (steps_nodup n g a b))
theorem due_len (n : Nat) (g : Nat → Nat → Bool) (a b : Nat) : (dueL n g a b).length ≤ 2 * n := by
  unfold dueL
  rw [(srt_perm _).length_eq, List.length_map]
  exact steps_len n g a b
/-- a pair of things, as a list or a tuple -/
theorem pairOf_seq {n : Nat} {d : D} {a b : Nat} (h : seqD d = some [.int (a : Int), .int (b : Int)]) (ha : a < n) (hb : b < n) (hab : a ≠ b) : pairOf (n : Int) d = some ((a : Int), (b : Int)) := by
  unfold pairOf
  rw [h]
  show (if _ then _ else _) = _
  rw [if_pos]
  simp [thB]
  omega
theorem okP_seq {d : D} {a b : Nat} (h : seqD d = some [.int (a : Int), .int (b : Int)]) : okP d := by
  refine ⟨?_, fun l hl x hx => ?_⟩
  · cases d <;> first | rfl | cases h
  · rw [h] at hl
    cases hl
    simp at hx
    rcases hx with rfl | rfl <;> rfl
theorem arrD_good {CB CT : Addr} {n : Nat} {g : Nat → Nat → Bool} {d : D} {P : Nat → Nat → Prop} {R : Addr → List (PySem.Str × D) → Prop} {a b : Nat} (h : pairOf (n : Int) d = some ((a : Int), (b : Int))) (hg : g a b = true) (p : P a b) : ArrD CB CT n g d P R := by
  refine ⟨fun e => (by rw [h] at e; cases e), fun a' b' e => ?_⟩
  rw [h] at e
  have e1 : (a : Int) = a' ∧ (b : Int) = b' := by simpa using e
  obtain rfl : a = a' := by omega
  obtain rfl : b = b' := by omega
  exact ⟨fun _ => p, fun z => (by rw [hg] at z; cases z)⟩
theorem forces_good {CW CB CT : Addr} {n : Nat} {g : Nat → Nat → Bool} {d d' : D} {P : D → Prop} {R : Addr → List (PySem.Str × D) → Prop} {a b a' b' : Nat} (hn : n ≤ 1000) (ok : okP d) (ok' : okP d') (h : pairOf (n : Int) d = some ((a : Int), (b : Int))) (h' : pairOf (n : Int) d' = some ((a' : Int), (b' : Int))) (hg : g a b = true) (hg' : g a' b' = true)
    (p : P (.bl (decide ((a', b') ∈ stepsN n g a b)))) : spForces CW CB CT [webO CW n g, d, d'] P R := by
  refine ⟨n, g, d, d', rfl, hn, ok, ok', fun e => (by rw [h] at e; cases e), fun x y e => ?_⟩
  rw [h] at e
  have e1 : (a : Int) = x ∧ (b : Int) = y := by simpa using e
  obtain rfl : a = x := by omega
  obtain rfl : b = y := by omega
  refine ⟨fun e => (by rw [h'] at e; cases e), fun x' y' e' => ?_⟩
  rw [h'] at e'
  have e2 : (a' : Int) = x' ∧ (b' : Int) = y' := by simpa using e'
  obtain rfl : a' = x' := by omega
  obtain rfl : b' = y' := by omega
  exact ⟨fun z => (by rw [hg] at z; cases z), fun _ => ⟨fun z => (by rw [hg'] at z; cases z), fun _ => p⟩⟩
/-- what the law has of the package -/
structure Fo (P : Program) (w : World) (K : PySem.W.Frag) (mg : PySem.Str → Option Value) (base : Heap) (k : Nat) (CW CB CT : Addr) : Prop where
  bi : Bi mg
  take : FnD P w K mg base "_law_take" k spTake
  pairs : FnD P w K mg base "_law_pairs" k spPairsL
  steps : FnD P w K mg base "_law_steps" k spSteps
  says : FnD P w K mg base "_law_says" k spSays
  by' : FnD P w K mg base "forced_by" k (spForcedBy CW CB CT)
  forces : FnD P w K mg base "forces" k (spForces CW CB CT)
def spRight (CW : Addr) : SpD := fun ds P _ => ∃ (n : Nat) (g : Nat → Nat → Bool) (a b : Nat) (l : List (Nat × Nat)), ds = [.drw, webO CW n g, webD n g, prn (a, b), .lst (l.map prn)] ∧ n ≤ 40 ∧ Sym g ∧ a < n ∧ b < n ∧ g a b = true ∧ 0 < l.length ∧ (∀ p ∈ l, p.1 < n ∧ p.2 < n ∧ g p.1 p.2 = true) ∧ P (.bl true)
abbrev N63 : List PySem.Str := ["_law_draws_here", "_law_web_here", "_law_near_here", "_law_arrow", "_law_arrows", "_law_a", "_law_b", "_law_due", "_law_told", "_law_c", "_law_d", "_law_k", "_law_other"]
end OB
set_option Elab.async false
set_option linter.all false
set_option maxRecDepth 100000
set_option maxHeartbeats 4000000
namespace OB
open PySem PySem.Spec PyProof.Rows L2
def pairV : D := .tup [.str "pair", .int 0]
def tiedV (a b : Nat) : D := .tup [.str "tied", prn (a, b)]
/-- what a refusal is told as -/
def RefOk (n : Nat) (g : Nat → Nat → Bool) (deed : Int) (d d' v : D) : Prop :=
  (deed = 0 ∧ ((pairOf n d = none ∧ v = pairV) ∨ ∃ a b : Nat, pairOf n d = some ((a : Int), (b : Int)) ∧ g a b = false ∧ v = tiedV a b)) ∨
  (deed = 1 ∧ ((pairOf n d = none ∧ v = pairV) ∨ (∃ a b : Nat, pairOf n d = some ((a : Int), (b : Int)) ∧ pairOf n d' = none ∧ v = pairV) ∨
    (∃ a b a' b' : Nat, pairOf n d = some ((a : Int), (b : Int)) ∧ pairOf n d' = some ((a' : Int), (b' : Int)) ∧ ((g a b = false ∧ v = tiedV a b) ∨ (g a b = true ∧ g a' b' = false ∧ v = tiedV a' b')))))
/-- the classes of errors that the law names -/
structure Xs (K : PySem.W.Frag) (mg : PySem.Str → Option Value) (CB CT CE : Addr) : Prop where
  gB : mg "BadPair" = some (.ref CB)
  gT : mg "NotTied" = some (.ref CT)
  gE : mg "BehindError" = some (.ref CE)
  xB : XfC K CB
  xT : XfC K CT
  np : PySem.W.findIn K (.ref CB) "place" = some none
  n1 : PySem.W.findIn K (.ref CT) "first" = some none
  n2 : PySem.W.findIn K (.ref CT) "second" = some none
  bb : PySem.W.exmOne K (.ref CB) (.ref CB) = some true
  tb : PySem.W.exmOne K (.ref CT) (.ref CB) = some false
  tt : PySem.W.exmOne K (.ref CT) (.ref CT) = some true
def spRefusal (CW : Addr) : SpD := fun ds P _ => ∃ (n : Nat) (g : Nat → Nat → Bool) (deed : Int) (d d' v : D), ds = [.int deed, webO CW n g, d, d'] ∧ n ≤ 1000 ∧ okP d ∧ okP d' ∧ RefOk n g deed d d' v ∧ P v
abbrev N64 : List PySem.Str := ["_law_deed", "_law_web_here", "_law_first", "_law_last", "_law_told", "e"]
theorem int_pair {i j i' j' : Nat} (e : some ((i : Int), (j : Int)) = some ((i' : Int), (j' : Int))) : i = i' ∧ j = j' := by
  have : (i : Int) = i' ∧ (j : Int) = j' := by simpa using e
  omega
end OB
set_option Elab.async false
set_option linter.all false
set_option maxRecDepth 100000
set_option maxHeartbeats 4000000
namespace OB
open PySem PySem.Spec PyProof.Rows L2
theorem eqd_refl {d : D} (h : shp d = true) : eqd d d = true := by
  unfold shp at h
  have h2 := (Bool.and_eq_true_iff.mp h).2
  unfold SeqAt.shaped at h2
  exact PySem.SeqAt.eqv_refl _ (Bool.and_eq_true_iff.mp h2).1
theorem shp_pairV : shp pairV = true := by simp [shp, pairV, pok, pokAll, py, pyAll, SeqAt.shaped, PyData.canLay0, PyData.canLayAll0, PyData.depth, PyData.depthAll]; decide +kernel
theorem shp_tiedV (a b : Nat) : shp (tiedV a b) = true := by simp [shp, tiedV, prn, pok, pokAll, py, pyAll, SeqAt.shaped, PyData.canLay0, PyData.canLayAll0, PyData.depth, PyData.depthAll]; decide +kernel
theorem RefOk.shp {n : Nat} {g : Nat → Nat → Bool} {deed : Int} {d d' v : D} (h : RefOk n g deed d d' v) : shp v = true := by
  rcases h with ⟨_, ⟨_, rfl⟩ | ⟨a, b, _, _, rfl⟩⟩ | ⟨_, ⟨_, rfl⟩ | ⟨a, b, _, _, rfl⟩ | ⟨a, b, a', b', _, _, ⟨_, rfl⟩ | ⟨_, _, rfl⟩⟩⟩
  all_goals first | exact shp_pairV | exact shp_tiedV _ _
structure Due where
  deed : Int
  d : D
  d' : D
  v : D
def dueD (x : Due) : D := .tup [.int x.deed, x.d, x.d', x.v]
def GoodDue (n : Nat) (g : Nat → Nat → Bool) (x : Due) : Prop := okP x.d ∧ okP x.d' ∧ RefOk n g x.deed x.d x.d' x.v
def badL (n : Nat) : List D := [.non, .tup [.int 0, .int 0], .lst [.int 0], .tup [.int 0, .int (n : Int)], .tup [.bl true, .int 0], .str "01", .tup [.int (-1), .int 0], .tup [.int 0, .int 1, .int 0]]
theorem okP_all {d : D} (h1 : okT d) (h2 : ∀ l, seqD d = some l → ∀ x ∈ l, okT x) : okP d := ⟨h1, h2⟩
theorem bad_get (n : Nat) {r : Nat} (h : r < 8) : ∃ x, (badL n)[r]? = some x ∧ okP x ∧ pairOf (n : Int) x = none := by
  have k : ∀ x ∈ badL n, okP x ∧ pairOf (n : Int) x = none := by
    intro x hx
    simp only [badL, List.mem_cons, List.not_mem_nil, or_false] at hx
    rcases hx with rfl | rfl | rfl | rfl | rfl | rfl | rfl | rfl
    all_goals refine ⟨⟨rfl, fun l hl y hy => ?_⟩, ?_⟩
    all_goals first
      | (cases hl; done)
      | (cases hl; simp at hy; rcases hy with rfl | rfl | rfl <;> rfl)
      | (cases hl; simp at hy; rcases hy with rfl | rfl <;> rfl)
      | (cases hl; simp at hy; subst hy; rfl)
      | rfl
      | (simp [pairOf, seqD, thB])
  have hl : r < (badL n).length := h
  exact ⟨_, List.getElem?_eq_getElem hl, k _ (List.getElem_mem hl)⟩
/-- what the law has besides -/
structure Fr2 (P : Program) (w : World) (K : PySem.W.Frag) (mg : PySem.Str → Option Value) (base : Heap) (k : Nat) (CW : Addr) : Prop where
  bi : Bi mg
  take : FnD P w K mg base "_law_take" k spTake
  ties : FnD P w K mg base "_law_ties" k spTies
  con : FnD P w K mg base "_law_contrary" k spContrary
  ref : FnD P w K mg base "_law_refusal" k (spRefusal CW)
def spRefused (CW : Addr) : SpD := fun ds P _ => ∃ (n : Nat) (g : Nat → Nat → Bool), ds = [.drw, webO CW n g, webD n g] ∧ n ≤ 40 ∧ Sym g ∧ P (.bl true)
abbrev N65 : List PySem.Str := ["_law_draws_here", "_law_web_here", "_law_near_here", "_law_size", "_law_bad", "_law_good", "_law_a", "_law_b", "_law_free", "_law_dues", "_law_one", "_law_two", "_law_wrong", "_law_deed", "_law_first", "_law_last", "_law_due"]
theorem goodDue_pair {n : Nat} {g : Nat → Nat → Bool} {deed : Int} {d d' : D} (hd : deed = 0 ∨ deed = 1) (ok : okP d) (ok' : okP d') (h : pairOf (n : Int) d = none) : GoodDue n g ⟨deed, d, d', pairV⟩ := by
  refine ⟨ok, ok', ?_⟩
  rcases hd with hd | hd
  · exact .inl ⟨hd, .inl ⟨h, rfl⟩⟩
  · exact .inr ⟨hd, .inl ⟨h, rfl⟩⟩
end OB
set_option Elab.async false
set_option linter.all false
set_option maxRecDepth 100000
set_option maxHeartbeats 4000000
namespace OB
open PySem PySem.Spec PyProof.Rows L2
structure DrF (P : Program) (w : World) (K : PySem.W.Frag) (mg : PySem.Str → Option Value) (base : Heap) (x : PySem.Str) (k : Nat) : Prop where
  ex : ∃ (f : Addr) (fd : FuncData) (ps : List PySem.Str), mg x = some (.ref f) ∧ PySem.W.keepIn K (.ref f) = true ∧ Binds K fd ps [] ∧ FnOk P w K mg base (L2.CX P w) k f fd ps (spDr K)
section
variable {X : Cx} {N : List PySem.Str} {S scope : Scope} {B0 H0 : Hp} {sds : List SD} {os : List (Addr × OV)} {P : D → Prop} {p px pos : Pos} {k : Nat}
theorem ex_draws (c : Ctx X N S) (F : DrF X.prog X.w X.K X.mg X.base "_law_draws" k) (hr : Room k X.A) (i : Nat) {x : PySem.Str} {a : Addr} {ns : List Int} (hq : SqL X.K H0 a (ns.map V.int)) (hn : ns.length ≤ 63) (hp : P .drw) (hs : sds[i]? = some (.v (.ref a)) := by rfl)
    (hN : N[i]? = some x := by rfl) (hv : visB S x = true := by decide +kernel) (hd : (x == ("__debug__" : PySem.Str)) = false := by decide +kernel) (hcd : (x == ("__classdict__" : PySem.Str)) = false := by decide +kernel) (hg : glB S "_law_draws" = true := by decide +kernel)
    (he : starEach [.Name x px] X.env = [(false, eval (.Name x px) X.env)] := by rfl) : EX X B0 H0 sds os (.Call (.Name "_law_draws" p) [.Name x px] [] pos) P := fun B H σ s Q q => by
  obtain ⟨f, fd, ps, h1, h2, h3, h4⟩ := F.ex
  refine PE.to (pe_call h4 hr (c.gl hg) h1 h2 h3 .nil passL (pa_cons (pe_var (i := i) (by rw [c.hN]; exact hN) (c.vis hv) hd hcd) pa_nil he) (by decide +kernel) he rfl) ?_
  exact ⟨.ref a, s.varV hs, a, ns, B, rfl, sqL_mono hq s.g.h, hn, s.g.bh, fun v B' H' g i => q v B' H' .drw g i hp⟩
end
/-- what the law's own def calls -/
structure Lw (P : Program) (w : World) (K : PySem.W.Frag) (mg : PySem.Str → Option Value) (base : Heap) (k : Nat) (CW : Addr) : Prop where
  bi : Bi mg
  draws : DrF P w K mg base "_law_draws" k
  web : FnD P w K mg base "_law_web" k (spWeb 4)
  ties : FnD P w K mg base "_law_ties" k spTies
  mkW : MkD P w K mg base "Web" CW k spWebI
  right : FnD P w K mg base "_law_arrow_right" k (spRight CW)
  refused : FnD P w K mg base "_law_refused" k (spRefused CW)
abbrev N66 : List PySem.Str := ["_law_script", "_law_draws_here", "_law_near_here", "_law_web_here", "_law_ties_here", "_law_arrows", "_law_a", "_law_b", "_law_arrow"]
end OB
set_option Elab.async false
set_option linter.all false
set_option maxRecDepth 100000
set_option maxHeartbeats 4000000
namespace OB
open PySem PySem.Spec PyProof.Rows L2
/-! ### walks of forced arrows, their least lengths -/
abbrev Arr := Nat × Nat
def Ar (n : Nat) (g : Nat → Nat → Bool) (p : Arr) : Prop := p.1 < n ∧ p.2 < n ∧ g p.1 p.2 = true
def nxt (n : Nat) (g : Nat → Nat → Bool) (p : Arr) : List Arr := stepsN n g p.1 p.2
def Wk (n : Nat) (g : Nat → Nat → Bool) : Nat → Arr → Arr → Prop
  | 0, p, q => p = q
  | d + 1, p, q => ∃ r, r ∈ nxt n g p ∧ Wk n g d r q
def Ds (n : Nat) (g : Nat → Nat → Bool) (d : Nat) (p q : Arr) : Prop := Wk n g d p q ∧ ∀ e, e < d → ¬ Wk n g e p q
section
variable {n : Nat} {g : Nat → Nat → Bool} {p q r : Arr} {d e : Nat}
theorem nxt_ar (hg : Sym g) (h : Ar n g p) (hq : q ∈ nxt n g p) : Ar n g q ∧ p ∈ nxt n g q := by
  obtain ⟨h1, h2, _, h4, h5, _⟩ := steps_facts hg h.1 h.2.1 h.2.2 hq
  exact ⟨⟨h1, h2, h4⟩, h5⟩
theorem Wk.snoc : ∀ {d : Nat} {p : Arr}, Wk n g d p r → q ∈ nxt n g r → Wk n g (d + 1) p q
  | 0, p, h, hq => by cases h; exact ⟨q, hq, rfl⟩
  | d + 1, p, ⟨x, hx, h⟩, hq => ⟨x, hx, Wk.snoc h hq⟩
theorem Wk.rev (hg : Sym g) : ∀ {d : Nat} {p : Arr}, Ar n g p → Wk n g d p q → Ar n g q ∧ Wk n g d q p
  | 0, p, hp, h => by cases h; exact ⟨hp, rfl⟩
  | d + 1, p, hp, ⟨x, hx, h⟩ => by
    obtain ⟨ax, px⟩ := nxt_ar hg hp hx
    obtain ⟨aq, w⟩ := Wk.rev hg ax h
    exact ⟨aq, w.snoc px⟩
theorem Wk.last : ∀ {d : Nat} {p : Arr}, Wk n g (d + 1) p q → ∃ r, Wk n g d p r ∧ q ∈ nxt n g r
  | 0, p, ⟨x, hx, h⟩ => by cases h; exact ⟨p, rfl, hx⟩
  | d + 1, p, ⟨x, hx, h⟩ => by
    obtain ⟨r, h1, h2⟩ := Wk.last h
    exact ⟨r, ⟨x, hx, h1⟩, h2⟩
theorem Wk.trans : ∀ {d e : Nat} {p : Arr}, Wk n g d p r → Wk n g e r q → Wk n g (d + e) p q
  | 0, e, p, h, h' => by cases h; rw [Nat.zero_add]; exact h'
  | d + 1, e, p, ⟨x, hx, h⟩, h' => by
    rw [Nat.add_right_comm]
    exact ⟨x, hx, Wk.trans h h'⟩
theorem Ds.uniq (h : Ds n g d p q) (h' : Ds n g e p q) : d = e := by
  rcases Nat.lt_trichotomy d e with x | x | x
  · exact absurd h.1 (h'.2 d x)
  · exact x
  · exact absurd h'.1 (h.2 e x)
theorem ds_of : ∀ (d : Nat), Wk n g d p q → ∃ e, e ≤ d ∧ Ds n g e p q := by
  intro d
  induction d using Nat.strongRecOn with
  | _ d ih =>
    intro h
    rcases Classical.em (∃ e, e < d ∧ Wk n g e p q) with ⟨e, he, h'⟩ | z
    · obtain ⟨e', h1, h2⟩ := ih e he h'
      exact ⟨e', by omega, h2⟩
    · exact ⟨d, Nat.le_refl _, h, fun e he h' => z ⟨e, he, h'⟩⟩
theorem Ds.le (h : Ds n g d p q) (h' : Wk n g e p q) : d ≤ e := by
  rcases Nat.lt_or_ge e d with x | x
  · exact absurd h' (h.2 e x)
  · exact x
theorem ds_zero : Ds n g 0 p p := ⟨rfl, fun e he => by omega⟩
theorem Ds.eq (h : Ds n g 0 p q) : p = q := h.1
theorem Ds.first (h : Ds n g (d + 1) p q) : ∃ r, r ∈ nxt n g p ∧ Ds n g d r q := by
  obtain ⟨r, hr, w⟩ := h.1
  refine ⟨r, hr, w, fun e he w' => h.2 (e + 1) (by omega) ⟨r, hr, w'⟩⟩
theorem Ds.last (h : Ds n g (d + 1) p q) : ∃ r, Ds n g d p r ∧ q ∈ nxt n g r := by
  obtain ⟨r, w, hr⟩ := h.1.last
  exact ⟨r, ⟨w, fun e he w' => h.2 (e + 1) (by omega) (w'.snoc hr)⟩, hr⟩
theorem Ds.rev (hg : Sym g) (hp : Ar n g p) (h : Ds n g d p q) : Ar n g q ∧ Ds n g d q p := by
  obtain ⟨a, w⟩ := h.1.rev hg hp
  exact ⟨a, w, fun e he w' => h.2 e he (w'.rev hg a).2⟩
theorem nodup_lt {m : Nat} {l : List Nat} (hn : l.Nodup) (h : ∀ x ∈ l, x < m) : l.length ≤ m := by
  have p : l.Perm ((List.range m).filter fun x => decide (x ∈ l)) := (List.perm_ext_iff_of_nodup hn (List.Pairwise.filter _ List.nodup_range)).mpr fun x => by
    simp only [List.mem_filter, List.mem_range, decide_eq_true_eq]
    exact ⟨fun q => ⟨h x q, q⟩, fun q => q.2⟩
  rw [p.length_eq]
  exact Nat.le_trans (List.length_filter_le _ _) (by simp)
/-- lists of different arrows are short -/
theorem arr_len {l : List Arr} (hn : l.Nodup) (h : ∀ x ∈ l, Ar n g x) : l.length ≤ n * n := by
  have e : (l.map fun x : Arr => x.1 * n + x.2).Nodup := by
    refine List.pairwise_map.mpr (List.Pairwise.imp_of_mem (fun {a b} ha hb hab e => hab ?_) hn)
    have h1 := h a ha
    have h2 := h b hb
    have h3 : a.1 = b.1 := by
      have d1 : (a.1 * n + a.2) / n = a.1 := by rw [Nat.mul_comm, Nat.mul_add_div (by have := h1.2.1; omega), Nat.div_eq_of_lt h1.2.1, Nat.add_zero]
      have d2 : (b.1 * n + b.2) / n = b.1 := by rw [Nat.mul_comm, Nat.mul_add_div (by have := h2.2.1; omega), Nat.div_eq_of_lt h2.2.1, Nat.add_zero]
      rw [← d1, ← d2, e]
    rw [h3] at e
    exact Prod.ext h3 (by omega)
  have := nodup_lt (m := n * n) e fun x hx => by
    obtain ⟨y, hy, rfl⟩ := List.mem_map.mp hx
    have h1 := h y hy
    have : (y.1 + 1) * n ≤ n * n := Nat.mul_le_mul_right _ (by have := h1.1; omega)
    rw [Nat.succ_mul] at this
    have := h1.2.1
    omega
  simpa using this
end
/-- a shortest path -/
structure IsSP (n : Nat) (g : Nat → Nat → Bool) (p q : Arr) (l : List Arr) : Prop where
  hd : l[0]? = some p
  lt : l.getLast? = some q
  st : ∀ i a b, l[i]? = some a → l[i + 1]? = some b → b ∈ nxt n g a
  ln : ∃ d, l.length = d + 1 ∧ Ds n g d p q
/-! ### the table of what comes next -/
def keyA (p : Arr) : List Key := [.inl (p.1 : Int), .inl (p.2 : Int)]
theorem keyA_D (p : Arr) : keyD (keyA p) = prn p := rfl
theorem keyA_inj {p q : Arr} (h : keyA p = keyA q) : p = q := by
  have h1 : (p.1 : Int) = q.1 ∧ (p.2 : Int) = q.2 := by simpa [keyA] using h
  exact Prod.ext (by omega) (by omega)
/-- the table of all that lie at most L off t -/
structure TabN (n : Nat) (g : Nat → Nat → Bool) (t : Arr) (L : Nat) (ks : List Arr) (m : DM) : Prop where
  ke : m.map (·.1) = ks.map keyA
  nd : ks.Nodup
  al : ∀ x, x ∈ ks ↔ Ar n g x ∧ ∃ d, d ≤ L ∧ Ds n g d x t
  zero : valM m (keyA t) = some .non
  more : ∀ x d, Ar n g x → d + 1 ≤ L → Ds n g (d + 1) x t → ∃ y, valM m (keyA x) = some (prn y) ∧ y ∈ nxt n g x ∧ Ds n g d y t
/-- what the table tells along a path -/
def Tells (m : DM) (l : List Arr) : Prop := ∀ i a, l[i]? = some a → valM m (keyA a) = some (match l[i + 1]? with | some b => prn b | none => .non)
theorem TabN.path {n : Nat} {g : Nat → Nat → Bool} {t : Arr} {L : Nat} {ks : List Arr} {m : DM} (hg : Sym g) (T : TabN n g t L ks m) : ∀ (d : Nat) (x : Arr), Ar n g x → d ≤ L → Ds n g d x t → ∃ l, IsSP n g x t l ∧ Tells m l ∧ l.length = d + 1
  | 0, x, _, _, h => by
    have e := h.eq
    subst e
    refine ⟨[x], ⟨rfl, rfl, fun i a b h1 h2 => by simp at h2, 0, rfl, ds_zero⟩, fun i a hi => ?_, rfl⟩
    cases i with
    | zero => cases hi; exact T.zero
    | succ i => simp at hi
  | d + 1, x, hx, hL, h => by
    obtain ⟨y, h1, h2, h3⟩ := T.more x d hx hL h
    obtain ⟨l, sp, tl, ll⟩ := T.path hg d y (nxt_ar hg hx h2).1 (by omega) h3
    refine ⟨x :: l, ⟨rfl, ?_, fun i a b e1 e2 => ?_, d + 1, by rw [List.length_cons, ll], h⟩, fun i a hi => ?_, by rw [List.length_cons, ll]⟩
    · rw [List.getLast?_cons]
      cases hl : l.getLast? with
      | none => rw [sp.lt] at hl; cases hl
      | some z => rw [sp.lt] at hl; cases hl; rfl
    · cases i with
      | zero =>
        cases e1
        rw [List.getElem?_cons_succ, sp.hd] at e2
        cases e2; exact h2
      | succ i => exact sp.st i a b (by simpa using e1) (by simpa using e2)
    · cases i with
      | zero =>
        cases hi
        rw [List.getElem?_cons_succ, sp.hd]; exact h1
      | succ i => exact tl i a (by simpa using hi)
end OB
set_option Elab.async false
set_option linter.all false
set_option maxRecDepth 100000
set_option maxHeartbeats 4000000
namespace OB
open PySem PySem.Spec PyProof.Rows L2
/-! ### path_from, chain -/
theorem atI_neg1 {α : Type} {l : List α} {x : α} (h : l.getLast? = some x) : atI l (-1) = some x := by
  have h0 : l ≠ [] := fun e => by rw [e] at h; cases h
  have hp : 0 < l.length := List.length_pos_iff.mpr h0
  rw [List.getLast?_eq_getElem?] at h
  unfold L2.atI L2.ixN
  rw [if_neg (by decide), if_pos (by omega)]
  show l[((-1 : Int) + (l.length : Int)).toNat]? = some x
  rw [show ((-1 : Int) + (l.length : Int)).toNat = l.length - 1 by omega]
  exact h
theorem last_take {α : Type} {l : List α} {k : Nat} {x : α} (h : l[k]? = some x) : (l.take (k + 1)).getLast? = some x := by
  rw [List.take_succ, h]
  simp
theorem last_map {α β : Type} {l : List α} {x : α} {f : α → β} (h : l.getLast? = some x) : (l.map f).getLast? = some (f x) := by
  rw [List.getLast?_map, h]; rfl
def spPathFrom : SpD := fun ds P _ => ∃ (m : DM) (p : Arr) (l : List Arr), ds = [.dct m, prn p] ∧ l[0]? = some p ∧ l.length ≤ 90000 ∧ Tells m l ∧ P (.tup (l.map prn))
abbrev NpathFrom : List PySem.Str := ["onward", "first", "path"]
/-! chain -/
def spChain (CW CB CT : Addr) : SpD := fun ds P R => ∃ (n : Nat) (g : Nat → Nat → Bool) (d d' : D), ds = [webO CW n g, d, d'] ∧ n ≤ 100 ∧ Sym g ∧ okP d ∧ okP d' ∧ (pairOf n d = none → R CB placeF) ∧
  ∀ a b : Nat, pairOf n d = some ((a : Int), (b : Int)) → (pairOf n d' = none → R CB placeF) ∧ ∀ a' b' : Nat, pairOf n d' = some ((a' : Int), (b' : Int)) → (g a b = false → R CT (tiedF a b)) ∧ (g a b = true → (g a' b' = false → R CT (tiedF a' b')) ∧ (g a' b' = true → a < n → b < n → a' < n → b' < n →
    ((∀ d, ¬ Wk n g d (a, b) (a', b')) → P .non) ∧ ∀ l, IsSP n g (a, b) (a', b') l → P (.tup (l.map prn))))
abbrev Nchain : List PySem.Str := ["web", "first", "last", "onward", "layer", "coming", "arrow", "step"]
/-- within a layer: what has come behind ks -/
structure Mid (n : Nat) (g : Nat → Nat → Bool) (t : Arr) (L : Nat) (ks : List Arr) (m : DM) (C : List Arr) (m' : DM) : Prop where
  ke : m'.map (·.1) = (ks ++ C).map keyA
  nd : (ks ++ C).Nodup
  old : ∀ x, x ∈ ks → valM m' (keyA x) = valM m (keyA x)
  new : ∀ x, x ∈ C → Ar n g x ∧ Ds n g (L + 1) x t ∧ ∃ y, valM m' (keyA x) = some (prn y) ∧ y ∈ nxt n g x ∧ Ds n g L y t
theorem keyA_mem {ks : List Arr} {m : DM} (h : m.map (·.1) = ks.map keyA) (x : Arr) : (valM m (keyA x)).isSome = true ↔ x ∈ ks := by
  rw [valM_mem, h, List.mem_map]
  exact ⟨fun ⟨y, hy, e⟩ => by rw [← keyA_inj e]; exact hy, fun h => ⟨x, h, rfl⟩⟩
theorem Mid.step {n : Nat} {g : Nat → Nat → Bool} {t : Arr} {L : Nat} {ks : List Arr} {m : DM} {C : List Arr} {m' : DM} (hg : Sym g) (T : TabN n g t L ks m) (M : Mid n g t L ks m C m') {a x : Arr} (ha : Ar n g a) (da : Ds n g L a t) (hx : x ∈ nxt n g a) (hno : x ∉ ks ++ C) :
    Mid n g t L ks m (C ++ [x]) (m' ++ [(keyA x, prn a)]) := by
  obtain ⟨ax, bx⟩ := nxt_ar hg ha hx
  have hv : valM m' (keyA x) = none := by
    cases e : valM m' (keyA x) with
    | none => rfl
    | some z => exact absurd ((keyA_mem M.ke x).mp (by rw [e]; rfl)) hno
  have ne : ∀ y, y ∈ ks ++ C → keyA x ≠ keyA y := fun y hy e => hno (by rw [keyA_inj e]; exact hy)
  have vo : ∀ y, y ∈ ks ++ C → valM (m' ++ [(keyA x, prn a)]) (keyA y) = valM m' (keyA y) := fun y hy => by
    rw [valM_app, if_neg (ne y hy), Option.or_none]
  refine ⟨by rw [List.map_append, M.ke]; simp, ?_, fun y hy => ?_, fun y hy => ?_⟩
  · rw [← List.append_assoc]
    refine List.nodup_append.mpr ⟨M.nd, by simp, fun u hu v hv' e => ?_⟩
    have : v = x := by simpa using hv'
    subst this; subst e; exact hno hu
  · rw [vo y (List.mem_append_left _ hy)]; exact M.old y hy
  · rcases List.mem_append.mp hy with hy | hy
    · obtain ⟨h1, h2, z, h3, h4, h5⟩ := M.new y hy
      exact ⟨h1, h2, z, by rw [vo y (List.mem_append_right _ hy)]; exact h3, h4, h5⟩
    · have : y = x := by simpa using hy
      subst this
      refine ⟨ax, ⟨⟨a, bx, da.1⟩, fun e he w => ?_⟩, a, by rw [valM_app, hv, if_pos rfl]; rfl, bx, da⟩
      obtain ⟨e', h1, h2⟩ := ds_of e w
      exact hno (List.mem_append_left _ ((T.al y).mpr ⟨ax, e', by omega, h2⟩))
theorem Mid.next {n : Nat} {g : Nat → Nat → Bool} {t : Arr} {L : Nat} {ks : List Arr} {m : DM} {C : List Arr} {m' : DM} (hg : Sym g) (T : TabN n g t L ks m) (M : Mid n g t L ks m C m') (at' : Ar n g t) (all : ∀ r, Ar n g r → Ds n g L r t → ∀ x, x ∈ nxt n g r → x ∈ ks ++ C) :
    TabN n g t (L + 1) (ks ++ C) m' ∧ ∀ x, x ∈ C ↔ Ar n g x ∧ Ds n g (L + 1) x t := by
  have key : ∀ x, Ar n g x → Ds n g (L + 1) x t → x ∈ ks ++ C := fun x ax dx => by
    obtain ⟨r, hr, dr⟩ := dx.first
    obtain ⟨ar, br⟩ := nxt_ar hg ax hr
    exact all r ar dr x br
  have zt : t ∈ ks := (T.al t).mpr ⟨at', 0, Nat.zero_le _, ds_zero⟩
  have hC : ∀ x, x ∈ C ↔ Ar n g x ∧ Ds n g (L + 1) x t := fun x => by
    refine ⟨fun h => ⟨(M.new x h).1, (M.new x h).2.1⟩, fun ⟨ax, dx⟩ => ?_⟩
    rcases List.mem_append.mp (key x ax dx) with h | h
    · obtain ⟨_, d, hd, dd⟩ := (T.al x).mp h
      have := dd.uniq dx
      omega
    · exact h
  refine ⟨⟨M.ke, M.nd, fun x => ?_, ?_, fun x d ax hd dx => ?_⟩, hC⟩
  · constructor
    · intro h
      rcases List.mem_append.mp h with h | h
      · obtain ⟨a1, d, hd, dd⟩ := (T.al x).mp h
        exact ⟨a1, d, by omega, dd⟩
      · obtain ⟨a1, dd⟩ := (hC x).mp h
        exact ⟨a1, L + 1, Nat.le_refl _, dd⟩
    · rintro ⟨a1, d, hd, dd⟩
      by_cases e : d ≤ L
      · exact List.mem_append_left _ ((T.al x).mpr ⟨a1, d, e, dd⟩)
      · have : d = L + 1 := by omega
        subst this
        exact key x a1 dd
  · rw [M.old t zt]; exact T.zero
  · by_cases e : d + 1 ≤ L
    · obtain ⟨y, h1, h2, h3⟩ := T.more x d ax e dx
      exact ⟨y, by rw [M.old x ((T.al x).mpr ⟨ax, d + 1, e, dx⟩)]; exact h1, h2, h3⟩
    · have : d = L := by omega
      subst this
      exact (M.new x ((hC x).mpr ⟨ax, dx⟩)).2.2
theorem TabN.len {n : Nat} {g : Nat → Nat → Bool} {t : Arr} {L : Nat} {ks : List Arr} {m : DM} (T : TabN n g t L ks m) : ks.length ≤ n * n ∧ m.length = ks.length := by
  refine ⟨arr_len T.nd fun x hx => ((T.al x).mp hx).1, ?_⟩
  have := congrArg List.length T.ke
  rwa [List.length_map, List.length_map] at this
theorem tab0 {n : Nat} {g : Nat → Nat → Bool} {t : Arr} (at' : Ar n g t) : TabN n g t 0 [t] [(keyA t, .non)] := by
  refine ⟨rfl, by simp, fun x => ?_, by rw [valM_cons, if_pos rfl], fun x d _ hd => by omega⟩
  constructor
  · intro h
    have : x = t := by simpa using h
    subst this
    exact ⟨at', 0, Nat.le_refl _, ds_zero⟩
  · rintro ⟨_, d, hd, dd⟩
    have : d = 0 := by omega
    subst this
    rw [dd.eq]; simp
end OB
set_option Elab.async false
set_option linter.all false
set_option maxRecDepth 100000
set_option maxHeartbeats 4000000
namespace OB
open PySem PySem.Spec PyProof.Rows L2
/-! ### pair in web; is_chain -/
section
variable {X : Cx} {N : List PySem.Str} {S : Scope} {B0 H0 : Hp} {sds : List SD} {os : List (Addr × OV)} {P : D → Prop} {px pos : Pos} {C : Addr} {n : Nat} {g : Nat → Nat → Bool}
theorem ex_maskT (c : Ctx X N S) (wc : WebC X.K C) (i : Nat) {x : PySem.Str} (h : P (.tup (maskl n g))) (hs : sds[i]? = some (.d (webO C n g)) := by rfl) (hN : N[i]? = some x := by rfl) (hv : visB S x = true := by decide +kernel)
    (hd : (x == ("__debug__" : PySem.Str)) = false := by decide +kernel) (hcd : (x == ("__classdict__" : PySem.Str)) = false := by decide +kernel) (hb : attributeBase (.Name x px) "masks" X.env (eval (.Name x px) X.env) = eval (.Name x px) X.env := by rfl) : EX X B0 H0 sds os (.Attribute (.Name x px) "masks" pos) P :=
  ex_fld (ex_var c i ⟨C, webFs n g, .tup (maskl n g), rfl, wc.cl, wc.m, rfl, h⟩ hs hN hv hd hcd) hb
end
/-- the pair's things are tied -/
def tiedD (n : Nat) (g : Nat → Nat → Bool) (d : D) : Bool := match pairOf n d with
  | some (i, j) => g i.toNat j.toNat
  | none => false
def spCont (CW : Addr) : SpD := fun ds P _ => ∃ (n : Nat) (g : Nat → Nat → Bool) (d : D), ds = [webO CW n g, d] ∧ n ≤ 1000 ∧ okP d ∧ P (.bl (tiedD n g d))
abbrev sWebIn : Stmt := inClass (top 44) 11
abbrev Ncont : List PySem.Str := ["self", "pair"]
theorem body_contains {X : Cx} (c : CtxT X Ncont (defScope sWebIn)) {CW : Addr} (wc : WebC X.K CW) {k : Nat} (hr : Room k X.A) (fIs : FnD X.prog X.w X.K X.mg X.base "is_pair" k spIsPair) (fHas : FnD X.prog X.w X.K X.mg X.base "has_thing" k spHas) : BodyOk X Ncont (spCont CW) (defBody sWebIn) := by
  intro ds P R h B0 H0 air
  obtain ⟨n, g, d, rfl, hn, ok, hp⟩ := h
  refine go_cons (g1_ret (ex_andV (k1 := (pairOf n d).isSome) (k2 := tiedD n g d) (ex_call c.toCtx fIs hr (ea_cons (ex_size c.toCtx wc 0 (ea_cons (ex_var c.toCtx 1 (ea_nil ⟨n, d, rfl, ok, rfl⟩)))))) (fun hs => ex_one ?_) ?_))
  · obtain ⟨⟨i, j⟩, e⟩ := Option.isSome_iff_exists.mp hs
    obtain ⟨a, b, rfl, rfl, ha, hb, hab⟩ := pairOf_nat e
    have sq : seqD d = some [.int (a : Int), .int (b : Int)] := by rcases (pairOf_some e).1 with z | z <;> rw [z] <;> rfl
    refine ex_call c.toCtx fHas hr (ea_cons (ex_ix (ex_maskT c.toCtx wc 0 (ex_ix (ex_var c.toCtx 1 (ex_int ⟨0, rfl, ix_seqD (j := 0) sq rfl ⟨(a : Int), rfl, ixT a (maskl_get ha) (ea_cons (ex_ix (ex_var c.toCtx 1 (ex_int ⟨1, rfl, ix_seqD (j := 1) sq rfl (ea_nil ⟨mskN n (g a), b, rfl, ?_⟩)⟩))))⟩⟩))))))
    rw [mskN_bit, decide_eq_true hb, Bool.true_and]
    unfold tiedD
    rw [e]; rfl
  · have e : ((pairOf n d).isSome && tiedD n g d) = tiedD n g d := by
      unfold tiedD
      cases pairOf n d <;> rfl
    rw [e]; exact hp
theorem Blk.owD {X : Cx} {scope : Scope} {X' : Cx} (b : Blk X scope X') {C : Addr} {m : PySem.Str} {k : Nat} {S : SpD} (F : OwD X.prog X.w X.K X.mg X.base C m k S) : OwD X'.prog X'.w X'.K X'.mg X'.base C m k S := by
  obtain ⟨_, _, _, _, _, rfl⟩ := b
  exact F
/-- the arrow that a pair is -/
def arrOf (d : D) : Arr := match seqD d with
  | some [.int i, .int j] => (i.toNat, j.toNat)
  | _ => (0, 0)
def linkB (n : Nat) (g : Nat → Nat → Bool) : List Arr → Bool
  | [] => true
  | [_] => true
  | a :: b :: l => (decide (a = b) || decide (b ∈ nxt n g a)) && linkB n g (b :: l)
theorem linkB_zip (n : Nat) (g : Nat → Nat → Bool) : ∀ l : List Arr, linkB n g l = (l.zip l.tail).all fun q => decide (q.1 = q.2) || decide (q.2 ∈ nxt n g q.1)
  | [] => rfl
  | [_] => rfl
  | a :: b :: l => by
    rw [linkB, linkB_zip n g (b :: l)]
    rfl
/-- a chain of the web -/
def chB (n : Nat) (g : Nat → Nat → Bool) (d : D) : Bool := match seqD d with
  | some l => !decide (l = []) && (l.all (tiedD n g) && linkB n g (l.map arrOf))
  | none => false
theorem tied_arr {n : Nat} {g : Nat → Nat → Bool} {d : D} (h : tiedD n g d = true) : Ar n g (arrOf d) ∧ (d = .tup [.int ((arrOf d).1 : Int), .int ((arrOf d).2 : Int)] ∨ d = .lst [.int ((arrOf d).1 : Int), .int ((arrOf d).2 : Int)]) := by
  unfold tiedD at h
  cases e : pairOf n d with
  | none => rw [e] at h; cases h
  | some p =>
    obtain ⟨i, j⟩ := p
    rw [e] at h
    obtain ⟨a, b, rfl, rfl, ha, hb, hab⟩ := pairOf_nat e
    have h' : g a b = true := h
    rcases (pairOf_some e).1 with z | z
    · have ea : arrOf d = (a, b) := by rw [z]; rfl
      rw [ea]; exact ⟨⟨ha, hb, h'⟩, .inr z⟩
    · have ea : arrOf d = (a, b) := by rw [z]; rfl
      rw [ea]; exact ⟨⟨ha, hb, h'⟩, .inl z⟩
theorem eqd_prn (a b : Arr) : eqd (prn a) (prn b) = decide (a = b) := by
  show eqd (pr (cp a)) (pr (cp b)) = _
  rw [eqd_pr]
  exact decide_eq_decide.mpr ⟨cp_inj, fun e => by rw [e]⟩
theorem shp_prn (a : Arr) : shp (prn a) = true := shp_pr (cp a)
theorem shp_prns (l : List Arr) : shp (.lst (l.map prn)) = true := by rw [map_prn]; exact shp_prs _
theorem any_prn (l : List Arr) (p : Arr) : ((l.map prn).any fun z => eqd z (prn p)) = decide (p ∈ l) := by
  rw [map_prn]
  show (((l.map cp).map pr).any fun z => eqd z (pr (cp p))) = _
  rw [any_prs]
  exact decide_eq_decide.mpr mem_cp
/-- what is_chain may be asked -/
def okCh (d : D) : Prop := okT d ∧ ∀ l, seqD d = some l → l.length ≤ 10000 ∧ ∀ x ∈ l, okP x
def spIsChain (CW : Addr) : SpD := fun ds P _ => ∃ (n : Nat) (g : Nat → Nat → Bool) (d : D), ds = [webO CW n g, d] ∧ n ≤ 100 ∧ okCh d ∧ P (.bl (chB n g d))
abbrev NisChain : List PySem.Str := ["web", "arrows", "arrow", "path", "first", "second", "one", "other"]
theorem zip_zipD (l m : List Arr) : zipD (l.map prn) (m.map prn) = (l.zip m).map fun q => .tup [prn q.1, prn q.2] := by
  unfold zipD
  rw [List.zipWith_map, List.map_zip_eq_zipWith]
  rfl
section
variable {X : Cx} {N : List PySem.Str} {S scope : Scope} {B0 H0 : Hp} {sds : List SD} {os : List (Addr × OV)} {P : List D → Prop} {e tg : Expr}
theorem ix_ld {d : D} {l : List D} (hd : d = .lst l ∨ d = .tup l) (h : EX X B0 H0 sds os e fun d' => d' = d ∧ P l) : IX X B0 H0 sds os tg e P := by
  rcases hd with z | z
  · exact ix_list (h.imp fun d' ⟨e1, p⟩ => ⟨l, e1.trans z, p⟩)
  · exact ix_tup (h.imp fun d' ⟨e1, p⟩ => ⟨l, e1.trans z, p⟩)
theorem tbs_cons' (c : Ctx X N S) {x : PySem.Str} {px : Pos} {es : List Expr} {is : List Nat} (i : Nat) (h : PGs X es (gNames is)) (hN : N[i]? = some x := by rfl) (hv : lclB S x = true := by decide +kernel) (hs : (assignEach (.Name x px :: es) X.env).map (·.2) = assign (.Name x px) X.env :: (assignEach es X.env).map (·.2) := by rfl) : PGs X (.Name x px :: es) (gNames (i :: is)) := tbs_cons c i h hN hv hs
end
theorem all_bools {α : Type} (l : List α) (f : α → Bool) : (l.map f).all id = l.all f := by rw [List.all_map]; rfl
end OB
set_option Elab.async false
set_option linter.all false
set_option maxRecDepth 100000
set_option maxHeartbeats 4000000
namespace OB
open PySem PySem.Spec PyProof.Rows L2
/-! ### classes -/
/-- q is forced by p, by steps -/
def Fc (n : Nat) (g : Nat → Nat → Bool) (p q : Arr) : Prop := ∃ d, Wk n g d p q
theorem Fc.refl {n : Nat} {g : Nat → Nat → Bool} (p : Arr) : Fc n g p p := ⟨0, rfl⟩
theorem Fc.step {n : Nat} {g : Nat → Nat → Bool} {p q r : Arr} (h : Fc n g p q) (hr : r ∈ nxt n g q) : Fc n g p r := by
  obtain ⟨d, w⟩ := h
  exact ⟨d + 1, w.snoc hr⟩
theorem Fc.trans {n : Nat} {g : Nat → Nat → Bool} {p q r : Arr} (h : Fc n g p q) (h' : Fc n g q r) : Fc n g p r := by
  obtain ⟨d, w⟩ := h
  obtain ⟨e, w'⟩ := h'
  exact ⟨d + e, w.trans w'⟩
theorem Fc.rev {n : Nat} {g : Nat → Nat → Bool} (hg : Sym g) {p q : Arr} (hp : Ar n g p) (h : Fc n g p q) : Ar n g q ∧ Fc n g q p := by
  obtain ⟨d, w⟩ := h
  obtain ⟨a, w'⟩ := w.rev hg hp
  exact ⟨a, d, w'⟩
/-- what holds at p and along the steps holds in the class -/
theorem Fc.ind {n : Nat} {g : Nat → Nat → Bool} {p q : Arr} {F : Arr → Prop} (h : Fc n g p q) (h0 : F p) (hs : ∀ x y, Fc n g p x → F x → y ∈ nxt n g x → F y) : F q := by
  obtain ⟨d, w⟩ := h
  have key : ∀ (d : Nat) (q : Arr), Wk n g d p q → F q := by
    intro d
    induction d with
    | zero => intro q w; cases w; exact h0
    | succ d ih =>
      intro q w
      obtain ⟨r, w', hr⟩ := w.last
      exact hs r q ⟨d, w'⟩ (ih r w') hr
  exact key d q w
def allA (n : Nat) : List Arr := (List.range n).flatMap fun a => (List.range n).map fun b => (a, b)
def ltA (p q : Arr) : Prop := p.1 < q.1 ∨ (p.1 = q.1 ∧ p.2 < q.2)
theorem mem_allA {n : Nat} {q : Arr} : q ∈ allA n ↔ q.1 < n ∧ q.2 < n := by
  unfold allA
  rw [List.mem_flatMap]
  constructor
  · rintro ⟨a, ha, h⟩
    obtain ⟨b, hb, rfl⟩ := List.mem_map.mp h
    exact ⟨List.mem_range.mp ha, List.mem_range.mp hb⟩
  · rintro ⟨h1, h2⟩
    exact ⟨q.1, List.mem_range.mpr h1, List.mem_map.mpr ⟨q.2, List.mem_range.mpr h2, rfl⟩⟩
theorem allA_sorted (n : Nat) : (allA n).Pairwise ltA := by
  unfold allA
  refine List.pairwise_flatMap.mpr ⟨fun a _ => List.pairwise_map.mpr (List.pairwise_lt_range.imp fun h => .inr ⟨rfl, h⟩), (List.pairwise_lt_range (n := n)).imp fun {a b} h => ?_⟩
  intro x hx y hy
  obtain ⟨u, _, rfl⟩ := List.mem_map.mp hx
  obtain ⟨v, _, rfl⟩ := List.mem_map.mp hy
  exact .inl h
noncomputable def clB (n : Nat) (g : Nat → Nat → Bool) (p q : Arr) : Bool := @decide (Fc n g p q) (Classical.propDecidable _)
theorem clB_iff {n : Nat} {g : Nat → Nat → Bool} {p q : Arr} : clB n g p q = true ↔ Fc n g p q := by
  unfold clB
  exact @decide_eq_true_iff _ (Classical.propDecidable _)
/-- the class of p, ascending -/
noncomputable def clsL (n : Nat) (g : Nat → Nat → Bool) (p : Arr) : List Arr := (allA n).filter (clB n g p)
theorem mem_cls {n : Nat} {g : Nat → Nat → Bool} {p q : Arr} (hg : Sym g) (hp : Ar n g p) : q ∈ clsL n g p ↔ Fc n g p q := by
  unfold clsL
  rw [List.mem_filter, mem_allA, clB_iff]
  exact ⟨fun h => h.2, fun h => ⟨⟨(h.rev hg hp).1.1, (h.rev hg hp).1.2.1⟩, h⟩⟩
theorem cls_sorted (n : Nat) (g : Nat → Nat → Bool) (p : Arr) : (clsL n g p).Pairwise ltA := (allA_sorted n).sublist List.filter_sublist
theorem ltA_ne {p q : Arr} (h : ltA p q) : p ≠ q := fun e => by subst e; rcases h with h | h <;> omega
theorem cls_nodup (n : Nat) (g : Nat → Nat → Bool) (p : Arr) : (clsL n g p).Nodup := (cls_sorted n g p).imp ltA_ne
def arI (p : Arr) : List Int := [(p.1 : Int), (p.2 : Int)]
theorem prn_iT (l : List Arr) : l.map prn = (l.map arI).map iT := by rw [List.map_map]; rfl
theorem arI_le {p q : Arr} (h : ltA p q) : arI p ≤ arI q := by
  refine List.le_of_lt ?_
  unfold arI
  rw [List.cons_lt_cons_iff]
  rcases h with h | ⟨h1, h2⟩
  · exact .inl (by omega)
  · refine .inr ⟨by omega, ?_⟩
    rw [List.cons_lt_cons_iff]
    exact .inl (by omega)
/-- sorted, told by the members -/
theorem srt_arrs {l m : List Arr} (hl : l.Nodup) (hm : m.Pairwise ltA) (h : ∀ x, x ∈ l ↔ x ∈ m) : srtD (l.map prn) = m.map prn := by
  rw [prn_iT, srtD_iT, prn_iT]
  congr 1
  refine srtLuniq (srtLsorted _) (List.pairwise_map.mpr (hm.imp arI_le)) ((srtLperm _).trans (List.Perm.map _ ?_))
  exact (List.perm_ext_iff_of_nodup hl (hm.imp ltA_ne)).mpr h
theorem srtOk_arrs (l : List Arr) : SrtOk (l.map prn) := by
  rw [prn_iT]
  exact srtOk_iT _ fun r hr => by
    obtain ⟨p, _, rfl⟩ := List.mem_map.mp hr
    simp [arI]
/-! class_from -/
structure Spr (n : Nat) (g : Nat → Nat → Bool) (p : Arr) (ks W : List Arr) : Prop where
  nd : ks.Nodup
  cl : ∀ x ∈ ks, Fc n g p x
  ar : ∀ x ∈ ks, Ar n g x
  st : p ∈ ks
  sb : ∀ x ∈ W, x ∈ ks
theorem Spr.all {n : Nat} {g : Nat → Nat → Bool} {p : Arr} {ks : List Arr} (s : Spr n g p ks []) (h : ∀ x ∈ ks, ∀ y ∈ nxt n g x, y ∈ ks) (q : Arr) : q ∈ ks ↔ Fc n g p q :=
  ⟨s.cl q, fun c => c.ind s.st fun x y _ hx hy => h x hx y hy⟩
def spClassFrom (CW : Addr) : SpD := fun ds P _ => ∃ (n : Nat) (g : Nat → Nat → Bool) (p : Arr), ds = [webO CW n g, prn p] ∧ n ≤ 100 ∧ Sym g ∧ Ar n g p ∧ P (.tup ((clsL n g p).map prn))
abbrev NclassFrom : List PySem.Str := ["web", "arrow", "found", "waiting", "member", "step"]
theorem keysOf_arrs {m : DM} {ks : List Arr} (h : m.map (·.1) = ks.map keyA) : (m.map fun q => keyD q.1) = ks.map prn := by
  have e : (m.map fun q => keyD q.1) = (m.map (·.1)).map keyD := by rw [List.map_map]; rfl
  rw [e, h, List.map_map]; rfl
theorem body_class_from {X : Cx} (c : CtxT X NclassFrom (defScope (top 31))) (bi : Bi X.mg) {CW : Addr} {k : Nat} (hr : Room k X.A) (fFrom : FnD X.prog X.w X.K X.mg X.base "forced_from" k (spFrom CW)) : BodyOk X NclassFrom (spClassFrom CW) (defBody (top 31)) := by
  intro ds P R h B0 H0 air
  obtain ⟨n, g, p, rfl, hn, hg, ap, hp⟩ := h
  have nn : n * n ≤ 100 * 100 := Nat.mul_le_mul hn hn
  refine go_cons (g1_disp1 c.toCtxD hr 2 (ex_var (d := prn p) c.toCtx 1 ⟨keyA p, rfl, ex_bl fun pm => ?_⟩))
  refine go_cons (g1_asgO c.toCtxD 3 (el_lst (ea_cons (ex_var (d := prn p) c.toCtx 1 (ea_nil ⟨le1, fun pw => ?_⟩)))))
  let St : DM → List Arr → List SD → List (Addr × OV) → Prop := fun m W sds os => ∃ x4 x5 : SD, sds = [.d (webO CW n g), .d (prn p), .v (.ref pm), .v (.ref pw), x4, x5] ∧ os = [(pw, .lst (W.map prn)), (pm, .dct m)]
  let I : LoopI := fun mm sds os => ∃ (m : DM) (ks W : List Arr), St m W sds os ∧ m.map (·.1) = ks.map keyA ∧ Spr n g p ks W ∧ (∀ x ∈ ks, x ∈ W ∨ ∀ y ∈ nxt n g x, y ∈ ks) ∧ W.length ≤ ks.length ∧ mm = 2 * (n * n - ks.length) + W.length
  refine go_cut (fun sds os => ∃ (m : DM) (ks : List Arr), St m [] sds os ∧ m.map (·.1) = ks.map keyA ∧ ks.Nodup ∧ ∀ q, q ∈ ks ↔ Fc n g p q) (g1_while c.own I (2 * (n * n - 1) + 1) ⟨_, [p], [p], ⟨_, _, rfl, rfl⟩, rfl, ⟨by simp, fun x hx => ?_, fun x hx => ?_, by simp, fun x hx => hx⟩, fun x hx => .inl hx, Nat.le_refl _, rfl⟩ ?_) ?_
  · have : x = p := by simpa using hx
    subst this; exact Fc.refl _
  · have : x = p := by simpa using hx
    subst this; exact ap
  · rintro mm sds os ⟨m, ks, W, ⟨x4, x5, rfl, rfl⟩, ek, sp, hcl, hW, rfl⟩
    have lk := arr_len sp.nd sp.ar
    refine tx_borrow 3 0 (tx_tru (ex_var (d := .lst (W.map prn)) c.toCtx 3 ⟨_, rfl, fun ht => ?_, fun ht => ?_⟩))
    · have hW0 : W ≠ [] := fun e => by rw [e] at ht; cases ht
      obtain ⟨W', x, rfl⟩ : ∃ W' x, W = W' ++ [x] := ⟨W.dropLast, W.getLast hW0, (List.dropLast_concat_getLast hW0).symm⟩
      have xk := sp.sb x (by simp)
      have ax := sp.ar x xk
      refine go_cons (g1_popSet (l := (W' ++ [x]).map prn) c.toCtxD 3 0 4 ⟨prn x, by simp, ?_⟩)
      have ed : ((W' ++ [x]).map prn).dropLast = W'.map prn := by rw [List.map_append]; simp
      rw [ed]
      let J : Nat → List SD → List (Addr × OV) → Prop := fun j sds os => ∃ (m : DM) (ks' W : List Arr) (x5 : SD), sds = [.d (webO CW n g), .d (prn p), .v (.ref pm), .v (.ref pw), .d (prn x), x5] ∧ os = [(pw, .lst (W.map prn)), (pm, .dct m)] ∧ m.map (·.1) = ks'.map keyA ∧ Spr n g p ks' W ∧ x ∈ ks' ∧ (∀ z ∈ ks', z ∈ W ∨ z = x ∨ ∀ y ∈ nxt n g z, y ∈ ks') ∧ (∀ y ∈ (nxt n g x).take j, y ∈ ks') ∧ W.length ≤ ks'.length ∧ 2 * (n * n - ks'.length) + W.length < 2 * (n * n - ks.length) + (W' ++ [x]).length
      refine go_cut (J (nxt n g x).length) (g1_for (t := .nm 5) c.own c.calm (tg_nm c.toCtxD 5) (ix_list (ex_call c.toCtx fFrom hr (ea_cons (ex_var (d := webO CW n g) c.toCtx 0 (ea_cons (ex_var (d := prn x) c.toCtx 4 (ea_nil ⟨n, g, x.1, x.2, rfl, by omega, ax.1, ax.2.1, _, rfl, forOk_map (L := nxt n g x) J ⟨m, ks, W', x5, rfl, rfl, ek, ⟨sp.nd, sp.cl, sp.ar, sp.st, fun z hz => sp.sb z (List.mem_append_left _ hz)⟩, xk, fun z hz => ?_, fun y hy => by simp at hy, ?_, ?_⟩ ?_ fun _ _ h => h⟩)))))))) ?_
      · rcases hcl z hz with h | h
        · rcases List.mem_append.mp h with h | h
          · exact .inl h
          · exact .inr (.inl (by simpa using h))
        · exact .inr (.inr h)
      · rw [List.length_append] at hW; simp at hW; omega
      · simp
      · rintro j y sds os hj ⟨m, ks', W, y5, rfl, rfl, ek, sp, xk, hcl, hs, hW, hM⟩
        have ym := List.mem_of_getElem? hj
        obtain ⟨ay, _⟩ := nxt_ar hg ax ym
        have ky := keyA_mem ek y
        have lk := arr_len sp.nd sp.ar
        have lm : m.length = ks'.length := by
          have := congrArg List.length ek
          rwa [List.length_map, List.length_map] at this
        have e2 : (nxt n g x).take (j + 1) = (nxt n g x).take j ++ [y] := by rw [List.take_succ, hj]; rfl
        refine go_cons (g1_if (tx_dnin c.toCtx hr 2 1 (ex_var (d := prn y) c.toCtx 5 ⟨keyA y, rfl, fun hz => ?_, fun hz => go_nil (go_nil ⟨m, ks', W, _, rfl, rfl, ek, sp, xk, hcl, fun z hz' => ?_, hW, hM⟩)⟩)))
        · have hno : y ∉ ks' := fun h => by rw [ky.mpr h] at hz; cases hz
          have hv : valM m (keyA y) = none := by
            cases e : valM m (keyA y) with
            | none => rfl
            | some z => rw [e] at hz; cases hz
          have nd' : (ks' ++ [y]).Nodup := List.nodup_append.mpr ⟨sp.nd, by simp, fun u hu v hv' e => by
            have : v = y := by simpa using hv'
            subst this; subst e; exact hno hu⟩
          have ar' : ∀ z ∈ ks' ++ [y], Ar n g z := fun z hz => (List.mem_append.mp hz).elim (sp.ar z) fun h => by
            have : z = y := by simpa using h
            rw [this]; exact ay
          have lk' := arr_len nd' ar'
          rw [List.length_append] at lk'
          simp at lk'
          refine go_cons (g1_dput (ad := pm) (m := m) c.toCtx hr 2 1 (ex_bl (ex_var (d := prn y) c.toCtx 5 ⟨keyA y, rfl, by omega, ?_⟩)))
          rw [putM_new hv]
          refine go_cons (g1_append (l := W.map prn) (p := pw) c.toCtx 3 0 (ex_var (d := prn y) c.toCtx 5 ⟨by rw [List.length_map]; omega, go_nil (go_nil ⟨_, ks' ++ [y], W ++ [y], _, rfl, by rw [List.map_append]; rfl, by rw [List.map_append, ek]; simp, ⟨nd', fun z hz => ?_, ar', List.mem_append_left _ sp.st, fun z hz => ?_⟩, List.mem_append_left _ xk, fun z hz => ?_, fun z hz => ?_, ?_, ?_⟩)⟩))
          · exact (List.mem_append.mp hz).elim (sp.cl z) fun h => by
              have : z = y := by simpa using h
              rw [this]; exact (sp.cl x xk).step ym
          · exact (List.mem_append.mp hz).elim (fun h => List.mem_append_left _ (sp.sb z h)) fun h => List.mem_append_right _ h
          · rcases List.mem_append.mp hz with h | h
            · rcases hcl z h with h | h | h
              · exact .inl (List.mem_append_left _ h)
              · exact .inr (.inl h)
              · exact .inr (.inr fun y hy => List.mem_append_left _ (h y hy))
            · exact .inl (List.mem_append_right _ h)
          · rw [e2] at hz
            exact (List.mem_append.mp hz).elim (fun h => List.mem_append_left _ (hs z h)) fun h => List.mem_append_right _ h
          · rw [List.length_append, List.length_append]; simp; exact hW
          · rw [List.length_append (as := ks'), List.length_append (as := W)]; simp only [List.length_singleton]; omega
        · rw [e2] at hz'
          rcases List.mem_append.mp hz' with h | h
          · exact hs z h
          · have : z = y := by simpa using h
            subst this
            exact ky.mp (by cases e : (valM m (keyA z)).isSome with
              | true => rfl
              | false => rw [e] at hz; cases hz)
      · rintro sds os ⟨m, ks', W, y5, rfl, rfl, ek, sp, xk, hcl, hs, hW, hM⟩
        rw [List.take_length] at hs
        refine go_nil ⟨_, hM, m, ks', W, ⟨_, _, rfl, rfl⟩, ek, sp, fun z hz => ?_, hW, rfl⟩
        rcases hcl z hz with h | h | h
        · exact .inl h
        · rw [h]; exact .inr hs
        · exact .inr h
    · have hW0 : W = [] := by
        cases W with
        | nil => rfl
        | cons z r => cases ht
      subst hW0
      refine ⟨m, ks, ⟨_, _, rfl, rfl⟩, ek, sp.nd, sp.all fun x hx y hy => ?_⟩
      rcases hcl x hx with h | h
      · cases h
      · exact h y hy
  · rintro sds os ⟨m, ks, ⟨x4, x5, rfl, rfl⟩, ek, nk, hk⟩
    refine go_cons (g1_ret (ex_tupleOf c.toCtx bi.tuple (ex_ofL (el_sortM (m := m) (ad := pm) c.toCtx hr 2 1 bi.sorted (by rw [keysOf_arrs ek]; exact srtOk_arrs ks) ⟨_, .inl rfl, ?_⟩))))
    rw [keysOf_arrs ek, srt_arrs nk (cls_sorted n g p) fun x => by rw [hk, mem_cls hg ap]]
    exact hp
end OB
set_option Elab.async false
set_option linter.all false
set_option maxRecDepth 100000
set_option maxHeartbeats 4000000
namespace OB
open PySem PySem.Spec PyProof.Rows L2
section
variable {X : Cx} {N : List PySem.Str} {S : Scope} {B0 H0 : Hp} {sds : List SD} {os : List (Addr × OV)} {P : D → Prop} {px pos : Pos} {C : Addr} {n : Nat} {g : Nat → Nat → Bool}
theorem ex_tiesT (c : Ctx X N S) (wc : WebC X.K C) (i : Nat) {x : PySem.Str} (h : P (.tup ((tiesOf n g).map prn))) (hs : sds[i]? = some (.d (webO C n g)) := by rfl) (hN : N[i]? = some x := by rfl) (hv : visB S x = true := by decide +kernel)
    (hd : (x == ("__debug__" : PySem.Str)) = false := by decide +kernel) (hcd : (x == ("__classdict__" : PySem.Str)) = false := by decide +kernel) (hb : attributeBase (.Name x px) "ties" X.env (eval (.Name x px) X.env) = eval (.Name x px) X.env := by rfl) : EX X B0 H0 sds os (.Attribute (.Name x px) "ties" pos) P :=
  ex_fld (ex_var c i ⟨C, webFs n g, .tup ((tiesOf n g).map prn), rfl, wc.cl, wc.t, rfl, h⟩ hs hN hv hd hcd) hb
end
theorem shp_prnsT (l : List Arr) : shp (.tup (l.map prn)) = true := by rw [map_prn]; exact shp_prsT _
/-! class_of, same_class -/
def spClassOf (CW CB CT : Addr) : SpD := fun ds P R => ∃ (n : Nat) (g : Nat → Nat → Bool) (d : D), ds = [webO CW n g, d] ∧ n ≤ 100 ∧ Sym g ∧ okP d ∧ ArrD CB CT n g d (fun a b => a < n → b < n → P (.tup ((clsL n g (a, b)).map prn))) R
theorem body_class_of {X : Cx} (c : CtxT X ["web", "arrow"] (defScope (top 34))) {CW CB CT : Addr} {k : Nat} (hr : Room k X.A) (fArrow : FnD X.prog X.w X.K X.mg X.base "arrow_of" k (spArrow CW CB CT)) (fCls : FnD X.prog X.w X.K X.mg X.base "class_from" k (spClassFrom CW)) : BodyOk X ["web", "arrow"] (spClassOf CW CB CT) (defBody (top 34)) := by
  intro ds P R h B0 H0 air
  obtain ⟨n, g, d, rfl, hn, hg, ok, h1, h2⟩ := h
  refine go_cons (g1_ret (ex_callX c.toCtx fCls hr air (ea_cons (ex_var (d := webO CW n g) c.toCtx 0 (ea_cons (ex_callX c.toCtx fArrow hr air (ea_cons (ex_var (d := webO CW n g) c.toCtx 0 (ea_cons (ex_var (d := d) c.toCtx 1 (ea_nil ⟨n, g, d, rfl, ok, h1, fun a b e => ⟨fun gab ha hb => ?_, (h2 a b e).2⟩⟩)))))))))))
  exact ea_nil ⟨n, g, (a, b), rfl, hn, hg, ⟨ha, hb, gab⟩, (h2 a b e).1 gab ha hb⟩
def spSame (CW : Addr) : SpD := fun ds P _ => ∃ (n : Nat) (g : Nat → Nat → Bool) (d d' : D) (p q : Arr), ds = [webO CW n g, d, d'] ∧ n ≤ 100 ∧ Sym g ∧ okP d ∧ okP d' ∧ pairOf n d = some ((p.1 : Int), (p.2 : Int)) ∧ pairOf n d' = some ((q.1 : Int), (q.2 : Int)) ∧ Ar n g p ∧ Ar n g q ∧ P (.bl (clB n g p q))
theorem body_same {X : Cx} (c : CtxT X ["web", "first", "last"] (defScope (top 36))) {CW CB CT : Addr} {k : Nat} (hr : Room k X.A) (fTwo : FnD X.prog X.w X.K X.mg X.base "two_arrows_of" k (spTwo CW CB CT)) (fCls : FnD X.prog X.w X.K X.mg X.base "class_from" k (spClassFrom CW)) : BodyOk X ["web", "first", "last"] (spSame CW) (defBody (top 36)) := by
  intro ds P R h B0 H0 air
  obtain ⟨n, g, d, d', p, q, rfl, hn, hg, ok, ok', e, e', ap, aq, hp⟩ := h
  refine go_cons (g1_asg2 c.toCtxD 1 2 (ex_call c.toCtx fTwo hr (ea_cons (ex_var (d := webO CW n g) c.toCtx 0 (ea_cons (ex_var (d := d) c.toCtx 1 (ea_cons (ex_var (d := d') c.toCtx 2 (ea_nil ⟨n, g, d, d', rfl, ok, ok', fun z => (by rw [e] at z; cases z), fun a b ea => ⟨fun z => (by rw [e'] at z; cases z), fun a' b' eb => ?_⟩⟩)))))))))
  rw [e] at ea
  obtain ⟨rfl, rfl⟩ := int_pair ea
  rw [e'] at eb
  obtain ⟨rfl, rfl⟩ := int_pair eb
  refine ⟨fun z => (by rw [ap.2.2] at z; cases z), fun _ => ⟨fun z => (by rw [aq.2.2] at z; cases z), fun _ _ _ _ _ => ⟨prn p, prn q, rfl, ?_⟩⟩⟩
  refine go_cons (g1_ret (ex_inT hr (ex_var (d := prn q) c.toCtx 2 (ex_call c.toCtx fCls hr (ea_cons (ex_var (d := webO CW n g) c.toCtx 0 (ea_cons (ex_var (d := prn p) c.toCtx 1 (ea_nil ⟨n, g, p, rfl, hn, hg, ap, _, rfl, shp_prn q, ?_, ?_⟩)))))))))
  · exact shp_prnsT _
  · rw [any_prn]
    have : decide (q ∈ clsL n g p) = clB n g p q := by
      refine Bool.eq_iff_iff.mpr ?_
      rw [decide_eq_true_iff, mem_cls hg ap, clB_iff]
    rw [this]; exact hp
end OB
set_option Elab.async false
set_option linter.all false
set_option maxRecDepth 100000
set_option maxHeartbeats 4000000
namespace OB
open PySem PySem.Spec PyProof.Rows L2
/-! ### all classes -/
noncomputable def clsD (n : Nat) (g : Nat → Nat → Bool) (p : Arr) : D := .tup ((clsL n g p).map prn)
structure CsOk (n : Nat) (g : Nat → Nat → Bool) (T : List Arr) : Prop where
  ar : ∀ p ∈ T, Ar n g p
  dj : T.Pairwise fun p q => ¬ Fc n g p q
  al : ∀ x, Ar n g x → ∃ p ∈ T, Fc n g p x
def arrsL (n : Nat) (g : Nat → Nat → Bool) : List Arr := (allA n).filter fun q => g q.1 q.2
theorem mem_arrs {n : Nat} {g : Nat → Nat → Bool} {q : Arr} : q ∈ arrsL n g ↔ Ar n g q := by
  unfold arrsL
  rw [List.mem_filter, mem_allA]
  exact ⟨fun h => ⟨h.1.1, h.1.2, h.2⟩, fun h => ⟨⟨h.1, h.2.1⟩, h.2.2⟩⟩
theorem arrs_sorted (n : Nat) (g : Nat → Nat → Bool) : (arrsL n g).Pairwise ltA := (allA_sorted n).sublist List.filter_sublist
def flipA (q : Arr) : Arr := (q.2, q.1)
theorem both_nodup (n : Nat) (g : Nat → Nat → Bool) : (tiesOf n g ++ (tiesOf n g).map flipA).Nodup := by
  have h1 : (tiesOf n g).Nodup := (ties_sorted n g).imp fun h e => by subst e; rcases h with h | h <;> omega
  have h2 : ((tiesOf n g).map flipA).Nodup := List.pairwise_map.mpr (h1.imp fun {a b} h e => h (by
    have e1 : (flipA a).1 = (flipA b).1 := congrArg Prod.fst e
    have e2 : (flipA a).2 = (flipA b).2 := congrArg Prod.snd e
    exact Prod.ext e2 e1))
  refine List.nodup_append.mpr ⟨h1, h2, fun u hu v hv e => ?_⟩
  obtain ⟨w, hw, rfl⟩ := List.mem_map.mp hv
  have a := mem_ties.mp hu
  have b := mem_ties.mp hw
  subst e
  have : w.2 < w.1 := a.1
  omega
theorem both_mem {n : Nat} {g : Nat → Nat → Bool} (hg : Sym g) {x : Arr} : x ∈ tiesOf n g ++ (tiesOf n g).map flipA ↔ Ar n g x := by
  rw [List.mem_append, List.mem_map]
  constructor
  · rintro (h | ⟨w, h, rfl⟩)
    · have := mem_ties.mp h
      exact ⟨by omega, by omega, this.2.2⟩
    · have := mem_ties.mp h
      exact ⟨by show w.2 < n; omega, by show w.1 < n; omega, by show g w.2 w.1 = true; rw [hg.1]; exact this.2.2⟩
  · rintro ⟨h1, h2, h3⟩
    rcases Nat.lt_trichotomy x.1 x.2 with h | h | h
    · exact .inl (mem_ties.mpr ⟨h, h2, h3⟩)
    · rw [h, hg.2] at h3; cases h3
    · exact .inr ⟨(x.2, x.1), mem_ties.mpr ⟨h, h1, by rw [hg.1]; exact h3⟩, rfl⟩
theorem both_len (n : Nat) (g : Nat → Nat → Bool) : (tiesOf n g).length + (tiesOf n g).length ≤ 2 * (n * n) := by
  have := ties_len n g
  omega
/-- the classes met -/
structure Met (n : Nat) (g : Nat → Nat → Bool) (T : List Arr) (ks : List Arr) : Prop where
  ar : ∀ p ∈ T, Ar n g p
  dj : T.Pairwise fun p q => ¬ Fc n g p q
  nd : ks.Nodup
  me : ∀ x, x ∈ ks ↔ ∃ p ∈ T, Fc n g p x
theorem Met.kar {n : Nat} {g : Nat → Nat → Bool} {T ks : List Arr} (hg : Sym g) (m : Met n g T ks) {x : Arr} (hx : x ∈ ks) : Ar n g x := by
  obtain ⟨p, hp, c⟩ := (m.me x).mp hx
  exact (c.rev hg (m.ar p hp)).1
theorem Met.add {n : Nat} {g : Nat → Nat → Bool} {T ks : List Arr} (hg : Sym g) (m : Met n g T ks) {a : Arr} (ha : Ar n g a) (hno : a ∉ ks) : Met n g (T ++ [a]) (ks ++ clsL n g a) ∧ ∀ x ∈ clsL n g a, x ∉ ks := by
  have far : ∀ x ∈ clsL n g a, x ∉ ks := fun x hx hk => by
    obtain ⟨p, hp, c⟩ := (m.me x).mp hk
    have c2 := (mem_cls hg ha).mp hx
    exact hno ((m.me a).mpr ⟨p, hp, c.trans (c2.rev hg ha).2⟩)
  refine ⟨⟨fun p hp => ?_, ?_, ?_, fun x => ?_⟩, far⟩
  · rcases List.mem_append.mp hp with h | h
    · exact m.ar p h
    · have : p = a := by simpa using h
      rw [this]; exact ha
  · refine List.pairwise_append.mpr ⟨m.dj, by simp, fun p hp q hq c => ?_⟩
    have : q = a := by simpa using hq
    subst this
    exact hno ((m.me q).mpr ⟨p, hp, c⟩)
  · exact List.nodup_append.mpr ⟨m.nd, cls_nodup n g a, fun u hu v hv e => far v hv (e ▸ hu)⟩
  · rw [List.mem_append, m.me, mem_cls hg ha]
    constructor
    · rintro (⟨p, hp, c⟩ | c)
      · exact ⟨p, List.mem_append_left _ hp, c⟩
      · exact ⟨a, List.mem_append_right _ (by simp), c⟩
    · rintro ⟨p, hp, c⟩
      rcases List.mem_append.mp hp with h | h
      · exact .inl ⟨p, h, c⟩
      · have : p = a := by simpa using h
        rw [this] at c; exact .inr c
def spClasses (CW : Addr) : SpD := fun ds P _ => ∃ (n : Nat) (g : Nat → Nat → Bool), ds = [webO CW n g] ∧ n ≤ 100 ∧ Sym g ∧ ∀ T, CsOk n g T → P (.tup (T.map (clsD n g)))
abbrev Nclasses : List PySem.Str := ["web", "found", "met", "arrow", "first", "second", "arrows", "member"]
theorem body_classes {X : Cx} (c : CtxT X Nclasses (defScope (top 35))) (bi : Bi X.mg) {CW : Addr} (wc : WebC X.K CW) {k : Nat} (hr : Room k X.A) (fCls : FnD X.prog X.w X.K X.mg X.base "class_from" k (spClassFrom CW)) : BodyOk X Nclasses (spClasses CW) (defBody (top 35)) := by
  intro ds P R h B0 H0 air
  obtain ⟨n, g, rfl, hn, hg, hp⟩ := h
  have nn : n * n ≤ 100 * 100 := Nat.mul_le_mul hn hn
  have tl := ties_len n g
  refine go_cons (g1_asgO c.toCtxD 1 (el_lst (ea_nil ⟨le0, fun pf => ?_⟩)))
  refine go_cons (g1_disp0 c.toCtxD 2 fun pm => ?_)
  let St : List Arr → DM → List SD → List (Addr × OV) → Prop := fun T m sds os => ∃ x3 x6 x7 : SD, sds = [.d (webO CW n g), .v (.ref pf), .v (.ref pm), x3, .un, .un, x6, x7] ∧ os = [(pm, .dct m), (pf, .lst (T.map (clsD n g)))]
  let I : LoopI := fun j sds os => ∃ (T : List Arr) (m : DM) (ks : List Arr), St T m sds os ∧ m.map (·.1) = ks.map keyA ∧ Met n g T ks ∧ ∀ x ∈ (arrsL n g).take j, x ∈ ks
  refine go_cut (I (arrsL n g).length) (g1_for (t := .nm 3) c.own c.calm (tg_nm c.toCtxD 3) (ix_list (ex_ofL (el_sortD c.toCtx hr bi.sorted (ex_ofL (el_cat (ex_ofL (el_listOf c.toCtx bi.list (ex_tiesT c.toCtx wc 0 ⟨_, .inr rfl, _, rfl, ex_ofL (el_lc0 c.toCtx [("first", 4), ("second", 5)] (.tp [4, 5]) (fun X' b => tb_tp (b.ctx c.toCtx) (tbs_cons (b.ctx c.toCtx) 4 (tbs_cons (b.ctx c.toCtx) 5 tgs_nil))) (ix_tup (ex_tiesT c.toCtx wc 0 ⟨_, rfl, ?_⟩)))⟩))))))))) ?_
  · refine ⟨Arr, tiesOf n g, prn, fun q => prn (flipA q), rfl, by omega, fun q _ => ⟨_, rfl, rfl, fun X' b => ex_tup (ea_cons (ex_var (b.ctx c.toCtx) 5 (ea_cons (ex_var (b.ctx c.toCtx) 4 (ea_nil ⟨le2, rfl⟩)))))⟩, _, rfl, by rw [List.length_map, List.length_map]; omega, _, rfl, ?_⟩
    have e : (tiesOf n g).map prn ++ (tiesOf n g).map (fun q => prn (flipA q)) = (tiesOf n g ++ (tiesOf n g).map flipA).map prn := by rw [List.map_append, List.map_map]; rfl
    rw [e]
    refine ⟨srtOk_arrs _, ?_⟩
    rw [srt_arrs (both_nodup n g) (arrs_sorted n g) fun x => by rw [both_mem hg, mem_arrs]]
    refine ⟨_, rfl, forOk_map I ⟨[], [], [], ⟨_, _, _, rfl, rfl⟩, rfl, ⟨fun p hp => (nomatch hp), .nil, .nil, fun x => ⟨fun h => (nomatch h), fun ⟨p, hp, _⟩ => (nomatch hp)⟩⟩, fun x hx => by simp at hx⟩ ?_ fun _ _ h => h⟩
    rintro j a sds os hj ⟨T, m, ks, ⟨x3, x6, x7, rfl, rfl⟩, ek, M, cov⟩
    have aa := mem_arrs.mp (List.mem_of_getElem? hj)
    have ka := keyA_mem ek a
    have e2 : (arrsL n g).take (j + 1) = (arrsL n g).take j ++ [a] := by rw [List.take_succ, hj]; rfl
    refine go_cons (g1_if (tx_dnin c.toCtx hr 2 0 (ex_var (d := prn a) c.toCtx 3 ⟨keyA a, rfl, fun hz => ?_, fun hz => go_nil (go_nil ⟨T, m, ks, ⟨_, _, _, rfl, rfl⟩, ek, M, fun z hz' => ?_⟩)⟩)))
    · have hno : a ∉ ks := fun h => by rw [ka.mpr h] at hz; cases hz
      obtain ⟨M', far⟩ := M.add hg aa hno
      have lk := arr_len M'.nd fun x hx => M'.kar hg hx
      have lT := arr_len (l := T ++ [a]) (M'.dj.imp_of_mem fun hp _ h e => h (e ▸ Fc.refl _)) M'.ar
      rw [List.length_append] at lT lk
      simp only [List.length_singleton] at lT
      refine go_cons (g1_asg c.toCtxD 6 (ex_call c.toCtx fCls hr (ea_cons (ex_var (d := webO CW n g) c.toCtx 0 (ea_cons (ex_var (d := prn a) c.toCtx 3 (ea_nil ⟨n, g, a, rfl, hn, hg, aa, ?_⟩)))))))
      refine go_cons (g1_append (l := T.map (clsD n g)) (p := pf) c.toCtx 1 1 (ex_var (d := clsD n g a) c.toCtx 6 ⟨by rw [List.length_map]; omega, ?_⟩))
      let J : LoopI := fun i sds os => ∃ (m : DM) (x7 : SD), sds = [.d (webO CW n g), .v (.ref pf), .v (.ref pm), .d (prn a), .un, .un, .d (clsD n g a), x7] ∧ os = [(pm, .dct m), (pf, .lst ((T ++ [a]).map (clsD n g)))] ∧ m.map (·.1) = (ks ++ (clsL n g a).take i).map keyA
      refine go_cons (g1_for (t := .nm 7) c.own c.calm (tg_nm c.toCtxD 7) (ix_tup (ex_var (d := clsD n g a) c.toCtx 6 ⟨_, rfl, forOk_map (L := clsL n g a) J ⟨m, _, rfl, by rw [List.map_append]; rfl, by rw [List.take_zero, List.append_nil]; exact ek⟩ ?_ ?_⟩)))
      · rintro i y sds os hi ⟨m, y7, rfl, rfl, ek'⟩
        have ky := keyA_mem ek' y
        have hil := (List.getElem?_eq_some_iff.mp hi).1
        have hy : y ∉ ks ++ (clsL n g a).take i := fun h => by
          rcases List.mem_append.mp h with h | h
          · exact far y (List.mem_of_getElem? hi) h
          · obtain ⟨i', hi'⟩ := List.mem_iff_getElem?.mp h
            rw [List.getElem?_take] at hi'
            by_cases hlt : i' < i
            · rw [if_pos hlt] at hi'
              have h1 := List.getElem?_eq_some_iff.mp hi'
              have h2 := List.getElem?_eq_some_iff.mp hi
              have := (List.pairwise_iff_getElem.mp (cls_nodup n g a)) i' i h1.1 h2.1 hlt
              rw [h1.2, h2.2] at this
              exact this rfl
            · rw [if_neg hlt] at hi'; cases hi'
        have hv : valM m (keyA y) = none := by
          cases e : valM m (keyA y) with
          | none => rfl
          | some z => exact absurd (ky.mp (by rw [e]; rfl)) hy
        have lm : m.length = ks.length + i := by
          have := congrArg List.length ek'
          rw [List.length_map, List.length_map, List.length_append, List.length_take, Nat.min_eq_left (Nat.le_of_lt hil)] at this
          exact this
        refine go_cons (g1_dput (ad := pm) (m := m) c.toCtx hr 2 0 (ex_bl (ex_var (d := prn y) c.toCtx 7 ⟨keyA y, rfl, by omega, ?_⟩)))
        rw [putM_new hv]
        refine go_nil ⟨_, _, rfl, rfl, ?_⟩
        rw [List.map_append, ek', List.take_succ, hi]
        simp
      · rintro sds os ⟨m, y7, rfl, rfl, ek'⟩
        rw [List.take_length] at ek'
        refine go_nil (go_nil ⟨T ++ [a], m, ks ++ clsL n g a, ⟨_, _, _, rfl, rfl⟩, ek', M', fun z hz' => ?_⟩)
        rw [e2] at hz'
        rcases List.mem_append.mp hz' with h | h
        · exact List.mem_append_left _ (cov z h)
        · have : z = a := by simpa using h
          rw [this]; exact List.mem_append_right _ ((mem_cls hg aa).mpr (Fc.refl _))
    · rw [e2] at hz'
      rcases List.mem_append.mp hz' with h | h
      · exact cov z h
      · have : z = a := by simpa using h
        subst this
        exact ka.mp (by cases e : (valM m (keyA z)).isSome with
          | true => rfl
          | false => rw [e] at hz; cases hz)
  · rintro sds os ⟨T, m, ks, ⟨x3, x6, x7, rfl, rfl⟩, ek, M, cov⟩
    rw [List.take_length] at cov
    refine go_freeze 1 1 ?_
    refine go_cons (g1_ret (ex_tupleOf c.toCtx bi.tuple (ex_var (d := .lst (T.map (clsD n g))) c.toCtx 1 ⟨_, .inl rfl, hp T ⟨M.ar, M.dj, fun x ax => (M.me x).mp (cov x (mem_arrs.mpr ax))⟩⟩)))
end OB
set_option Elab.async false
set_option linter.all false
set_option maxRecDepth 100000
set_option maxHeartbeats 4000000
namespace OB
open PySem PySem.Spec PyProof.Rows L2
/-! ### contrary classes; the step of a triangle -/
theorem nxt_flip {n : Nat} {g : Nat → Nat → Bool} {p q : Arr} (h : q ∈ nxt n g p) : flipA q ∈ nxt n g (flipA p) := by
  have h' := mem_steps.mp h
  refine mem_steps.mpr ?_
  rcases h' with ⟨h1, h2, h3, h4, h5⟩ | ⟨h1, h2, h3, h4, h5⟩
  · exact .inr ⟨h1, h2, h3, h4, h5⟩
  · exact .inl ⟨h1, h2, h3, h4, h5⟩
theorem Fc.flip {n : Nat} {g : Nat → Nat → Bool} {p q : Arr} (h : Fc n g p q) : Fc n g (flipA p) (flipA q) :=
  h.ind (F := fun x => Fc n g (flipA p) (flipA x)) (Fc.refl _) fun _ _ _ hx hy => hx.step (nxt_flip hy)
theorem nxt_snd {n : Nat} {g : Nat → Nat → Bool} {x y y' : Nat} (h : y' < n) (h1 : g x y' = true) (h2 : g y y' = false) (h3 : y' ≠ y) : ((x, y') : Arr) ∈ nxt n g (x, y) := mem_steps.mpr (.inl ⟨rfl, h, h1, h2, h3⟩)
theorem nxt_fst {n : Nat} {g : Nat → Nat → Bool} {x x' y : Nat} (h : x' < n) (h1 : g y x' = true) (h2 : g x x' = false) (h3 : x' ≠ x) : ((x', y) : Arr) ∈ nxt n g (x, y) := mem_steps.mpr (.inr ⟨rfl, h, h1, h2, h3⟩)
/-- what a triangle says of an arrow x of the class of its side -/
def TriAt (n : Nat) (g : Nat → Nat → Bool) (a b c : Nat) (x : Arr) : Prop := x.1 ≠ a ∧ x.2 ≠ a ∧ g a x.1 = true ∧ g a x.2 = true ∧ Fc n g (a, b) (a, x.1) ∧ Fc n g (a, c) (a, x.2)
theorem triangle {n : Nat} {g : Nat → Nat → Bool} (hg : Sym g) {a b c : Nat} (ha : a < n) (hb : b < n) (hc : c < n) (hab : g a b = true) (hac : g a c = true) (hbc : g b c = true) (n1 : ¬ Fc n g (b, c) (a, c)) (n2 : ¬ Fc n g (b, c) (b, a)) {x : Arr} (h : Fc n g (b, c) x) : TriAt n g a b c x := by
  have ne : ∀ {u v : Nat}, g u v = true → u ≠ v := fun h e => by rw [e, hg.2] at h; cases h
  have abc : Ar n g (b, c) := ⟨hb, hc, hbc⟩
  have aab : Ar n g (a, b) := ⟨ha, hb, hab⟩
  have aac : Ar n g (a, c) := ⟨ha, hc, hac⟩
  refine h.ind (F := TriAt n g a b c) ⟨(ne hab).symm, (ne hac).symm, hab, hac, Fc.refl _, Fc.refl _⟩ ?_
  rintro ⟨x, y⟩ ⟨x', y'⟩ hcl ⟨f1, f2, f3, f4, f5, f6⟩ hy
  have f1 : x ≠ a := f1
  have f2 : y ≠ a := f2
  have f3 : g a x = true := f3
  have f4 : g a y = true := f4
  obtain ⟨⟨ax1, ax2, ax3⟩, _⟩ := hcl.rev hg abc
  have ax1 : x < n := ax1
  have ax2 : y < n := ax2
  rcases mem_steps.mp hy with ⟨e, h2, h3, h4, h5⟩ | ⟨e, h2, h3, h4, h5⟩
  · have e : x' = x := e
    have h2 : y' < n := h2
    have h3 : g x y' = true := h3
    have h4 : g y y' = false := h4
    have h5 : y' ≠ y := h5
    subst e
    have ya : y' ≠ a := fun e => by rw [e, hg.1, f4] at h4; cases h4
    have gy : g a y' = true := by
      cases hc' : g a y' with
      | true => rfl
      | false =>
        exfalso
        have s1 : ((x', a) : Arr) ∈ nxt n g (x', y') := nxt_snd ha (by rw [hg.1]; exact f3) (by rw [hg.1]; exact hc') (Ne.symm ya)
        have c1 : Fc n g (b, c) (x', a) := (hcl.step hy).step s1
        have c2 : Fc n g (b, a) (x', a) := f5.flip
        exact n2 (c1.trans (c2.rev hg ⟨hb, ha, by rw [hg.1]; exact hab⟩).2)
    exact ⟨f1, ya, f3, gy, f5, f6.step (nxt_snd h2 gy h4 h5)⟩
  · have e : y' = y := e
    have h2 : x' < n := h2
    have h3 : g y x' = true := h3
    have h4 : g x x' = false := h4
    have h5 : x' ≠ x := h5
    subst e
    have xa : x' ≠ a := fun e => by rw [e, hg.1, f3] at h4; cases h4
    have gx : g a x' = true := by
      cases hc' : g a x' with
      | true => rfl
      | false =>
        exfalso
        have s1 : ((a, y') : Arr) ∈ nxt n g (x', y') := nxt_fst ha (by rw [hg.1]; exact f4) (by rw [hg.1]; exact hc') (Ne.symm xa)
        have c1 : Fc n g (b, c) (a, y') := (hcl.step hy).step s1
        exact n1 (c1.trans (f6.rev hg aac).2)
    exact ⟨xa, f2, gx, f4, f5.step (nxt_snd h2 gx h4 h5), f6⟩
theorem atI_natC {α : Type} {l : List α} {a : Nat} {x : α} (h : l[a]? = some x) : atI l (a : Int) = some x := by
  unfold L2.atI L2.ixN
  have := (List.getElem?_eq_some_iff.mp h).1
  rw [if_pos (by omega), if_pos (by omega)]
  exact h
theorem get_mapC {α β : Type} {l : List α} {f : α → β} {a : Nat} {x : α} (h : l[a]? = some x) : (l.map f)[a]? = some (f x) := by rw [List.getElem?_map, h]; rfl
/-! the law's class -/
def spLawClass : SpD := fun ds P _ => ∃ (n : Nat) (g : Nat → Nat → Bool) (p : Arr), ds = [webD n g, prn p] ∧ n ≤ 100 ∧ Sym g ∧ Ar n g p ∧ P (.lst ((clsL n g p).map prn))
abbrev NlawClass : List PySem.Str := ["_law_near_here", "_law_arrow", "_law_reached", "_law_at", "_law_k", "_law_one"]
theorem body_law_class {X : Cx} (c : CtxT X NlawClass (defScope (top 64))) (bi : Bi X.mg) {k : Nat} (hr : Room k X.A) (fSteps : FnD X.prog X.w X.K X.mg X.base "_law_steps" k spSteps) : BodyOk X NlawClass spLawClass (defBody (top 64)) := by
  intro ds P R h B0 H0 air
  obtain ⟨n, g, p, rfl, hn, hg, ap, hp⟩ := h
  have nn : n * n ≤ 100 * 100 := Nat.mul_le_mul hn hn
  refine go_cons (g1_asgO c.toCtxD 2 (el_lst (ea_cons (ex_var (d := prn p) c.toCtx 1 (ea_nil ⟨le1, fun pR => ?_⟩)))))
  refine go_cons (g1_asg c.toCtxD 3 (ex_int ?_))
  let St : List Arr → Nat → List SD → List (Addr × OV) → Prop := fun R a sds os => ∃ x4 x5 : SD, sds = [.d (webD n g), .d (prn p), .v (.ref pR), .d (.int (a : Int)), x4, x5] ∧ os = [(pR, .lst (R.map prn))]
  let B : List Arr → Nat → Prop := fun R a => Spr n g p R [] ∧ ∀ (i : Nat) (x : Arr), i < a → R[i]? = some x → ∀ y ∈ nxt n g x, y ∈ R
  let I : LoopI := fun k sds os => ∃ (R : List Arr) (a : Nat), St R a sds os ∧ B R a ∧ (a = k ∨ R.length ≤ a)
  refine go_cut (I (n * n)) (g1_for (t := .nm 4) c.own c.calm (tg_nm c.toCtxD 4) (ix_range1 c.toCtx bi.range (ex_mulI (ex_len c.toCtx bi.len (ex_var c.toCtx 0 ⟨n, web_len, _, rfl, ex_len c.toCtx bi.len (ex_var c.toCtx 0 ⟨n, web_len, _, rfl, .inl ⟨by omega, by omega⟩, ((n * n : Nat) : Int), rfl, by omega, by omega, ?_⟩)⟩))))) ?_
  · rw [rng0]
    refine forOk_rng I ⟨[p], 0, ⟨_, _, rfl, rfl⟩, ⟨⟨by simp, fun x hx => ?_, fun x hx => ?_, by simp, fun x hx => (nomatch hx)⟩, fun i x hi => by omega⟩, .inl rfl⟩ ?_ fun _ _ h => h
    · have : x = p := by simpa using hx
      subst this; exact Fc.refl _
    · have : x = p := by simpa using hx
      subst this; exact ap
    · rintro k sds os hk ⟨R, a, ⟨x4, x5, rfl, rfl⟩, ⟨sp, hs⟩, hak⟩
      have lR := arr_len sp.nd sp.ar
      refine go_cons (g1_if (tx_ltI (ex_var (d := .int (a : Int)) c.toCtx 3 ⟨_, rfl, ex_borrow 2 0 (ex_len c.toCtx bi.len (ex_var (d := .lst (R.map prn)) c.toCtx 2 ⟨_, lenL, rfl, _, rfl, fun hz => ?_, fun hz => go_nil (go_nil ⟨R, a, ⟨_, _, rfl, rfl⟩, ⟨sp, hs⟩, .inr ?_⟩)⟩))⟩)))
      · rw [List.length_map] at hz
        have ha : a < R.length := by simpa using hz
        obtain ⟨x, hx⟩ : ∃ x, R[a]? = some x := ⟨_, List.getElem?_eq_getElem ha⟩
        have xk := List.mem_of_getElem? hx
        have ax := sp.ar x xk
        let J : Nat → List SD → List (Addr × OV) → Prop := fun j sds os => ∃ (R : List Arr), St R a sds os ∧ B R a ∧ R[a]? = some x ∧ ∀ y ∈ (nxt n g x).take j, y ∈ R
        refine go_cut (J (nxt n g x).length) (g1_for (t := .nm 5) c.own c.calm (tg_nm c.toCtxD 5) (ix_list (ex_call c.toCtx fSteps hr (ea_cons (ex_var (d := webD n g) c.toCtx 0 (ea_cons (ex_ixO c.toCtx 2 0 (ex_var (d := .int (a : Int)) c.toCtx 3 ⟨_, prn x, rfl, atI_natC (get_mapC hx), ea_nil ⟨n, g, x.1, x.2, rfl, hn, hg, ax.1, ax.2.1, _, rfl, forOk_map (L := nxt n g x) J ⟨R, ⟨_, _, rfl, rfl⟩, ⟨sp, hs⟩, hx, fun y hy => by simp at hy⟩ ?_ fun _ _ h => h⟩⟩)))))))) ?_
        · rintro j y sds os hj ⟨R, ⟨y4, y5, rfl, rfl⟩, ⟨sp, hs⟩, hx, hst⟩
          have ym := List.mem_of_getElem? hj
          have xk := List.mem_of_getElem? hx
          obtain ⟨ay, _⟩ := nxt_ar hg (sp.ar x xk) ym
          have lR := arr_len sp.nd sp.ar
          have e2 : (nxt n g x).take (j + 1) = (nxt n g x).take j ++ [y] := by rw [List.take_succ, hj]; rfl
          refine go_cons (g1_if (tx_borrow 2 0 (tx_notInD hr (ex_var (d := prn y) c.toCtx 5 (ex_var (d := .lst (R.map prn)) c.toCtx 2 ⟨_, rfl, shp_prn y, shp_prns R, ?_⟩)))))
          rw [any_prn]
          refine ⟨fun hz => ?_, fun hz => go_nil (go_nil ⟨R, ⟨_, _, rfl, rfl⟩, ⟨sp, hs⟩, hx, fun z hz' => ?_⟩)⟩
          · have hno : y ∉ R := by simpa using hz
            have hal := (List.getElem?_eq_some_iff.mp hx).1
            refine go_cons (g1_append (l := R.map prn) (p := pR) c.toCtx 2 0 (ex_var (d := prn y) c.toCtx 5 ⟨by rw [List.length_map]; omega, go_nil (go_nil ⟨R ++ [y], ⟨_, _, rfl, by rw [List.map_append]; rfl⟩, ⟨⟨?_, fun z hz => ?_, fun z hz => ?_, List.mem_append_left _ sp.st, fun z hz => (nomatch hz)⟩, fun i z hi hz w hw => ?_⟩, ?_, fun z hz' => ?_⟩)⟩))
            · exact List.nodup_append.mpr ⟨sp.nd, by simp, fun u hu v hv' e => by
                have : v = y := by simpa using hv'
                subst this; subst e; exact hno hu⟩
            · exact (List.mem_append.mp hz).elim (sp.cl z) fun h => by
                have : z = y := by simpa using h
                rw [this]; exact (sp.cl x xk).step ym
            · exact (List.mem_append.mp hz).elim (sp.ar z) fun h => by
                have : z = y := by simpa using h
                rw [this]; exact ay
            · rw [List.getElem?_append_left (by omega)] at hz
              exact List.mem_append_left _ (hs i z hi hz w hw)
            · rw [List.getElem?_append_left hal]; exact hx
            · rw [e2] at hz'
              exact (List.mem_append.mp hz').elim (fun h => List.mem_append_left _ (hst z h)) fun h => List.mem_append_right _ h
          · have hin : y ∈ R := by simpa using hz
            rw [e2] at hz'
            rcases List.mem_append.mp hz' with h | h
            · exact hst z h
            · have : z = y := by simpa using h
              subst this; exact hin
        · rintro sds os ⟨R, ⟨y4, y5, rfl, rfl⟩, ⟨sp, hs⟩, hx, hst⟩
          rw [List.take_length] at hst
          refine go_cons (g1_asg c.toCtxD 3 (ex_addI (ex_var (d := .int (a : Int)) c.toCtx 3 ⟨_, rfl, ex_int ⟨_, rfl, go_nil (go_nil ⟨R, a + 1, ⟨_, _, rfl, rfl⟩, ⟨sp, fun i z hi hzi => ?_⟩, ?_⟩)⟩⟩)))
          · by_cases e : i = a
            · subst e; rw [hx] at hzi; cases hzi; exact hst
            · exact hs i z (by omega) hzi
          · have hl := (List.getElem?_eq_some_iff.mp hx).1
            rcases hak with h | h
            · exact .inl (by omega)
            · omega
      · rw [List.length_map] at hz
        simpa using hz
  · rintro sds os ⟨R, a, ⟨x4, x5, rfl, rfl⟩, ⟨sp, hs⟩, hak⟩
    have lR := arr_len sp.nd sp.ar
    have al := sp.all fun x hx y hy => by
      obtain ⟨i, hi⟩ := List.mem_iff_getElem?.mp hx
      exact hs i x (by have := (List.getElem?_eq_some_iff.mp hi).1; omega) hi y hy
    refine go_freeze 2 0 ?_
    refine go_cons (g1_ret (ex_ofL (el_sortD c.toCtx hr bi.sorted (ex_var (d := .lst (R.map prn)) c.toCtx 2 ⟨_, rfl, srtOk_arrs R, ?_⟩))))
    rw [srt_arrs sp.nd (cls_sorted n g p) fun x => by rw [al, mem_cls hg ap]]
    exact hp
end OB
set_option Elab.async false
set_option linter.all false
set_option maxRecDepth 100000
set_option maxHeartbeats 4000000
namespace OB
open PySem PySem.Spec PyProof.Rows L2
/-! ### a thing tied to all -/
def spWithAll : SpD := fun ds P _ => ∃ (n : Nat) (g : Nat → Nat → Bool), ds = [webD n g] ∧ n ≤ 50 ∧ ∀ g', Sym g' → P (webD (n + 1) g')
abbrev NwithAll : List PySem.Str := ["_law_near_here", "_law_size", "_law_a"]
theorem body_with_all {X : Cx} (c : CtxT X NwithAll (defScope (top 66))) (bi : Bi X.mg) {k : Nat} (hr : Room k X.A) (fNear : FnD X.prog X.w X.K X.mg X.base "_law_near" k spNear) (fTies : FnD X.prog X.w X.K X.mg X.base "_law_ties" k spTies) : BodyOk X NwithAll spWithAll (defBody (top 66)) := by
  intro ds P R h B0 H0 air
  obtain ⟨n, g, rfl, hn, hp⟩ := h
  have tl := ties_len n g
  have nn : n * n ≤ 50 * 50 := Nat.mul_le_mul hn hn
  refine go_cons (g1_asg c.toCtxD 1 (ex_len c.toCtx bi.len (ex_var c.toCtx 0 ⟨n, web_len, ?_⟩)))
  refine go_cons (g1_ret (ex_call c.toCtx fNear hr (ea_cons (ex_addI (ex_var c.toCtx 1 ⟨_, rfl, ex_int ⟨_, rfl, ea_cons (ex_ofL (el_cat (ex_call c.toCtx fTies hr (ea_cons (ex_var c.toCtx 0 (ea_nil ⟨n, g, rfl, by omega, _, rfl, ex_ofL (el_lc0 c.toCtx [("_law_a", 2)] (.nm 2) (fun X' b => tb_nm (b.ctx c.toCtx) 2) (ix_range1 c.toCtx bi.range (ex_var c.toCtx 1 ⟨(n : Int), rfl, by omega, by omega, ?_⟩)))⟩))))))⟩⟩)))))
  rw [rng0]
  refine ⟨Nat, List.range n, (fun i => .int (i : Int)), fun i => prn (i, n), rfl, by simp; omega, fun i _ X' b => ?_, _, rfl, by rw [List.length_map, List.length_map, List.length_range]; omega, ?_⟩
  · exact ex_tup (ea_cons (ex_var (b.ctx c.toCtx) 2 (ea_cons (ex_var (b.ctx c.toCtx) 1 (ea_nil ⟨le2, rfl⟩)))))
  have e : (tiesOf n g).map prn ++ (List.range n).map (fun i => prn (i, n)) = (tiesOf n g ++ (List.range n).map fun i => (i, n)).map prn := by rw [List.map_append, List.map_map]; rfl
  rw [e]
  refine ea_nil ⟨n + 1, _, rfl, by omega, fun p hp' => ?_, hp⟩
  rcases List.mem_append.mp hp' with h | h
  · have := mem_ties.mp h
    omega
  · obtain ⟨i, hi, rfl⟩ := List.mem_map.mp h
    have := List.mem_range.mp hi
    exact ⟨by show i < n + 1; omega, by show n < n + 1; omega, by show i ≠ n; omega⟩
/-! ### where each arrow's class stands -/
def HomeOk (n : Nat) (g : Nat → Nat → Bool) (T : List Arr) (m : DM) : Prop := ∀ (j : Nat) (p : Arr), T[j]? = some p → ∀ x ∈ clsL n g p, valM m (keyA x) = some (.int (j : Int))
theorem HomeOk.at {n : Nat} {g : Nat → Nat → Bool} {T : List Arr} {m : DM} (hg : Sym g) (C : CsOk n g T) (h : HomeOk n g T m) {x : Arr} (ax : Ar n g x) : ∃ (j : Nat) (p : Arr), T[j]? = some p ∧ Fc n g p x ∧ valM m (keyA x) = some (.int (j : Int)) := by
  obtain ⟨p, hp, c⟩ := C.al x ax
  obtain ⟨j, hj⟩ := List.mem_iff_getElem?.mp hp
  exact ⟨j, p, hj, c, h j p hj x ((mem_cls hg (C.ar p hp)).mpr c)⟩
theorem CsOk.uniq {n : Nat} {g : Nat → Nat → Bool} {T : List Arr} (hg : Sym g) (C : CsOk n g T) {i j : Nat} {p q x y : Arr} (hi : T[i]? = some p) (hj : T[j]? = some q) (cx : Fc n g p x) (cy : Fc n g q y) : i = j ↔ Fc n g x y := by
  have ap := C.ar p (List.mem_of_getElem? hi)
  have aq := C.ar q (List.mem_of_getElem? hj)
  constructor
  · rintro rfl
    rw [hi] at hj; cases hj
    exact (cx.rev hg ap).2.trans cy
  · intro cxy
    have c1 : Fc n g p q := (cx.trans cxy).trans (cy.rev hg aq).2
    have h1 := List.getElem?_eq_some_iff.mp hi
    have h2 := List.getElem?_eq_some_iff.mp hj
    rcases Nat.lt_trichotomy i j with h | h | h
    · have := (List.pairwise_iff_getElem.mp C.dj) i j h1.1 h2.1 h
      rw [h1.2, h2.2] at this
      exact absurd c1 this
    · exact h
    · have := (List.pairwise_iff_getElem.mp C.dj) j i h2.1 h1.1 h
      rw [h1.2, h2.2] at this
      exact absurd (c1.rev hg ap).2 this
theorem cls_pairs {n : Nat} {g : Nat → Nat → Bool} {p : Arr} (hg : Sym g) (ap : Ar n g p) : (∀ q ∈ (clsL n g p).map cp, 0 ≤ q.1 ∧ q.1 < (n : Int) ∧ 0 ≤ q.2 ∧ q.2 < (n : Int) ∧ q.1 ≠ q.2) ∧ ((clsL n g p).map cp).Pairwise (SrtO.lexB · ·) := by
  constructor
  · intro q hq
    obtain ⟨x, hx, rfl⟩ := List.mem_map.mp hq
    obtain ⟨h1, h2, h3⟩ := (((mem_cls hg ap).mp hx).rev hg ap).1
    have : x.1 ≠ x.2 := fun e => by rw [e, hg.2] at h3; cases h3
    show (0 : Int) ≤ (x.1 : Int) ∧ (x.1 : Int) < n ∧ (0 : Int) ≤ (x.2 : Int) ∧ (x.2 : Int) < n ∧ (x.1 : Int) ≠ (x.2 : Int)
    omega
  · refine List.pairwise_map.mpr ((cls_sorted n g p).imp fun {a b} h => ?_)
    show SrtO.lexB ((a.1 : Int), (a.2 : Int)) ((b.1 : Int), (b.2 : Int)) = true
    unfold SrtO.lexB
    rcases h with h | ⟨h1, h2⟩
    · have : ¬ ((a.1 : Int) = (b.1 : Int)) := by omega
      simp [this]; omega
    · simp [h1]; omega
theorem flatCls {n : Nat} {g : Nat → Nat → Bool} {T : List Arr} (hg : Sym g) (C : CsOk n g T) : (T.flatMap (clsL n g)).Nodup ∧ (T.flatMap (clsL n g)).length = (tiesOf n g).length + (tiesOf n g).length := by
  have nd : (T.flatMap (clsL n g)).Nodup := by
    refine List.pairwise_flatMap.mpr ⟨fun p _ => cls_nodup n g p, C.dj.imp_of_mem fun {p q} hp hq h x hx y hy e => h ?_⟩
    subst e
    exact ((mem_cls hg (C.ar p hp)).mp hx).trans (((mem_cls hg (C.ar q hq)).mp hy).rev hg (C.ar q hq)).2
  refine ⟨nd, ?_⟩
  have pm : (T.flatMap (clsL n g)).Perm (tiesOf n g ++ (tiesOf n g).map flipA) := (List.perm_ext_iff_of_nodup nd (both_nodup n g)).mpr fun x => by
    rw [both_mem hg, List.mem_flatMap]
    constructor
    · rintro ⟨p, hp, hx⟩
      exact (((mem_cls hg (C.ar p hp)).mp hx).rev hg (C.ar p hp)).1
    · intro ax
      obtain ⟨p, hp, c⟩ := C.al x ax
      exact ⟨p, hp, (mem_cls hg (C.ar p hp)).mpr c⟩
  rw [pm.length_eq, List.length_append, List.length_map]
def spHomes : SpD := fun ds P _ => ∃ (n : Nat) (g : Nat → Nat → Bool) (T : List Arr), ds = [.tup (T.map (clsD n g)), webD n g] ∧ n ≤ 40 ∧ Sym g ∧ CsOk n g T ∧ ∀ m, HomeOk n g T m → P (.dct m)
abbrev Nhomes : List PySem.Str := ["_law_told", "_law_near_here", "_law_size", "_law_homes_here", "_law_k", "_law_a", "_law_b"]
theorem body_homes {X : Cx} (c : CtxT X Nhomes (defScope (top 67))) (bi : Bi X.mg) {k : Nat} (hr : Room k X.A) (fPairs : FnD X.prog X.w X.K X.mg X.base "_law_pairs" k spPairsL) (fTies : FnD X.prog X.w X.K X.mg X.base "_law_ties" k spTies) : BodyOk X Nhomes spHomes (defBody (top 67)) := by
  intro ds P R h B0 H0 air
  obtain ⟨n, g, T, rfl, hn, hg, C, hp⟩ := h
  have tl := ties_len n g
  have nn : n * n ≤ 40 * 40 := Nat.mul_le_mul hn hn
  obtain ⟨fnd, flen⟩ := flatCls hg C
  have lT := arr_len (l := T) (C.dj.imp_of_mem fun hp _ h e => h (e ▸ Fc.refl _)) C.ar
  refine go_cons (g1_asg c.toCtxD 2 (ex_len c.toCtx bi.len (ex_var c.toCtx 1 ⟨n, web_len, ?_⟩)))
  refine go_cons (g1_disp0 c.toCtxD 3 fun pm => ?_)
  refine go_cons (g1_if (tx_not (tx_val (ex_isi (tn := "tuple") c.toCtx bi.isinstance bi.tuple (ex_var c.toCtx 0 ⟨"tuple", true, rfl, rfl, true, rfl, fun z => (by cases z), fun _ => go_nil ?_⟩)))))
  let St : DM → List SD → List (Addr × OV) → Prop := fun m sds os => ∃ x4 x5 x6 : SD, sds = [.d (.tup (T.map (clsD n g))), .d (webD n g), .d (.int (n : Int)), .v (.ref pm), x4, x5, x6] ∧ os = [(pm, .dct m)]
  let I : LoopI := fun j sds os => ∃ (m : DM), St m sds os ∧ m.map (·.1) = ((T.take j).flatMap (clsL n g)).map keyA ∧ ∀ (i : Nat) (p : Arr), i < j → T[i]? = some p → ∀ x ∈ clsL n g p, valM m (keyA x) = some (.int (i : Int))
  refine go_cut (I T.length) (g1_for (t := .nm 4) c.own c.calm (tg_nm c.toCtxD 4) (ix_range1 c.toCtx bi.range (ex_len c.toCtx bi.len (ex_var (d := .tup (T.map (clsD n g))) c.toCtx 0 ⟨T.length, by rw [LenD, List.length_map], (T.length : Int), rfl, by omega, by omega, ?_⟩)))) ?_
  · rw [rng0]
    refine forOk_rng I ⟨[], ⟨_, _, _, rfl, rfl⟩, rfl, fun i p hi => by omega⟩ ?_ fun _ _ h => h
    rintro j sds os hj ⟨m, ⟨x4, x5, x6, rfl, rfl⟩, ek, hv⟩
    obtain ⟨p, hp'⟩ : ∃ p, T[j]? = some p := ⟨_, List.getElem?_eq_getElem hj⟩
    have ap := C.ar p (List.mem_of_getElem? hp')
    obtain ⟨cp1, cp2⟩ := cls_pairs hg ap
    have et : T.take (j + 1) = T.take j ++ [p] := by rw [List.take_succ, hp']; rfl
    refine go_cons (g1_if (tx_not (tx_val (ex_call c.toCtx fPairs hr (ea_cons (ex_ix (ex_var (d := .tup (T.map (clsD n g))) c.toCtx 0 (ex_var (d := .int (j : Int)) c.toCtx 4 ⟨_, rfl, ixT (x := clsD n g p) j (get_mapC hp') ?_⟩))))))))
    refine ea_cons (ex_var (d := .int (n : Int)) c.toCtx 2 (ea_nil ⟨(clsL n g p).map cp, n, by unfold clsD; rw [map_prn], cp1, cp2, true, rfl, fun z => (by cases z), fun _ => go_nil ?_⟩))
    let J : LoopI := fun i sds os => ∃ (m : DM) (x5 x6 : SD), sds = [.d (.tup (T.map (clsD n g))), .d (webD n g), .d (.int (n : Int)), .v (.ref pm), .d (.int (j : Int)), x5, x6] ∧ os = [(pm, .dct m)] ∧ m.map (·.1) = ((T.take j).flatMap (clsL n g) ++ (clsL n g p).take i).map keyA ∧ (∀ (i : Nat) (p : Arr), i < j → T[i]? = some p → ∀ x ∈ clsL n g p, valM m (keyA x) = some (.int (i : Int))) ∧ ∀ x ∈ (clsL n g p).take i, valM m (keyA x) = some (.int (j : Int))
    refine go_cons (g1_for (t := .tp [5, 6]) c.own c.calm (tg_tp c.toCtxD (tgs_cons c.toCtxD 5 (tgs_cons c.toCtxD 6 tgs_nil))) (ix_tup (ex_ix (ex_var (d := .tup (T.map (clsD n g))) c.toCtx 0 (ex_var (d := .int (j : Int)) c.toCtx 4 ⟨_, rfl, ixT (x := clsD n g p) j (get_mapC hp') ⟨_, rfl, forOk_map (L := clsL n g p) J ⟨m, _, _, rfl, rfl, by rw [List.take_zero, List.append_nil]; exact ek, hv, fun x hx => by simp at hx⟩ ?_ ?_⟩⟩)))))
    · rintro i x sds os hi ⟨m, y5, y6, rfl, rfl, ek', hv', hw'⟩
      have xm := List.mem_of_getElem? hi
      have ax := (((mem_cls hg ap).mp xm).rev hg ap).1
      have hil := (List.getElem?_eq_some_iff.mp hi).1
      have hno : x ∉ (T.take j).flatMap (clsL n g) ++ (clsL n g p).take i := by
        have hs : List.Sublist (((T.take j).flatMap (clsL n g) ++ (clsL n g p).take i) ++ [x]) (T.flatMap (clsL n g)) := by
          have e1 : T = T.take j ++ p :: T.drop (j + 1) := split_at hp'
          have e2 : (clsL n g p) = (clsL n g p).take i ++ x :: (clsL n g p).drop (i + 1) := split_at hi
          have e3 : T.flatMap (clsL n g) = (T.take j).flatMap (clsL n g) ++ ((clsL n g p) ++ (T.drop (j + 1)).flatMap (clsL n g)) := by
            conv => lhs; rw [e1]
            rw [List.flatMap_append, List.flatMap_cons]
          rw [e3, List.append_assoc]
          refine List.Sublist.append (List.Sublist.refl _) ?_
          refine List.Sublist.trans ?_ (List.sublist_append_left _ _)
          conv => rhs; rw [e2]
          exact List.Sublist.append (List.Sublist.refl _) (by simp)
        have := List.nodup_append.mp (fnd.sublist hs)
        exact fun hx => this.2.2 x hx x (by simp) rfl
      have kx := keyA_mem ek' x
      have hvx : valM m (keyA x) = none := by
        cases e : valM m (keyA x) with
        | none => rfl
        | some z => exact absurd (kx.mp (by rw [e]; rfl)) hno
      have lm : m.length ≤ (T.flatMap (clsL n g)).length := by
        have e0 := congrArg List.length ek'
        rw [List.length_map, List.length_map] at e0
        rw [e0]
        have e1 : T = T.take j ++ p :: T.drop (j + 1) := split_at hp'
        have e3 : T.flatMap (clsL n g) = (T.take j).flatMap (clsL n g) ++ ((clsL n g p) ++ (T.drop (j + 1)).flatMap (clsL n g)) := by
          conv => lhs; rw [e1]
          rw [List.flatMap_append, List.flatMap_cons]
        rw [e3, List.length_append, List.length_append, List.length_append, List.length_take]
        omega
      refine ⟨_, rfl, rfl, ?_⟩
      refine go_cons (g1_if (tx_w (wx_or (k1 := false) (k2 := false) ?_ (fun _ => tx_or1 ?_) ⟨fun z => (by cases z), fun _ => go_nil ?_⟩)))
      · refine tx_eqI (ex_ix (ex_ix (ex_var (d := webD n g) c.toCtx 1 (ex_var (d := .int (x.1 : Int)) c.toCtx 5 ⟨_, rfl, ixW ax.1 (ex_var (d := .int (x.2 : Int)) c.toCtx 6 ⟨_, rfl, ixR ax.2.1 ⟨_, rfl, ex_int ⟨_, rfl, ?_⟩⟩⟩)⟩))))
        rw [bit_eq0, ax.2.2]; rfl
      · refine tx_din c.toCtx hr 3 0 (ex_tup (ea_cons (ex_var (d := .int (x.1 : Int)) c.toCtx 5 (ea_cons (ex_var (d := .int (x.2 : Int)) c.toCtx 6 (ea_nil ⟨le2, keyA x, rfl, ?_⟩))))))
        rw [hvx]; rfl
      refine go_cons (g1_dput (ad := pm) (m := m) c.toCtx hr 3 0 (ex_var (d := .int (j : Int)) c.toCtx 4 (ex_tup (ea_cons (ex_var (d := .int (x.1 : Int)) c.toCtx 5 (ea_cons (ex_var (d := .int (x.2 : Int)) c.toCtx 6 (ea_nil ⟨le2, keyA x, rfl, by omega, ?_⟩))))))))
      rw [putM_new hvx]
      have keep : ∀ y, y ∈ (T.take j).flatMap (clsL n g) ++ (clsL n g p).take i → valM (m ++ [(keyA x, .int (j : Int))]) (keyA y) = valM m (keyA y) := fun y hy => by
        have hne : keyA x ≠ keyA y := fun e => hno (by rw [keyA_inj e]; exact hy)
        rw [valM_app, if_neg hne, Option.or_none]
      refine go_nil ⟨_, _, _, rfl, rfl, ?_, fun i' p' hi' hp2 y hy => ?_, fun y hy => ?_⟩
      · rw [List.map_append, ek', List.take_succ, hi]
        simp
      · rw [keep y (List.mem_append_left _ (List.mem_flatMap.mpr ⟨p', List.mem_of_getElem? (i := i') (by rw [List.getElem?_take, if_pos hi']; exact hp2), hy⟩))]
        exact hv' i' p' hi' hp2 y hy
      · rw [List.take_succ, hi] at hy
        rcases List.mem_append.mp hy with h | h
        · rw [keep y (List.mem_append_right _ h)]
          exact hw' y h
        · have : y = x := by simpa using h
          rw [this, valM_app, hvx, if_pos rfl]; rfl
    · rintro sds os ⟨m, y5, y6, rfl, rfl, ek', hv', hw'⟩
      rw [List.take_length] at ek' hw'
      refine go_nil ⟨m, ⟨_, _, _, rfl, rfl⟩, by rw [et, List.flatMap_append]; simpa using ek', fun i' p' hi' hp2 y hy => ?_⟩
      by_cases e : i' = j
      · subst e
        rw [hp'] at hp2; cases hp2
        exact hw' y hy
      · exact hv' i' p' (by omega) hp2 y hy
  · rintro sds os ⟨m, ⟨x4, x5, x6, rfl, rfl⟩, ek, hv⟩
    rw [List.take_length] at ek
    have lm : m.length = (tiesOf n g).length + (tiesOf n g).length := by
      have e0 := congrArg List.length ek
      rw [List.length_map, List.length_map, flen] at e0
      exact e0
    refine go_cons (g1_if (tx_neI (ex_lenM (m := m) (ad := pm) c.toCtx 3 0 bi.len ⟨_, rfl, ex_mulI (ex_int ⟨2, rfl, ex_len c.toCtx bi.len (ex_call c.toCtx fTies hr (ea_cons (ex_var (d := webD n g) c.toCtx 1 (ea_nil ⟨n, g, rfl, by omega, _, lenL, _, rfl, .inl ⟨by decide, by decide⟩, _, rfl, fun z => ?_, fun _ => go_nil ?_⟩))))⟩)⟩)))
    · rw [List.length_map, lm] at z
      have : (((tiesOf n g).length + (tiesOf n g).length : Nat) : Int) = 2 * ((tiesOf n g).length : Int) := by omega
      rw [decide_eq_true this] at z; cases z
    · refine go_freezeT (m := m) (ad := pm) 3 0 ?_
      exact go_cons (g1_ret (ex_var (d := .dct m) c.toCtx 3 (hp m fun j p hj x hx => hv j p (List.getElem?_eq_some_iff.mp hj).1 hj x hx)))
end OB
set_option Elab.async false
set_option linter.all false
set_option maxRecDepth 100000
set_option maxHeartbeats 4000000
namespace OB
open PySem PySem.Spec PyProof.Rows L2
/-! ### one triangle -/
def spOneTri : SpD := fun ds P _ => ∃ (n : Nat) (g : Nat → Nat → Bool) (T : List Arr) (m : DM) (u v w : Nat), ds = [webD n g, .tup (T.map (clsD n g)), .dct m, .int (u : Int), .int (v : Int), .int (w : Int)] ∧ n ≤ 100 ∧ Sym g ∧ CsOk n g T ∧ HomeOk n g T m ∧ u < n ∧ v < n ∧ w < n ∧ g u v = true ∧ g u w = true ∧ g v w = true ∧ P (.bl true)
abbrev NoneTri : List PySem.Str := ["_law_near_here", "_law_told", "_law_homes_here", "_law_a", "_law_b", "_law_c", "_law_home", "_law_x", "_law_y"]
section
variable {X : Cx} {N : List PySem.Str} {S : Scope} {B0 H0 : Hp} {sds : List SD} {os : List (Addr × OV)} {P : D → Prop} {k : Nat} {p1 p2 p3 p4 pos : Pos} {kk : Nat}
/-- homes[x, y] -/
theorem ex_home (c : Ctx X N S) (hr : Room k X.A) (i j l : Nat) {x y z : PySem.Str} {m : DM} {q : Arr} {d : D} (hv : valM m (keyA q) = some d) (h : P d) (hs1 : sds[i]? = some (.d (.dct m)) := by rfl) (hs2 : sds[j]? = some (.d (.int (q.1 : Int))) := by rfl) (hs3 : sds[l]? = some (.d (.int (q.2 : Int))) := by rfl)
    (n1 : N[i]? = some x := by rfl) (n2 : N[j]? = some y := by rfl) (n3 : N[l]? = some z := by rfl) (v1 : visB S x = true := by decide +kernel) (v2 : visB S y = true := by decide +kernel) (v3 : visB S z = true := by decide +kernel)
    (a1 : (x == ("__debug__" : PySem.Str)) = false := by decide +kernel) (b1 : (x == ("__classdict__" : PySem.Str)) = false := by decide +kernel) (a2 : (y == ("__debug__" : PySem.Str)) = false := by decide +kernel) (b2 : (y == ("__classdict__" : PySem.Str)) = false := by decide +kernel) (a3 : (z == ("__debug__" : PySem.Str)) = false := by decide +kernel) (b3 : (z == ("__classdict__" : PySem.Str)) = false := by decide +kernel) :
    EX X B0 H0 sds os (.Subscript (.Name x p1) (.Tuple [.Name y p2, .Name z p3] kk p4) pos) P :=
  ex_dgetD hr (ex_var c i (ex_tup (ea_cons (ex_var c j (ea_cons (ex_var c l (ea_nil ⟨le2, keyA q, m, d, rfl, rfl, hv, h⟩) hs3 n3 v3 a3 b3)) hs2 n2 v2 a2 b2))) hs1 n1 v1 a1 b1)
end
theorem body_one_tri {X : Cx} (c : CtxT X NoneTri (defScope (top 68))) (bi : Bi X.mg) {k : Nat} (hr : Room k X.A) : BodyOk X NoneTri spOneTri (defBody (top 68)) := by
  intro ds P R h B0 H0 air
  obtain ⟨n, g, T, m, u, v, w, rfl, hn, hg, C, HK, hu, hv, hw, guv, guw, gvw, hp⟩ := h
  have gvu : g v u = true := by rw [hg.1]; exact guv
  have avw : Ar n g (v, w) := ⟨hv, hw, gvw⟩
  obtain ⟨jh, ph, e1, c1, v1⟩ := HK.at hg C (x := (v, w)) avw
  obtain ⟨ja, pa, e2, c2, v2⟩ := HK.at hg C (x := (u, w)) ⟨hu, hw, guw⟩
  obtain ⟨jb, pb, e3, c3, v3⟩ := HK.at hg C (x := (v, u)) ⟨hv, hu, gvu⟩
  obtain ⟨jc, pc, e4, c4, v4⟩ := HK.at hg C (x := (u, v)) ⟨hu, hv, guv⟩
  have aph := C.ar ph (List.mem_of_getElem? e1)
  refine go_cons (g1_asg c.toCtxD 6 (ex_home (q := (v, w)) c.toCtx hr 2 4 5 v1 ?_))
  refine go_cons (g1_if (tx_w (tx_or (tx_eqI (ex_home (q := (u, w)) c.toCtx hr 2 3 5 v2 ⟨_, rfl, ex_var (d := .int (jh : Int)) c.toCtx 6 ⟨_, rfl, fun z1 => ?_, fun _ => ⟨fun _ => go_cons (g1_ret (ex_bl hp)), fun z => (by cases z)⟩⟩⟩)))))
  refine tx_or1 (tx_eqI (ex_home (q := (v, u)) c.toCtx hr 2 4 3 v3 ⟨_, rfl, ex_var (d := .int (jh : Int)) c.toCtx 6 ⟨_, rfl, fun _ => go_cons (g1_ret (ex_bl hp)), fun z2 => go_nil ?_⟩⟩))
  have n1 : ¬ Fc n g (v, w) (u, w) := fun cc => by
    have := (C.uniq hg e1 e2 c1 c2).mpr cc
    subst this; simp at z1
  have n2 : ¬ Fc n g (v, w) (v, u) := fun cc => by
    have := (C.uniq hg e1 e3 c1 c3).mpr cc
    subst this; simp at z2
  let I : LoopI := fun i sds os => ∃ x7 x8 : SD, sds = [.d (webD n g), .d (.tup (T.map (clsD n g))), .d (.dct m), .d (.int (u : Int)), .d (.int (v : Int)), .d (.int (w : Int)), .d (.int (jh : Int)), x7, x8] ∧ os = []
  refine go_cut (I (clsL n g ph).length) (g1_for (t := .tp [7, 8]) c.own c.calm (tg_tp c.toCtxD (tgs_cons c.toCtxD 7 (tgs_cons c.toCtxD 8 tgs_nil))) (ix_tup (ex_ix (ex_var (d := .tup (T.map (clsD n g))) c.toCtx 1 (ex_var (d := .int (jh : Int)) c.toCtx 6 ⟨_, rfl, ixT (x := clsD n g ph) jh (get_mapC e1) ⟨_, rfl, forOk_map (L := clsL n g ph) I ⟨_, _, rfl, rfl⟩ ?_ fun _ _ h => h⟩⟩))))) ?_
  · rintro i x sds os hi ⟨y7, y8, rfl, rfl⟩
    have cx := (mem_cls hg aph).mp (List.mem_of_getElem? hi)
    have ax := (cx.rev hg aph).1
    obtain ⟨f1, f2, f3, f4, f5, f6⟩ := triangle hg hu hv hw guv guw gvw n1 n2 ((c1.rev hg aph).2.trans cx)
    obtain ⟨jx, px, e5, c5, v5⟩ := HK.at hg C (x := (u, x.1)) ⟨hu, ax.1, f3⟩
    obtain ⟨jy, py, e6, c6, v6⟩ := HK.at hg C (x := (u, x.2)) ⟨hu, ax.2.1, f4⟩
    have q1 : jx = jc := ((C.uniq hg e4 e5 c4 c5).mpr f5).symm
    have q2 : jy = ja := ((C.uniq hg e2 e6 c2 c6).mpr f6).symm
    refine ⟨_, rfl, rfl, ?_⟩
    refine go_cons (g1_if (tx_w (wx_or (k1 := false) (k2 := false) ?_ (fun _ => wx_or (k1 := false) (k2 := false) ?_ (fun _ => wx_or (k1 := false) (k2 := false) ?_ (fun _ => tx_or1 ?_) rfl) rfl) ⟨fun z => (by cases z), fun _ => go_nil ?_⟩)))
    · exact tx_eqI (ex_var (d := .int (x.1 : Int)) c.toCtx 7 ⟨_, rfl, ex_var (d := .int (u : Int)) c.toCtx 3 ⟨_, rfl, decide_eq_false (by omega)⟩⟩)
    · exact tx_eqI (ex_var (d := .int (x.2 : Int)) c.toCtx 8 ⟨_, rfl, ex_var (d := .int (u : Int)) c.toCtx 3 ⟨_, rfl, decide_eq_false (by omega)⟩⟩)
    · refine tx_eqI (ex_ix (ex_ix (ex_var (d := webD n g) c.toCtx 0 (ex_var (d := .int (u : Int)) c.toCtx 3 ⟨_, rfl, ixW hu (ex_var (d := .int (x.1 : Int)) c.toCtx 7 ⟨_, rfl, ixR ax.1 ⟨_, rfl, ex_int ⟨_, rfl, ?_⟩⟩⟩)⟩))))
      rw [bit_eq0, f3]; rfl
    · refine tx_eqI (ex_ix (ex_ix (ex_var (d := webD n g) c.toCtx 0 (ex_var (d := .int (u : Int)) c.toCtx 3 ⟨_, rfl, ixW hu (ex_var (d := .int (x.2 : Int)) c.toCtx 8 ⟨_, rfl, ixR ax.2.1 ⟨_, rfl, ex_int ⟨_, rfl, ?_⟩⟩⟩)⟩))))
      rw [bit_eq0, f4]; rfl
    refine go_cons (g1_if (tx_w (wx_or (k1 := false) (k2 := false) ?_ (fun _ => tx_or1 ?_) ⟨fun z => (by cases z), fun _ => go_nil (go_nil ⟨_, _, rfl, rfl⟩)⟩)))
    · refine tx_neI (ex_home (q := (u, x.1)) c.toCtx hr 2 3 7 v5 ⟨_, rfl, ex_home (q := (u, v)) c.toCtx hr 2 3 4 v4 ⟨_, rfl, ?_⟩⟩)
      rw [q1, decide_eq_true rfl]; rfl
    · refine tx_neI (ex_home (q := (u, x.2)) c.toCtx hr 2 3 8 v6 ⟨_, rfl, ex_home (q := (u, w)) c.toCtx hr 2 3 5 v2 ⟨_, rfl, ?_⟩⟩)
      rw [q2, decide_eq_true rfl]; rfl
  · rintro sds os ⟨y7, y8, rfl, rfl⟩
    exact go_cons (g1_ret (ex_bl hp))
end OB
set_option Elab.async false
set_option linter.all false
set_option maxRecDepth 100000
set_option maxHeartbeats 4000000
namespace OB
open PySem PySem.Spec PyProof.Rows L2
/-! ### the webs drawn -/
structure Ws3 (P : Program) (w : World) (K : PySem.W.Frag) (mg : PySem.Str → Option Value) (base : Heap) (k : Nat) : Prop extends Ws P w K mg base k where
  row : FnD P w K mg base "_law_row" k spRow
  agree : FnD P w K mg base "_law_agree" k spAgree
  any : FnD P w K mg base "_law_any_ties" k spAny
  renamed : FnD P w K mg base "_law_renamed" k spRenamed
abbrev Ndrawn : List PySem.Str := ["_law_draws_here", "_law_most", "_law_word", "_law_size", "_law_near_here"]
theorem body_drawn {X : Cx} (c : CtxT X Ndrawn (defScope (top 65))) {k : Nat} (hr : Room k X.A) (W : Ws3 X.prog X.w X.K X.mg X.base k) : BodyOk X Ndrawn (spWeb 4) (defBody (top 65)) := by
  intro ds P R h B0 H0 air
  obtain ⟨m, rfl, hm, hm2, hp⟩ := h
  have em : ((m : Int) - 3) = ((m - 3 : Nat) : Int) := by omega
  refine go_cons (g1_asg c.toCtxD 2 (ex_take c.toCtx W.take hr 0 (ex_int ⟨5, rfl, by decide, fun w _ => ?_⟩)))
  refine go_cons (g1_asg c.toCtxD 3 (ex_addI (ex_int ⟨_, rfl, ex_take c.toCtx W.take hr 0 (ex_subI (ex_var c.toCtx 1 ⟨_, rfl, ex_int ⟨_, rfl, ⟨m - 3, by rw [em], by omega, fun r hr' => ⟨_, rfl, ?_⟩⟩⟩⟩))⟩)))
  have es : (4 + (r : Int)) = ((4 + r : Nat) : Int) := by omega
  rw [es]
  have hsz1 : 4 ≤ 4 + r := by omega
  have hsz2 : 4 + r ≤ m := by omega
  generalize 4 + r = s at hsz1 hsz2
  refine go_cut (fun sds os => os = [] ∧ ∃ n g, 1 ≤ n ∧ n ≤ m ∧ Sym g ∧ sds = [.d .drw, .d (.int (m : Int)), .d (.int (w : Int)), .d (.int (s : Int)), .d (webD n g)]) ?_ ?_
  · refine g1_if (tx_eqI (ex_var c.toCtx 2 ⟨_, rfl, ex_int ⟨_, rfl, ⟨fun _ => ?_, fun _ => go_cons ?_⟩⟩⟩))
    · exact go_cons (g1_asg c.toCtxD 4 (ex_call c.toCtx W.path hr (ea_cons (ex_var c.toCtx 3 (ea_nil ⟨s, rfl, by omega, by omega, fun g hs => go_nil ⟨rfl, s, g, by omega, hsz2, hs, rfl⟩⟩)))))
    refine g1_if (tx_eqI (ex_var c.toCtx 2 ⟨_, rfl, ex_int ⟨_, rfl, ⟨fun _ => ?_, fun _ => go_cons ?_⟩⟩⟩))
    · exact go_cons (g1_asg c.toCtxD 4 (ex_call c.toCtx W.round hr (ea_cons (ex_var c.toCtx 3 (ea_nil ⟨s, rfl, by omega, by omega, fun g hs => go_nil (go_nil ⟨rfl, s, g, by omega, hsz2, hs, rfl⟩)⟩)))))
    refine g1_if (tx_eqI (ex_var c.toCtx 2 ⟨_, rfl, ex_int ⟨_, rfl, ⟨fun _ => ?_, fun _ => go_cons ?_⟩⟩⟩))
    · refine go_cons (g1_asg c.toCtxD 4 (ex_call c.toCtx W.any hr (ea_cons (ex_var c.toCtx 0 (ea_cons (ex_subI (ex_var c.toCtx 3 ⟨_, rfl, ex_take c.toCtx W.take hr 0 (ex_int ⟨4, rfl, by decide, fun t ht => ⟨_, rfl, ?_⟩⟩)⟩)))))))
      have et : ((s : Int) - (t : Int)) = ((s - t : Nat) : Int) := by omega
      rw [et]
      exact ea_nil ⟨s - t, rfl, by omega, by omega, fun g hs => go_nil (go_nil (go_nil ⟨rfl, s - t, g, by omega, by omega, hs, rfl⟩))⟩
    refine g1_if (tx_eqI (ex_var c.toCtx 2 ⟨_, rfl, ex_int ⟨_, rfl, ⟨fun _ => ?_, fun _ => ?_⟩⟩⟩))
    · refine go_cons (g1_asg c.toCtxD 4 (ex_call c.toCtx W.agree hr (ea_cons (ex_ofL (el_lst (ea_cons (ex_call c.toCtx W.row hr (ea_cons (ex_var c.toCtx 0 (ea_cons (ex_var c.toCtx 3 (ea_nil ⟨s, rfl, by omega, fun r1 p1 => ?_⟩))))))))))))
      refine ea_cons (ex_call c.toCtx W.row hr (ea_cons (ex_var c.toCtx 0 (ea_cons (ex_var c.toCtx 3 (ea_nil ⟨s, rfl, by omega, fun r2 p2 => ?_⟩))))))
      refine ea_nil ⟨le2, ea_nil ⟨s, [r1, r2], rfl, by omega, by simp, by simp, by simp [p1, p2], fun g hs => go_nil (go_nil (go_nil (go_nil ⟨rfl, s, g, by omega, by omega, hs, rfl⟩)))⟩⟩
    · refine go_cons (g1_asg c.toCtxD 4 (ex_call c.toCtx W.graft hr (ea_cons (ex_call c.toCtx W.path hr (ea_cons (ex_int (ea_nil ⟨4, rfl, by decide, by decide, fun gp hgp => ?_⟩)))))))
      refine ea_cons (ex_take c.toCtx W.take hr 0 (ex_int ⟨4, rfl, by decide, fun t ht => ?_⟩))
      refine ea_cons (ex_call c.toCtx W.any hr (ea_cons (ex_var c.toCtx 0 (ea_cons (ex_subI (ex_var c.toCtx 3 ⟨_, rfl, ex_int ⟨_, rfl, ?_⟩⟩))))))
      have et : ((s : Int) - 3) = ((s - 3 : Nat) : Int) := by omega
      rw [et]
      refine ea_nil ⟨s - 3, rfl, by omega, by omega, fun ga hga => ea_nil ⟨4, s - 3, t, gp, ga, rfl, by decide, by omega, ht, hgp, hga, fun g hs => go_nil (go_nil (go_nil (go_nil ⟨rfl, 4 - 1 + (s - 3), g, by omega, by omega, hs, rfl⟩)))⟩⟩
  rintro sds os ⟨rfl, n, g, h1, h2, hs, rfl⟩
  exact go_cons (g1_ret (ex_call c.toCtx W.renamed hr (ea_cons (ex_var c.toCtx 4 (ea_cons (ex_call c.toCtx W.row hr (ea_cons (ex_var c.toCtx 0 (ea_cons (ex_len c.toCtx W.bi.len (ex_var c.toCtx 4 ⟨n, web_len, ea_nil ⟨n, rfl, by omega, fun q hq => ea_nil ⟨n, g, q, rfl, by omega, hq, hs, fun g' hs' => hp n g' h1 h2 hs'⟩⟩⟩)))))))))))
end OB
set_option Elab.async false
set_option linter.all false
set_option maxRecDepth 100000
set_option maxHeartbeats 4000000
namespace OB
open PySem PySem.Spec PyProof.Rows L2
theorem ints_nat (u : List Nat) : u.map natD = (u.map fun i : Nat => (i : Int)).map .int := by rw [List.map_map]; rfl
/-! ### the law's looks at lots -/
section
variable {X : Cx} {N : List PySem.Str} {S scope : Scope} {B0 H0 : Hp} {sds : List SD} {os : List (Addr × OV)} {E : DE} {body : List Stmt}
theorem forOk_from {t : Tg} {lo : Int} {n : Nat} (I : LoopI) (h0 : I 0 sds os) (hs : ∀ (k : Nat) sds' os', k < n → I k sds' os' → t.put (.int (lo + (k : Int))) sds' fun s'' => Go X B0 H0 s'' os' { E with nx := I (k + 1), ct := I (k + 1), bk := E.nx } body) (he : ∀ sds' os', I n sds' os' → E.nx sds' os') : ForOk X B0 H0 sds os E t body (rngD lo n) := by
  refine ⟨I, h0, fun k u s o hu hI => ?_, fun s o h => he s o (by rwa [rngD_len] at h)⟩
  have hk : k < n := by
    have := (List.getElem?_eq_some_iff.mp hu).1
    rwa [rngD_len] at this
  rw [rngD_get hk] at hu
  cases hu
  exact hs k s o hk hI
end
theorem ixT2 {l : List D} {x : D} {P : D → Prop} {i : Int} (j : Nat) (e : i = (j : Int)) (h : l[j]? = some x) (p : P x) : IxD (.tup l) i P := ⟨j, x, e, h, p⟩
theorem ixL2 {l : List D} {x : D} {P : D → Prop} {i : Int} (j : Nat) (e : i = (j : Int)) (h : l[j]? = some x) (p : P x) : IxD (.lst l) i P := ⟨j, x, e, h, p⟩
def spLawLot : SpD := fun ds P _ => ∃ (u : List Nat) (n : Nat), ds = [.tup (u.map natD), .int (n : Int)] ∧ u.length ≤ 1000 ∧ (∀ x ∈ u, x < n) ∧ u.Pairwise (· < ·) ∧ P (.bl true)
abbrev NlawLot : List PySem.Str := ["_law_value", "_law_size", "_law_k"]
theorem body_law_lot {X : Cx} (c : CtxT X NlawLot (defScope (top 61))) (bi : Bi X.mg) {k : Nat} (hr : Room k X.A) (fInts : FnD X.prog X.w X.K X.mg X.base "_law_ints" k spInts) : BodyOk X NlawLot spLawLot (defBody (top 61)) := by
  intro ds P R h B0 H0 air
  obtain ⟨u, n, rfl, hl, hu, hs, hp⟩ := h
  refine go_cons (g1_if (tx_not (tx_val (ex_call c.toCtx fInts hr (ea_cons (ex_var (d := .tup (u.map natD)) c.toCtx 0 (ea_cons (ex_var (d := .int (n : Int)) c.toCtx 1 (ea_nil ⟨u.map fun i : Nat => (i : Int), n, by rw [ints_nat], fun x hx => ?_, true, rfl, fun z => (by cases z), fun _ => go_nil ?_⟩)))))))))
  · obtain ⟨i, hi, rfl⟩ := List.mem_map.mp hx
    have := hu i hi
    omega
  let I : LoopI := fun k sds os => ∃ x : SD, sds = [.d (.tup (u.map natD)), .d (.int (n : Int)), x] ∧ os = []
  refine go_cut (I (u.length - 1)) (g1_for (t := .nm 2) c.own c.calm (tg_nm c.toCtxD 2) (ix_range2 c.toCtx bi.range (ex_int (ex_len c.toCtx bi.len (ex_var (d := .tup (u.map natD)) c.toCtx 0 ⟨_, lenT, 1, _, rfl, rfl, ⟨by decide, by decide, by omega, by rw [List.length_map]; omega⟩, ?_⟩))))) ?_
  · have e : (((u.map natD).length : Int) - 1).toNat = u.length - 1 := by rw [List.length_map]; omega
    rw [e]
    refine forOk_from I ⟨.un, rfl, rfl⟩ ?_ fun _ _ h => h
    rintro k sds os hk ⟨x, rfl, rfl⟩
    have h1 : u[k]? = some u[k] := List.getElem?_eq_getElem (by omega)
    have h2 : u[k + 1]? = some u[k + 1] := List.getElem?_eq_getElem (by omega)
    have hlt : u[k] < u[k + 1] := List.pairwise_iff_getElem.mp hs k (k + 1) (by omega) (by omega) (by omega)
    refine go_cons (g1_if (tx_geI (ex_ix (ex_var (d := .tup (u.map natD)) c.toCtx 0 (ex_subI (ex_var (d := .int (1 + (k : Int))) c.toCtx 2 ⟨_, rfl, ex_int ⟨1, rfl, _, rfl, ixT2 k (by omega) (by rw [List.getElem?_map, h1]; rfl) ⟨(u[k] : Int), rfl, ex_ix (ex_var (d := .tup (u.map natD)) c.toCtx 0 (ex_var (d := .int (1 + (k : Int))) c.toCtx 2 ⟨_, rfl, ixT2 (k + 1) (by omega) (by rw [List.getElem?_map, h2]; rfl) ⟨(u[k + 1] : Int), rfl, ?_⟩⟩))⟩⟩⟩))))))
    refine ⟨fun hb => ?_, fun _ => go_nil (go_nil ⟨_, rfl, rfl⟩)⟩
    exfalso
    have := of_decide_eq_true hb
    omega
  · rintro sds os ⟨x, rfl, rfl⟩
    exact go_cons (g1_ret (ex_bl hp))
end OB
set_option Elab.async false
set_option linter.all false
set_option maxRecDepth 100000
set_option maxHeartbeats 4000000
namespace OB
open PySem PySem.Spec PyProof.Rows L2
section
variable {X : Cx} {B0 H0 : Hp} {sds : List SD} {os : List (Addr × OV)} {P : D → Prop} {pos : Pos} {a b : Expr} {k : Nat}
theorem ex_notInT (hr : Room k X.A) (h : EX X B0 H0 sds os a fun da => EX X B0 H0 sds os b fun db => ∃ l, db = .tup l ∧ shp da = true ∧ shp db = true ∧ P (.bl (!l.any fun z => eqd z da))) (hm : behindInMarks .NotIn b = false := by rfl) : EX X B0 H0 sds os (.Compare a [.NotIn] [b] pos) P :=
  ex_cmpB (op_notInT (by have := hr.un; omega)) hm (h.imp fun d k => k.imp fun d' ⟨l, e, h1, h2, p⟩ => by subst e; exact cmp_notInT h1 h2 p)
end
/-! ### what a class touches -/
noncomputable def tchL (n : Nat) (g : Nat → Nat → Bool) (p : Arr) : List Nat := (List.range n).filter fun i => (clsL n g p).any fun x => x.1 == i || x.2 == i
theorem mem_tch {n : Nat} {g : Nat → Nat → Bool} {p : Arr} (hg : Sym g) (ap : Ar n g p) {i : Nat} : i ∈ tchL n g p ↔ ∃ x, Fc n g p x ∧ (x.1 = i ∨ x.2 = i) := by
  unfold tchL
  rw [List.mem_filter, List.mem_range, List.any_eq_true]
  constructor
  · rintro ⟨_, x, hx, e⟩
    refine ⟨x, (mem_cls hg ap).mp hx, ?_⟩
    rw [Bool.or_eq_true] at e
    exact e.imp (fun h => eq_of_beq h) fun h => eq_of_beq h
  · rintro ⟨x, hx, e⟩
    have ax := (hx.rev hg ap).1
    refine ⟨?_, x, (mem_cls hg ap).mpr hx, ?_⟩
    · have h1 := ax.1
      have h2 := ax.2.1
      rcases e with e | e <;> omega
    · rw [Bool.or_eq_true]
      exact e.imp (fun h => by rw [h]; exact beq_self_eq_true _) fun h => by rw [h]; exact beq_self_eq_true _
theorem shp_natT (u : List Nat) : shp (.tup (u.map natD)) = true := (dpt_tup fun d hd => by obtain ⟨i, _, rfl⟩ := List.mem_map.mp hd; exact dpt_int _).shp
def spTouched (CW : Addr) : SpD := fun ds P _ => ∃ (n : Nat) (g : Nat → Nat → Bool) (p : Arr), ds = [webO CW n g, prn p] ∧ n ≤ 8 ∧ Sym g ∧ Ar n g p ∧ P (.tup ((tchL n g p).map natD))
theorem dpt_blC (b : Bool) : dpt 0 (.bl b) := by unfold dpt; rw [pok, py, PyData.canLay0, PyData.depth]; exact ⟨rfl, rfl, Nat.le_refl _⟩
/-! a triangle drawn -/
structure Dt (P : Program) (w : World) (K : PySem.W.Frag) (mg : PySem.Str → Option Value) (base : Heap) (k : Nat) (CW : Addr) : Prop where
  bi : Bi mg
  take : FnD P w K mg base "_law_take" k spTake
  same : FnD P w K mg base "same_class" k (spSame CW)
  lcls : FnD P w K mg base "_law_class" k spLawClass
  touched : FnD P w K mg base "touched" k (spTouched CW)
  lot : FnD P w K mg base "_law_lot" k spLawLot
def tri (t : Nat × Nat × Nat) : D := .tup [.int (t.1 : Int), .int (t.2.1 : Int), .int (t.2.2 : Int)]
def TriOk (n : Nat) (g : Nat → Nat → Bool) (t : Nat × Nat × Nat) : Prop := t.1 < n ∧ t.2.1 < n ∧ t.2.2 < n ∧ g t.1 t.2.1 = true ∧ g t.1 t.2.2 = true ∧ g t.2.1 t.2.2 = true
def spDrawnTri (CW : Addr) : SpD := fun ds P _ => ∃ (n : Nat) (g : Nat → Nat → Bool) (T : List Arr) (m : DM) (L : List (Nat × Nat × Nat)), ds = [.drw, webO CW n g, webD n g, .dct m, .lst (L.map tri)] ∧ n ≤ 8 ∧ Sym g ∧ CsOk n g T ∧ HomeOk n g T m ∧ 0 < L.length ∧ (∀ t ∈ L, TriOk n g t) ∧ P (.bl true)
abbrev NdrawnTri : List PySem.Str := ["_law_draws_here", "_law_web", "_law_near_here", "_law_homes_here", "_law_rows", "_law_a", "_law_b", "_law_c", "_law_said", "_law_due", "_law_one", "_law_lot_here"]
theorem body_drawn_tri {X : Cx} (c : CtxT X NdrawnTri (defScope (top 69))) {CW : Addr} {k : Nat} (hr : Room k X.A) (W : Dt X.prog X.w X.K X.mg X.base k CW) : BodyOk X NdrawnTri (spDrawnTri CW) (defBody (top 69)) := by
  intro ds P R h B0 H0 air
  obtain ⟨n, g, T, m, L, rfl, hn, hg, C, HK, pL, hL, hp⟩ := h
  have bi := W.bi
  refine go_cons (g1_asg3 c.toCtxD 5 6 7 (ex_ix (ex_var (d := .lst (L.map tri)) c.toCtx 4 (ex_take c.toCtx W.take hr 0 (ex_len c.toCtx bi.len (ex_var (d := .lst (L.map tri)) c.toCtx 4 ⟨_, lenL, L.length, by rw [List.length_map], pL, fun r hr' => ⟨_, rfl, ?_⟩⟩))))))
  obtain ⟨t, ht⟩ : ∃ t, L[r]? = some t := ⟨_, List.getElem?_eq_getElem hr'⟩
  obtain ⟨u, v, w⟩ := t
  have hq := hL _ (List.mem_of_getElem? ht)
  obtain ⟨hu, hv, hw, guv, guw, gvw⟩ := hq
  have hu : u < n := hu
  have hv : v < n := hv
  have hw : w < n := hw
  have guv : g u v = true := guv
  have guw : g u w = true := guw
  have gvw : g v w = true := gvw
  have gvu : g v u = true := by rw [hg.1]; exact guv
  have ne : ∀ {x y : Nat}, g x y = true → x ≠ y := fun h e => by rw [e, hg.2] at h; cases h
  refine ixL (x := tri (u, v, w)) r (get_mapC ht) ⟨_, _, _, rfl, ?_⟩
  have ap : Ar n g (v, w) := ⟨hv, hw, gvw⟩
  have aq : Ar n g (u, w) := ⟨hu, hw, guw⟩
  have ar : Ar n g (v, u) := ⟨hv, hu, gvu⟩
  have e1 : pairOf n (prn (v, w)) = some ((v : Int), (w : Int)) := pairOf_prn ⟨hv, hw, ne gvw⟩
  have e2 : pairOf n (prn (u, w)) = some ((u : Int), (w : Int)) := pairOf_prn ⟨hu, hw, ne guw⟩
  have e3 : pairOf n (.lst [.int (v : Int), .int (u : Int)]) = some ((v : Int), (u : Int)) := pairOf_prn (p := (v, u)) ⟨hv, hu, ne gvu⟩
  have o3 : okP (.lst [.int (v : Int), .int (u : Int)]) := ⟨rfl, fun l h x hx => by
    have e : l = [.int (v : Int), .int (u : Int)] := by cases h; rfl
    subst e
    rcases List.mem_cons.mp hx with h | h
    · subst h; exact rfl
    · have : x = .int (u : Int) := by simpa using h
      subst this; exact rfl⟩
  let b1 := clB n g (v, w) (u, w)
  let b2 := clB n g (v, w) (v, u)
  have inC : ∀ (y : Arr), ((clsL n g (v, w)).map prn).any (fun z => eqd z (prn y)) = clB n g (v, w) y := fun y => by
    rw [any_prn]
    refine Bool.eq_iff_iff.mpr ?_
    rw [decide_eq_true_iff, mem_cls hg ap, clB_iff]
  refine go_cons (g1_asg c.toCtxD 8 (ex_ofL (el_lst (ea_cons (ex_call c.toCtx W.same hr (ea_cons (ex_var (d := webO CW n g) c.toCtx 1 (ea_cons (ex_tup (ea_cons (ex_var (d := .int (v : Int)) c.toCtx 6 (ea_cons (ex_var (d := .int (w : Int)) c.toCtx 7 (ea_nil ⟨le2, ea_cons (ex_tup (ea_cons (ex_var (d := .int (u : Int)) c.toCtx 5 (ea_cons (ex_var (d := .int (w : Int)) c.toCtx 7 (ea_nil ⟨le2, ea_nil ⟨n, g, prn (v, w), prn (u, w), (v, w), (u, w), rfl, by omega, hg, okP_prn _, okP_prn _, e1, e2, ap, aq, ?_⟩⟩))))))⟩))))))))))))))
  refine ea_cons (ex_call c.toCtx W.same hr (ea_cons (ex_var (d := webO CW n g) c.toCtx 1 (ea_cons (ex_tup (ea_cons (ex_var (d := .int (v : Int)) c.toCtx 6 (ea_cons (ex_var (d := .int (w : Int)) c.toCtx 7 (ea_nil ⟨le2, ea_cons (ex_ofL (el_lst (ea_cons (ex_var (d := .int (v : Int)) c.toCtx 6 (ea_cons (ex_var (d := .int (u : Int)) c.toCtx 5 (ea_nil ⟨le2, ea_nil ⟨n, g, prn (v, w), _, (v, w), (v, u), rfl, by omega, hg, okP_prn _, o3, e1, e3, ap, ar, ea_nil ⟨le2, ?_⟩⟩⟩)))))))⟩))))))))))
  refine go_cons (g1_asg c.toCtxD 9 (ex_ofL (el_lst (ea_cons (ex_inD hr (ex_tup (ea_cons (ex_var (d := .int (u : Int)) c.toCtx 5 (ea_cons (ex_var (d := .int (w : Int)) c.toCtx 7 (ea_nil ⟨le2, ex_call c.toCtx W.lcls hr (ea_cons (ex_var (d := webD n g) c.toCtx 2 (ea_cons (ex_tup (ea_cons (ex_var (d := .int (v : Int)) c.toCtx 6 (ea_cons (ex_var (d := .int (w : Int)) c.toCtx 7 (ea_nil ⟨le2, ea_nil ⟨n, g, (v, w), rfl, by omega, hg, ap, _, rfl, shp_prn (u, w), shp_prns _, ?_⟩⟩)))))))))⟩)))))))))))
  refine ea_cons (ex_inD hr (ex_tup (ea_cons (ex_var (d := .int (v : Int)) c.toCtx 6 (ea_cons (ex_var (d := .int (u : Int)) c.toCtx 5 (ea_nil ⟨le2, ex_call c.toCtx W.lcls hr (ea_cons (ex_var (d := webD n g) c.toCtx 2 (ea_cons (ex_tup (ea_cons (ex_var (d := .int (v : Int)) c.toCtx 6 (ea_cons (ex_var (d := .int (w : Int)) c.toCtx 7 (ea_nil ⟨le2, ea_nil ⟨n, g, (v, w), rfl, by omega, hg, ap, _, rfl, shp_prn (v, u), shp_prns _, ea_nil ⟨le2, ?_⟩⟩⟩)))))))))⟩)))))))
  rw [show (((clsL n g (v, w)).map prn).any fun z => eqd z (D.tup [.int (u : Int), .int (w : Int)])) = b1 from inC (u, w), show (((clsL n g (v, w)).map prn).any fun z => eqd z (D.tup [.int (v : Int), .int (u : Int)])) = b2 from inC (v, u)]
  have sb : shp (.lst [.bl b1, .bl b2]) = true := by
    show shp (.lst ([b1, b2].map D.bl)) = true
    exact (dpt_lst (k := 0) fun d hd => by obtain ⟨i, _, rfl⟩ := List.mem_map.mp hd; exact dpt_blC i).shp
  show Go X B0 H0 [.d .drw, .d (webO CW n g), .d (webD n g), .d (.dct m), .d (.lst (L.map tri)), .d (.int (u : Int)), .d (.int (v : Int)), .d (.int (w : Int)), .d (.lst [.bl b1, .bl b2]), .d (.lst [.bl b1, .bl b2]), .un, .un] [] _ _
  refine go_cons (g1_if (tx_w (wx_or (k1 := false) (k2 := false) ?_ (fun _ => tx_or1 ?_) ⟨fun z => (by cases z), fun _ => go_nil ?_⟩)))
  · refine tx_neD hr (ex_var (d := .lst [.bl b1, .bl b2]) c.toCtx 8 (ex_var (d := .lst [.bl b1, .bl b2]) c.toCtx 9 ⟨sb, sb, ?_⟩))
    rw [eqd_refl sb]; rfl
  · refine tx_not (tx_val (ex_allB c.toCtx bi.all (ex_ofL (el_lc0 c.toCtx [("_law_one", 10)] (.nm 10) (fun X' b => tb_nm (b.ctx c.toCtx) 10) (ix_list (ex_var (d := .lst [.bl b1, .bl b2]) c.toCtx 8 ⟨_, rfl, Bool, [b1, b2], .bl, fun _ => .bl true, rfl, by simp, fun x hx X' b => ?_, [true, true], rfl, _, rfl, rfl⟩))))))
    exact ex_isi (tn := "bool") (b.ctx c.toCtx) (b.bi bi).isinstance (b.bi bi).bool (ex_var (d := .bl x) (b.ctx c.toCtx) 10 ⟨"bool", true, rfl, rfl, rfl⟩)
  refine go_cons (g1_asg c.toCtxD 11 (ex_call c.toCtx W.touched hr (ea_cons (ex_var (d := webO CW n g) c.toCtx 1 (ea_cons (ex_tup (ea_cons (ex_var (d := .int (v : Int)) c.toCtx 6 (ea_cons (ex_var (d := .int (w : Int)) c.toCtx 7 (ea_nil ⟨le2, ea_nil ⟨n, g, (v, w), rfl, hn, hg, ap, ?_⟩⟩)))))))))))
  have tlen : (tchL n g (v, w)).length ≤ n := Nat.le_trans (List.length_filter_le _ _) (by simp)
  refine go_cons (g1_if (tx_not (tx_val (ex_call c.toCtx W.lot hr (ea_cons (ex_var (d := .tup ((tchL n g (v, w)).map natD)) c.toCtx 11 (ea_cons (ex_len c.toCtx bi.len (ex_var (d := webD n g) c.toCtx 2 ⟨n, web_len, ea_nil ⟨tchL n g (v, w), n, rfl, by omega, fun x hx => List.mem_range.mp (List.mem_filter.mp hx).1, (List.pairwise_lt_range (n := n)).sublist List.filter_sublist, true, rfl, fun z => (by cases z), fun _ => go_nil ?_⟩⟩)))))))))
  refine go_cons (g1_ret (ex_orV (k1 := [b1, b2].any id) (k2 := true) (ex_anyB c.toCtx bi.any (ex_var (d := .lst [.bl b1, .bl b2]) c.toCtx 9 ⟨[b1, b2], rfl, rfl⟩)) (fun hb => ex_one (ex_andV (k1 := true) (k2 := true) ?_ (fun _ => ex_one ?_) rfl)) (by rw [Bool.or_true]; exact hp)))
  · have hb1 : b1 = false := by simp at hb; exact hb.1
    have hb2 : b2 = false := by simp at hb; exact hb.2
    have n1 : ¬ Fc n g (v, w) (u, w) := fun h => by rw [show b1 = true from clB_iff.mpr h] at hb1; cases hb1
    have n2 : ¬ Fc n g (v, w) (v, u) := fun h => by rw [show b2 = true from clB_iff.mpr h] at hb2; cases hb2
    refine ex_notInT hr (ex_var (d := .int (u : Int)) c.toCtx 5 (ex_var (d := .tup ((tchL n g (v, w)).map natD)) c.toCtx 11 ⟨_, rfl, (dpt_int _).shp, shp_natT _, ?_⟩))
    have : ((tchL n g (v, w)).map natD).any (fun z => eqd z (.int (u : Int))) = false := by
      refine List.any_eq_false.mpr fun z hz e => ?_
      obtain ⟨i, hi, rfl⟩ := List.mem_map.mp hz
      have ei : i = u := by
        have e' : eqd (.int (i : Int)) (.int (u : Int)) = true := e
        rw [eqd_int] at e'
        have := of_decide_eq_true e'
        omega
      subst ei
      obtain ⟨x, hx, ex⟩ := (mem_tch hg ap).mp hi
      obtain ⟨f1, f2, _⟩ := triangle hg hu hv hw guv guw gvw n1 n2 hx
      rcases ex with ex | ex
      · exact f1 ex
      · exact f2 ex
    rw [this]; rfl
  · have hb1 : b1 = false := by simp at hb; exact hb.1
    have hb2 : b2 = false := by simp at hb; exact hb.2
    have n1 : ¬ Fc n g (v, w) (u, w) := fun h => by rw [show b1 = true from clB_iff.mpr h] at hb1; cases hb1
    have n2 : ¬ Fc n g (v, w) (v, u) := fun h => by rw [show b2 = true from clB_iff.mpr h] at hb2; cases hb2
    obtain ⟨j1, p1, q1, c1, v1⟩ := HK.at hg C (x := (u, v)) ⟨hu, hv, guv⟩
    obtain ⟨j2, p2, q2, c2, v2⟩ := HK.at hg C (x := (v, w)) ap
    refine ex_neD hr (ex_home (q := (u, v)) c.toCtx hr 3 5 6 v1 (ex_home (q := (v, w)) c.toCtx hr 3 6 7 v2 ⟨(dpt_int _).shp, (dpt_int _).shp, ?_⟩))
    rw [eqd_int]
    have : ¬ ((j1 : Int) = (j2 : Int)) := fun e => by
      have e' : j2 = j1 := by omega
      have cc := (C.uniq hg q2 q1 c2 c1).mp e'
      exact (triangle hg hu hv hw guv guw gvw n1 n2 cc).1 rfl
    rw [decide_eq_false this]; rfl
end OB
set_option Elab.async false
set_option linter.all false
set_option maxRecDepth 100000
set_option maxHeartbeats 4000000
namespace OB
open PySem PySem.Spec PyProof.Rows L2
/-! ### the law -/
theorem cls_eq {n : Nat} {g : Nat → Nat → Bool} (hg : Sym g) {p q : Arr} (ap : Ar n g p) (h : Fc n g p q) : clsL n g q = clsL n g p := by
  unfold clsL
  refine List.filter_congr fun x _ => ?_
  refine Bool.eq_iff_iff.mpr ?_
  rw [clB_iff, clB_iff]
  exact ⟨fun c => h.trans c, fun c => (h.rev hg ap).2.trans c⟩
structure Lw10 (P : Program) (w : World) (K : PySem.W.Frag) (mg : PySem.Str → Option Value) (base : Heap) (k : Nat) (CW CB CT : Addr) : Prop where
  bi : Bi mg
  draws : DrF P w K mg base "_law_draws" k
  drawn : FnD P w K mg base "_law_drawn" k (spWeb 4)
  take : FnD P w K mg base "_law_take" k spTake
  con : FnD P w K mg base "_law_contrary" k spContrary
  withAll : FnD P w K mg base "_law_with_all" k spWithAll
  ties : FnD P w K mg base "_law_ties" k spTies
  mkW : MkD P w K mg base "Web" CW k spWebI
  classes : FnD P w K mg base "classes" k (spClasses CW)
  homes : FnD P w K mg base "_law_homes" k spHomes
  oneTri : FnD P w K mg base "_law_one_triangle" k spOneTri
  drawnTri : FnD P w K mg base "_law_drawn_triangle" k (spDrawnTri CW)
  classOf : FnD P w K mg base "class_of" k (spClassOf CW CB CT)
  lcls : FnD P w K mg base "_law_class" k spLawClass
abbrev Nlaw10 : List PySem.Str := ["_law_script", "_law_draws_here", "_law_near_here", "_law_size", "_law_ties_here", "_law_web", "_law_told", "_law_homes_here", "_law_rows", "_law_b", "_law_c", "_law_a", "_law_k", "_law_arrow"]
theorem body_law10 {X : Cx} (c : CtxT X Nlaw10 (defScope (top 70))) {CW CB CT : Addr} {k : Nat} (hr : Room (k + 1) X.A) (F : Lw10 X.prog X.w X.K X.mg X.base k CW CB CT) {B0 H0 : Hp} {a : Addr} {ns : List Int} (hq : SqL X.K H0 a (ns.map V.int)) (hn : ns.length ≤ 63) :
    Go X B0 H0 [.v (.ref a), .un, .un, .un, .un, .un, .un, .un, .un, .un, .un, .un, .un, .un] [] { rt := (· = .bl true) } (defBody (top 70)) := by
  have hk : Room k X.A := hr.mono (by omega)
  have bi := F.bi
  refine go_cons (g1_asg c.toCtxD 1 (ex_draws c.toCtx F.draws hk 0 hq hn ?_))
  refine go_cons (g1_asg c.toCtxD 2 (ex_call c.toCtx F.drawn hk (ea_cons (ex_var c.toCtx 1 (ea_cons (ex_int (ea_nil ⟨7, rfl, by decide, by decide, fun n g h1 h2 hg => ?_⟩)))))))
  let W : Nat → List SD → List (Addr × OV) → Prop := fun hi sds os => os = [] ∧ ∃ n g, 1 ≤ n ∧ n ≤ hi ∧ Sym g ∧ sds = [.v (.ref a), .d .drw, .d (webD n g), .un, .un, .un, .un, .un, .un, .un, .un, .un, .un, .un]
  refine go_cut (W 7) (g1_if (tx_eqI (ex_take c.toCtx F.take hk 1 (ex_int ⟨2, rfl, by decide, fun r _ => ⟨_, rfl, ex_int ⟨_, rfl, fun _ => ?_, fun _ => go_nil ⟨rfl, n, g, h1, h2, hg, rfl⟩⟩⟩⟩)))) ?_
  · exact go_cons (g1_asg c.toCtxD 2 (ex_call c.toCtx F.con hk (ea_cons (ex_var (d := webD n g) c.toCtx 2 (ea_nil ⟨n, g, rfl, by omega, go_nil ⟨rfl, n, conG g, h1, h2, sym_con hg, rfl⟩⟩)))))
  rintro sds os ⟨rfl, n, g, h1, h2, hg, rfl⟩
  refine go_cut (W 8) (g1_if (tx_eqI (ex_take c.toCtx F.take hk 1 (ex_int ⟨3, rfl, by decide, fun r _ => ⟨_, rfl, ex_int ⟨_, rfl, fun _ => ?_, fun _ => go_nil ⟨rfl, n, g, h1, by omega, hg, rfl⟩⟩⟩⟩)))) ?_
  · exact go_cons (g1_asg c.toCtxD 2 (ex_call c.toCtx F.withAll hk (ea_cons (ex_var (d := webD n g) c.toCtx 2 (ea_nil ⟨n, g, rfl, by omega, fun g' hg' => go_nil ⟨rfl, n + 1, g', by omega, by omega, hg', rfl⟩⟩)))))
  clear h1 h2 hg
  rintro sds os ⟨rfl, n, g, h1, h2, hg, rfl⟩
  have ht := ties_len n g
  have hnn : n * n ≤ 8 * 8 := Nat.mul_le_mul h2 h2
  refine go_cons (g1_asg c.toCtxD 3 (ex_len c.toCtx bi.len (ex_var c.toCtx 2 ⟨n, web_len, ?_⟩)))
  refine go_cons (g1_asg c.toCtxD 4 (ex_call c.toCtx F.ties hk (ea_cons (ex_var c.toCtx 2 (ea_nil ⟨n, g, rfl, by omega, ?_⟩)))))
  refine go_cons (g1_asg c.toCtxD 5 (ex_make c.toCtx F.mkW hr (ea_cons (ex_var (d := .int (n : Int)) c.toCtx 3 (ea_cons (ex_var (d := .lst ((tiesOf n g).map prn)) c.toCtx 4 (ea_nil ⟨n, g, rfl, h1, by omega, hg, ?_⟩)))))))
  refine go_cons (g1_asg c.toCtxD 6 (ex_call c.toCtx F.classes hk (ea_cons (ex_var (d := webO CW n g) c.toCtx 5 (ea_nil ⟨n, g, rfl, by omega, hg, fun T C => ?_⟩)))))
  refine go_cons (g1_asg c.toCtxD 7 (ex_call c.toCtx F.homes hk (ea_cons (ex_var (d := .tup (T.map (clsD n g))) c.toCtx 6 (ea_cons (ex_var (d := webD n g) c.toCtx 2 (ea_nil ⟨n, g, T, rfl, by omega, hg, C, fun m HK => ?_⟩)))))))
  refine go_cons (g1_if (tx_isN (ex_var (d := .dct m) c.toCtx 7 ⟨fun z => (by cases z), fun _ => go_nil ?_⟩)))
  refine go_cons (g1_asgO c.toCtxD 8 (el_lst (ea_nil ⟨le0, fun pr' => ?_⟩)))
  show Go X B0 H0 [.v (.ref a), .d .drw, .d (webD n g), .d (.int (n : Int)), .d (.lst ((tiesOf n g).map prn)), .d (webO CW n g), .d (.tup (T.map (clsD n g))), .d (.dct m), .v (.ref pr'), .un, .un, .un, .un, .un] [(pr', .lst [])] _ _
  have hl : ∀ p ∈ tiesOf n g ++ (tiesOf n g).map flipA, Ar n g p := fun p hp => (both_mem hg).mp hp
  have hll : (tiesOf n g ++ (tiesOf n g).map flipA).length ≤ 128 := by rw [List.length_append, List.length_map]; omega
  let St : List (Nat × Nat × Nat) → SD → SD → SD → List SD → List (Addr × OV) → Prop := fun L x9 x10 x11 sds os => sds = [.v (.ref a), .d .drw, .d (webD n g), .d (.int (n : Int)), .d (.lst ((tiesOf n g).map prn)), .d (webO CW n g), .d (.tup (T.map (clsD n g))), .d (.dct m), .v (.ref pr'), x9, x10, x11, .un, .un] ∧ os = [(pr', .lst (L.map tri))]
  let I : LoopI := fun i sds os => ∃ (L : List (Nat × Nat × Nat)) (x9 x10 x11 : SD), St L x9 x10 x11 sds os ∧ (∀ t ∈ L, TriOk n g t) ∧ L.length ≤ i * n
  refine go_cut (I (tiesOf n g ++ (tiesOf n g).map flipA).length) (g1_for (t := .tp [9, 10]) c.own c.calm (tg_tp c.toCtxD (tgs_cons c.toCtxD 9 (tgs_cons c.toCtxD 10 tgs_nil))) (ix_list (ex_ofL (el_cat (ex_var (d := .lst ((tiesOf n g).map prn)) c.toCtx 4 ⟨_, rfl, ex_ofL (el_lc0 c.toCtx [("_law_b", 9), ("_law_c", 10)] (.tp [9, 10]) (fun X' b => tb_tp (b.ctx c.toCtx) (tbs_cons (b.ctx c.toCtx) 9 (tbs_cons (b.ctx c.toCtx) 10 tgs_nil))) (ix_list (ex_var (d := .lst ((tiesOf n g).map prn)) c.toCtx 4 ⟨_, rfl, ?_⟩)))⟩))))) ?_
  · refine ⟨Arr, tiesOf n g, prn, fun q => prn (flipA q), rfl, by omega, fun q _ => ⟨_, rfl, rfl, fun X' b => ex_tup (ea_cons (ex_var (b.ctx c.toCtx) 10 (ea_cons (ex_var (b.ctx c.toCtx) 9 (ea_nil ⟨le2, rfl⟩)))))⟩, _, rfl, by rw [List.length_map, List.length_map]; omega, _, rfl, ?_⟩
    have e : (tiesOf n g).map prn ++ (tiesOf n g).map (fun q => prn (flipA q)) = (tiesOf n g ++ (tiesOf n g).map flipA).map prn := by rw [List.map_append, List.map_map]; rfl
    rw [e]
    refine forOk_map I ⟨[], _, _, _, ⟨rfl, rfl⟩, fun t ht => (nomatch ht), Nat.zero_le _⟩ ?_ fun _ _ h => h
    rintro i ⟨v, w⟩ sds os hi ⟨L, x9, x10, x11, ⟨rfl, rfl⟩, hL, lL⟩
    have hil := (List.getElem?_eq_some_iff.mp hi).1
    have avw := hl _ (List.mem_of_getElem? hi)
    obtain ⟨hv, hw, gvw⟩ := avw
    have hv : v < n := hv
    have hw : w < n := hw
    have gvw : g v w = true := gvw
    refine ⟨_, rfl, rfl, ?_⟩
    let J : LoopI := fun j sds os => ∃ (L : List (Nat × Nat × Nat)) (x11 : SD), St L (.d (.int (v : Int))) (.d (.int (w : Int))) x11 sds os ∧ (∀ t ∈ L, TriOk n g t) ∧ L.length ≤ i * n + j
    refine go_cons (g1_for (t := .nm 11) c.own c.calm (tg_nm c.toCtxD 11) (ix_range1 c.toCtx bi.range (ex_var (d := .int (n : Int)) c.toCtx 3 ⟨(n : Int), rfl, by omega, by omega, ?_⟩)))
    rw [rng0]
    refine forOk_rng J ⟨L, x11, ⟨rfl, rfl⟩, hL, lL⟩ ?_ ?_
    · rintro u sds os hu ⟨L, y11, ⟨rfl, rfl⟩, hL, lL⟩
      have hin : i * n ≤ 128 * 8 := Nat.mul_le_mul (by omega) h2
      refine go_cons (g1_if (tx_w (tx_and (tx_eqI (ex_ix (ex_ix (ex_var (d := webD n g) c.toCtx 2 (ex_var (d := .int (u : Int)) c.toCtx 11 ⟨_, rfl, ixW hu (ex_var (d := .int (v : Int)) c.toCtx 9 ⟨_, rfl, ixR hv ⟨_, rfl, ex_int ⟨_, rfl, ?_⟩⟩⟩)⟩))))))))
      rw [bit_eq1]
      refine ⟨fun guv => tx_and1 (tx_eqI (ex_ix (ex_ix (ex_var (d := webD n g) c.toCtx 2 (ex_var (d := .int (u : Int)) c.toCtx 11 ⟨_, rfl, ixW hu (ex_var (d := .int (w : Int)) c.toCtx 10 ⟨_, rfl, ixR hw ⟨_, rfl, ex_int ⟨_, rfl, ?_⟩⟩⟩)⟩))))), fun _ => ⟨fun z => (by cases z), fun _ => go_nil (go_nil ⟨L, _, ⟨rfl, rfl⟩, hL, by omega⟩)⟩⟩
      rw [bit_eq1]
      refine ⟨fun guw => ?_, fun _ => go_nil (go_nil ⟨L, _, ⟨rfl, rfl⟩, hL, by omega⟩)⟩
      refine go_cons (g1_append (l := L.map tri) (p := pr') c.toCtx 8 0 (ex_tup (ea_cons (ex_var (d := .int (u : Int)) c.toCtx 11 (ea_cons (ex_var (d := .int (v : Int)) c.toCtx 9 (ea_cons (ex_var (d := .int (w : Int)) c.toCtx 10 (ea_nil ⟨le3, by rw [List.length_map]; omega, ?_⟩)))))))))
      refine go_cons (g1_if (tx_not (tx_val (ex_call c.toCtx F.oneTri hk (ea_cons (ex_var (d := webD n g) c.toCtx 2 (ea_cons (ex_var (d := .tup (T.map (clsD n g))) c.toCtx 6 (ea_cons (ex_var (d := .dct m) c.toCtx 7 (ea_cons (ex_var (d := .int (u : Int)) c.toCtx 11 (ea_cons (ex_var (d := .int (v : Int)) c.toCtx 9 (ea_cons (ex_var (d := .int (w : Int)) c.toCtx 10 (ea_nil ⟨n, g, T, m, u, v, w, rfl, by omega, hg, C, HK, hu, hv, hw, guv, guw, gvw, true, rfl, fun z => (by cases z), fun _ => go_nil (go_nil (go_nil ⟨L ++ [(u, v, w)], _, ⟨rfl, by rw [List.map_append]; rfl⟩, fun t ht' => ?_, by rw [List.length_append]; simp; omega⟩))⟩)))))))))))))))))
      rcases List.mem_append.mp ht' with h | h
      · exact hL t h
      · have : t = (u, v, w) := by simpa using h
        rw [this]; exact ⟨hu, hv, hw, guv, guw, gvw⟩
    · rintro sds os ⟨L, y11, ⟨rfl, rfl⟩, hL, lL⟩
      exact go_nil ⟨L, _, _, _, ⟨rfl, rfl⟩, hL, by rw [Nat.succ_mul]; exact lL⟩
  rintro sds os ⟨L, x9, x10, x11, ⟨rfl, rfl⟩, hL, lL⟩
  refine go_freeze 8 0 ?_
  let M : List SD → List (Addr × OV) → Prop := fun sds os => os = [] ∧ ∃ x12 x13 : SD, sds = [.v (.ref a), .d .drw, .d (webD n g), .d (.int (n : Int)), .d (.lst ((tiesOf n g).map prn)), .d (webO CW n g), .d (.tup (T.map (clsD n g))), .d (.dct m), .d (.lst (L.map tri)), x9, x10, x11, x12, x13]
  refine go_cut M (g1_for (t := .nm 12) c.own c.calm (tg_nm c.toCtxD 12) (ix_range1 c.toCtx bi.range (ex_int ⟨3, rfl, by decide, by decide, (fun _ => M), ⟨rfl, _, _, rfl⟩, ?_, fun _ _ h => h⟩))) ?_
  · rintro i u sds os hu ⟨rfl, x12, x13, rfl⟩
    refine go_cons (g1_if (tx_w (wx_and (k1 := decide (0 < L.length)) (k2 := false) ?_ (fun hz => tx_and1 ?_) ⟨fun z => (by rw [Bool.and_false] at z; cases z), fun _ => go_nil ?_⟩)))
    · refine tx_gtI (ex_len c.toCtx bi.len (ex_var (d := .lst (L.map tri)) c.toCtx 8 ⟨_, lenL, _, rfl, ex_int ⟨0, rfl, ?_⟩⟩))
      rw [List.length_map]
      exact decide_eq_decide.mpr (by omega)
    · have pL : 0 < L.length := of_decide_eq_true hz
      exact tx_not (tx_val (ex_call c.toCtx F.drawnTri hk (ea_cons (ex_var (d := .drw) c.toCtx 1 (ea_cons (ex_var (d := webO CW n g) c.toCtx 5 (ea_cons (ex_var (d := webD n g) c.toCtx 2 (ea_cons (ex_var (d := .dct m) c.toCtx 7 (ea_cons (ex_var (d := .lst (L.map tri)) c.toCtx 8 (ea_nil ⟨n, g, T, m, L, rfl, h2, hg, C, HK, pL, hL, _, rfl, rfl⟩)))))))))))))
    refine go_cons (g1_if (tx_gtI (ex_len c.toCtx bi.len (ex_var (d := .lst ((tiesOf n g).map prn)) c.toCtx 4 ⟨_, lenL, _, rfl, ex_int ⟨0, rfl, fun hc => ?_, fun _ => go_nil (go_nil ⟨rfl, _, _, rfl⟩)⟩⟩))))
    rw [List.length_map] at hc
    have pT : 0 < (tiesOf n g).length := by simpa using hc
    refine go_cons (g1_asg c.toCtxD 13 (ex_ix (ex_var (d := .lst ((tiesOf n g).map prn)) c.toCtx 4 (ex_take c.toCtx F.take hk 1 (ex_len c.toCtx bi.len (ex_var (d := .lst ((tiesOf n g).map prn)) c.toCtx 4 ⟨_, lenL, (tiesOf n g).length, by rw [List.length_map], pT, fun r hr' => ⟨_, rfl, ?_⟩⟩))))))
    obtain ⟨q, hq'⟩ : ∃ q, (tiesOf n g)[r]? = some q := ⟨_, List.getElem?_eq_getElem hr'⟩
    have aq : Ar n g q := hl q (List.mem_append_left _ (List.mem_of_getElem? hq'))
    refine ixL (x := prn q) r (get_mapC hq') ?_
    have ne : q.1 ≠ q.2 := fun e => by
      have := aq.2.2
      rw [e, hg.2] at this; cases this
    have eq' : pairOf n (prn q) = some ((q.1 : Int), (q.2 : Int)) := pairOf_prn ⟨aq.1, aq.2.1, ne⟩
    have cof : ∀ (P : D → Prop) (R : Addr → List (PySem.Str × D) → Prop), P (.tup ((clsL n g q).map prn)) → spClassOf CW CB CT [webO CW n g, prn q] P R := fun P R hp => ⟨n, g, prn q, rfl, by omega, hg, okP_prn q, fun z => (by rw [eq'] at z; cases z), fun x y e => by
      rw [eq'] at e
      obtain ⟨rfl, rfl⟩ := int_pair e
      exact ⟨fun _ _ _ => hp, fun z => (by rw [aq.2.2] at z; cases z)⟩⟩
    obtain ⟨j, p, hj, cpq, hv⟩ := HK.at hg C aq
    have ap := C.ar p (List.mem_of_getElem? hj)
    refine go_cons (g1_if (tx_w (wx_or (k1 := false) (k2 := false) ?_ (fun _ => tx_or1 ?_) ⟨fun z => (by cases z), fun _ => go_nil (go_nil (go_nil ⟨rfl, _, _, rfl⟩))⟩)))
    · refine tx_neD hk (ex_ofL (el_listOf c.toCtx bi.list (ex_call c.toCtx F.classOf hk (ea_cons (ex_var (d := webO CW n g) c.toCtx 5 (ea_cons (ex_var (d := prn q) c.toCtx 13 (ea_nil (cof _ _ ⟨_, .inr rfl, ex_call c.toCtx F.lcls hk (ea_cons (ex_var (d := webD n g) c.toCtx 2 (ea_cons (ex_var (d := prn q) c.toCtx 13 (ea_nil ⟨n, g, q, rfl, by omega, hg, aq, shp_prns _, shp_prns _, ?_⟩)))))⟩)))))))))
      rw [eqd_refl (shp_prns _)]; rfl
    · refine tx_neD hk (ex_call c.toCtx F.classOf hk (ea_cons (ex_var (d := webO CW n g) c.toCtx 5 (ea_cons (ex_var (d := prn q) c.toCtx 13 (ea_nil (cof _ _ (ex_ix (ex_var (d := .tup (T.map (clsD n g))) c.toCtx 6 (ex_dgetD hk (ex_var (d := .dct m) c.toCtx 7 (ex_var (d := prn q) c.toCtx 13 ⟨keyA q, m, _, rfl, rfl, hv, _, rfl, ixT (x := clsD n g p) j (get_mapC hj) ⟨shp_prnsT _, shp_prnsT _, ?_⟩⟩))))))))))))
      rw [cls_eq hg ap cpq]
      have sh : shp (clsD n g p) = true := shp_prnsT _
      show (!eqd (clsD n g p) (clsD n g p)) = false
      rw [eqd_refl sh]; rfl
  · rintro sds os ⟨rfl, x12, x13, rfl⟩
    exact go_cons (g1_ret (ex_bl rfl))
end OB
set_option Elab.async false
set_option linter.all false
set_option maxRecDepth 100000
set_option maxHeartbeats 4000000
namespace OB
open PySem PySem.Spec PyProof.Rows L2
/-! ### colours, what they touch -/
def nrN (x : Arr) : Arr := if x.2 < x.1 then (x.2, x.1) else x
theorem cls_len {n : Nat} {g : Nat → Nat → Bool} {p : Arr} (hg : Sym g) (ap : Ar n g p) : (clsL n g p).length + 1 ≤ n * n := by
  have h := arr_len (n := n) (g := fun a b => g a b || (decide (a = 0) && decide (b = 0))) (l := (0, 0) :: clsL n g p) (List.nodup_cons.mpr ⟨fun z => ?_, cls_nodup n g p⟩) fun x hx => ?_
  · exact h
  · have := (((mem_cls hg ap).mp z).rev hg ap).1.2.2
    have e : g 0 0 = true := this
    rw [hg.2] at e; cases e
  · rcases List.mem_cons.mp hx with e | hx
    · subst e
      have h0 : 0 < n := by have := ap.1; omega
      exact ⟨h0, h0, by simp⟩
    · have := (((mem_cls hg ap).mp hx).rev hg ap).1
      exact ⟨this.1, this.2.1, by show (g x.1 x.2 || _) = true; rw [this.2.2, Bool.true_or]⟩
theorem le_uniqN : ∀ {l m : List Nat}, l.Pairwise (· < ·) → m.Pairwise (· < ·) → l.Perm m → l = m
  | [], m, _, _, p => (List.nil_perm.mp p).symm
  | a :: l, [], _, _, p => absurd p.symm (by simp)
  | a :: l, b :: m, h1, h2, p => by
    have hab : a = b := by
      have q1 : a ∈ b :: m := p.mem_iff.mp (by simp)
      have q2 : b ∈ a :: l := p.mem_iff.mpr (by simp)
      rcases List.mem_cons.mp q1 with z | z
      · exact z
      · rcases List.mem_cons.mp q2 with y | y
        · exact y.symm
        · have := (List.pairwise_cons.mp h1).1 b y
          have := (List.pairwise_cons.mp h2).1 a z
          omega
    subst hab
    rw [le_uniqN (List.pairwise_cons.mp h1).2 (List.pairwise_cons.mp h2).2 ((List.perm_cons a).mp p)]
def spTiesA : SpD := fun ds P _ => ∃ A : List Arr, ds = [.tup (A.map prn)] ∧ A.length < 64 ∧ (∀ x ∈ A, x.1 < 63 ∧ x.2 < 63) ∧ ∀ m : List Arr, m.Pairwise ltP → (∀ q, q ∈ m ↔ ∃ x ∈ A, nrN x = q) → P (.tup (m.map prn))
theorem body_ties_a {X : Cx} (c : CtxT X ["arrows", "arrow"] (defScope (top 32))) (bi : Bi X.mg) {k : Nat} (hr : Room k X.A) : BodyOk X ["arrows", "arrow"] spTiesA (defBody (top 32)) := by
  intro ds P R h B0 H0 air
  obtain ⟨A, rfl, hl, hA, hp⟩ := h
  refine go_cons (g1_ret (ex_tupleOf c.toCtx bi.tuple (ex_ofL (el_sortSC c.toCtx hr [("arrow", 1)] (.nm 1) (fun X' b => tb_nm (b.ctx c.toCtx) 1) bi.sorted (ix_tup (ex_var (d := .tup (A.map prn)) c.toCtx 0 ⟨_, rfl, Arr, A, prn, nrN, rfl, hl, fun x hx => ?_, fun x hx X' b => ?_, fun m ms mm => ⟨_, .inl rfl, hp m ms mm⟩⟩))))))
  · have := hA x hx
    unfold nrN
    split
    · exact ⟨by show x.2 < 64; omega, by show x.1 < 64; omega⟩
    · omega
  · have c' := b.ctx c.toCtx
    refine ex_tup (ea_cons (ex_min1 c' (b.room hr) (b.bi bi).min (ex_var (d := prn x) c' 1 ⟨(x.1 : Int), (x.2 : Int), rfl, ea_cons (ex_max1 c' (b.room hr) (b.bi bi).max (ex_var (d := prn x) c' 1 ⟨(x.1 : Int), (x.2 : Int), rfl, ea_nil ⟨le2, ?_⟩⟩))⟩)))
    unfold nrN prP
    by_cases h : x.2 < x.1
    · have h1 : (x.2 : Int) < (x.1 : Int) := by omega
      have h2 : ¬ ((x.1 : Int) < (x.2 : Int)) := by omega
      rw [if_pos h, if_pos h1, if_neg h2]
    · have h1 : ¬ ((x.2 : Int) < (x.1 : Int)) := by omega
      by_cases h2 : (x.1 : Int) < (x.2 : Int)
      · rw [if_neg h, if_neg h1, if_pos h2]
      · have e : x.1 = x.2 := by omega
        rw [if_neg h, if_neg h1, if_neg h2, e]
def spEnds : SpD := fun ds P _ => ∃ A : List Arr, ds = [.tup (A.map prn)] ∧ (∀ x ∈ A, x.1 < 63 ∧ x.2 < 63) ∧ ∀ u : List Nat, u.Pairwise (· < ·) → (∀ v, v ∈ u ↔ ∃ x ∈ A, x.1 = v ∨ x.2 = v) → P (.tup (u.map natD))
theorem body_ends {X : Cx} (c : CtxT X ["ties", "tie", "thing"] (defScope (top 33))) (bi : Bi X.mg) : BodyOk X ["ties", "tie", "thing"] spEnds (defBody (top 33)) := by
  intro ds P R h B0 H0 air
  obtain ⟨A, rfl, hA, hp⟩ := h
  refine go_cons (g1_ret (ex_tupleOf c.toCtx bi.tuple (ex_ofL (el_sortSC2 c.toCtx [("tie", 1), ("thing", 2)] [2] (.nm 1) (.nm 2) (fun X' b => tb_nm (b.ctx c.toCtx) 1) (fun X' b => tb_nm (b.ctx c.toCtx) 2) bi.sorted (ix_tup (ex_var (d := .tup (A.map prn)) c.toCtx 0 ⟨_, rfl, Arr, Nat, A, prn, fun x => [x.1, x.2], natD, fun _ y => y, rfl, fun x hx y hy => ?_, fun x hx X' b => ?_, fun m ms mm => ⟨_, .inl rfl, hp m ms fun v => ?_⟩⟩))))))
  · have := hA x hx
    simp only [List.mem_cons, List.not_mem_nil, or_false] at hy
    rcases hy with e | e <;> subst e
    · exact this.1
    · exact this.2
  · exact ix_tup (ex_var (d := prn x) (b.ctx c.toCtx) 1 ⟨_, rfl, rfl, fun y hy X2 b2 => ex_var (d := natD y) (b2.ctx c.toCtx) 2 rfl⟩)
  · rw [mm]
    constructor
    · rintro ⟨x, hx, y, hy, e⟩
      subst e
      simp only [List.mem_cons, List.not_mem_nil, or_false] at hy
      exact ⟨x, hx, hy.imp Eq.symm Eq.symm⟩
    · rintro ⟨x, hx, e⟩
      exact ⟨x, hx, v, by simp only [List.mem_cons, List.not_mem_nil, or_false]; exact e.imp Eq.symm Eq.symm, rfl⟩
def spColour (CW : Addr) : SpD := fun ds P _ => ∃ (n : Nat) (g : Nat → Nat → Bool) (p : Arr), ds = [webO CW n g, prn p] ∧ n ≤ 8 ∧ Sym g ∧ Ar n g p ∧ ∀ m : List Arr, (∀ q, q ∈ m ↔ ∃ x ∈ clsL n g p, nrN x = q) → P (.tup (m.map prn))
theorem body_colour {X : Cx} (c : CtxT X ["web", "tie"] (defScope (top 37))) {CW CB CT : Addr} {k : Nat} (hr : Room k X.A) (fCls : FnD X.prog X.w X.K X.mg X.base "class_of" k (spClassOf CW CB CT)) (fTies : FnD X.prog X.w X.K X.mg X.base "ties_of_arrows" k spTiesA) : BodyOk X ["web", "tie"] (spColour CW) (defBody (top 37)) := by
  intro ds P R h B0 H0 air
  obtain ⟨n, g, p, rfl, hn, hg, ap, hp⟩ := h
  have ne : p.1 ≠ p.2 := fun e => by
    have := ap.2.2
    rw [e, hg.2] at this; cases this
  have ep : pairOf n (prn p) = some ((p.1 : Int), (p.2 : Int)) := pairOf_prn ⟨ap.1, ap.2.1, ne⟩
  have nn : n * n ≤ 8 * 8 := Nat.mul_le_mul hn hn
  have cl := cls_len hg ap
  refine go_cons (g1_ret (ex_call c.toCtx fTies hr (ea_cons (ex_call c.toCtx fCls hr (ea_cons (ex_var (d := webO CW n g) c.toCtx 0 (ea_cons (ex_var (d := prn p) c.toCtx 1 (ea_nil ⟨n, g, prn p, rfl, by omega, hg, okP_prn p, fun z => (by rw [ep] at z; cases z), fun x y e => ?_⟩)))))))))
  rw [ep] at e
  obtain ⟨rfl, rfl⟩ := int_pair e
  refine ⟨fun _ _ _ => ea_nil ⟨clsL n g p, rfl, by omega, fun x hx => ?_, fun m _ mm => hp m mm⟩, fun z => (by rw [ap.2.2] at z; cases z)⟩
  have := (((mem_cls hg ap).mp hx).rev hg ap).1
  exact ⟨by have := this.1; omega, by have := this.2.1; omega⟩
theorem body_touched {X : Cx} (c : CtxT X ["web", "tie"] (defScope (top 38))) {CW : Addr} {k : Nat} (hr : Room k X.A) (fCol : FnD X.prog X.w X.K X.mg X.base "colour_of" k (spColour CW)) (fEnds : FnD X.prog X.w X.K X.mg X.base "ends_of" k spEnds) : BodyOk X ["web", "tie"] (spTouched CW) (defBody (top 38)) := by
  intro ds P R h B0 H0 air
  obtain ⟨n, g, p, rfl, hn, hg, ap, hp⟩ := h
  refine go_cons (g1_ret (ex_call c.toCtx fEnds hr (ea_cons (ex_call c.toCtx fCol hr (ea_cons (ex_var (d := webO CW n g) c.toCtx 0 (ea_cons (ex_var (d := prn p) c.toCtx 1 (ea_nil ⟨n, g, p, rfl, hn, hg, ap, fun m mm => ea_nil ⟨m, rfl, fun q hq => ?_, fun u us um => ?_⟩⟩)))))))))
  · obtain ⟨x, hx, rfl⟩ := (mm q).mp hq
    have := (((mem_cls hg ap).mp hx).rev hg ap).1
    have h1 := this.1
    have h2 := this.2.1
    unfold nrN
    split
    · exact ⟨by show x.2 < 63; omega, by show x.1 < 63; omega⟩
    · omega
  · have e : u = tchL n g p := by
      have s1 : (tchL n g p).Pairwise (· < ·) := (List.pairwise_lt_range (n := n)).sublist List.filter_sublist
      have pm : u.Perm (tchL n g p) := (List.perm_ext_iff_of_nodup (us.imp fun h => by omega) (s1.imp fun h => by omega)).mpr fun v => by
        rw [um, mem_tch hg ap]
        constructor
        · rintro ⟨q, hq, e⟩
          obtain ⟨x, hx, rfl⟩ := (mm q).mp hq
          refine ⟨x, (mem_cls hg ap).mp hx, ?_⟩
          unfold nrN at e
          split at e
          · exact e.symm
          · exact e
        · rintro ⟨x, hx, e⟩
          refine ⟨nrN x, (mm _).mpr ⟨x, (mem_cls hg ap).mpr hx, rfl⟩, ?_⟩
          unfold nrN
          split
          · exact e.symm
          · exact e
      have e2 := le_uniqN us s1 pm
      exact e2
    rw [e]; exact hp
end OB
set_option Elab.async false
set_option linter.all false
set_option maxRecDepth 100000
set_option maxHeartbeats 4000000
namespace OB
open PySem PySem.Spec PyProof.Rows L2
abbrev FnP (K : PySem.W.Frag) (x : PySem.Str) (st : Stmt) (f : Addr) (fd : FuncData) : Prop := FunD K x x (defArgs st) (defBody st) (defScope st) [] [] f fd
section
variable {P : Program} {w : World} {K : PySem.W.Frag} {mg : PySem.Str → Option Value} {base : Heap} {f : Addr} {fd : FuncData}
variable {CW CB CT CE : Addr}
theorem mk_near  {k : Nat} (Fd : FnP K "_law_near" (top 50) f fd) (hm : mg "_law_near" = some (.ref f)) (fBlank : FnM P w K mg base "_law_blank" k spBlank) : FnD P w K mg base "_law_near" (k + 1) spNear :=
  fn3 (k := k + 0) (N := N43) (ps := (N43 : List PySem.Str).take 2) Fd hm (Fd.bindsN fun _ _ _ _ _ _ us hl => match us, hl with | [_, _], _ => rfl) ⟨rfl, rfl, rfl, by decide +kernel, rfl, by decide +kernel, by decide +kernel⟩ (fun ds P R h => by
    unfold spNear at h
    repeat (first | (obtain ⟨e, _⟩ := h; subst e; rfl) | (obtain ⟨_, h⟩ := h)))
    (fun X e1 e2 e3 e4 e5 hr c => by subst e1 e2 e3 e4 e5; exact body_near c hr fBlank)
theorem mk_ties  (Fd : FnP K "_law_ties" (top 51) f fd) (hm : mg "_law_ties" = some (.ref f)) (bi : Bi mg) : FnD P w K mg base "_law_ties" (1) spTies :=
  fn3 (k := 0) (N := N44) (ps := (N44 : List PySem.Str).take 1) Fd hm (Fd.bindsN fun _ _ _ _ _ _ us hl => match us, hl with | [_], _ => rfl) ⟨rfl, rfl, rfl, by decide +kernel, rfl, by decide +kernel, by decide +kernel⟩ (fun ds P R h => by
    unfold spTies at h
    repeat (first | (obtain ⟨e, _⟩ := h; subst e; rfl) | (obtain ⟨_, h⟩ := h)))
    (fun X e1 e2 e3 e4 e5 hr c => by subst e1 e2 e3 e4 e5; exact body_ties c bi)
theorem mk_contrary  {k : Nat} (Fd : FnP K "_law_contrary" (top 52) f fd) (hm : mg "_law_contrary" = some (.ref f)) (bi : Bi mg) (fBlank : FnM P w K mg base "_law_blank" k spBlank) : FnD P w K mg base "_law_contrary" (k + 1) spContrary :=
  fn3 (k := k + 0) (N := N45) (ps := (N45 : List PySem.Str).take 1) Fd hm (Fd.bindsN fun _ _ _ _ _ _ us hl => match us, hl with | [_], _ => rfl) ⟨rfl, rfl, rfl, by decide +kernel, rfl, by decide +kernel, by decide +kernel⟩ (fun ds P R h => by
    unfold spContrary at h
    repeat (first | (obtain ⟨e, _⟩ := h; subst e; rfl) | (obtain ⟨_, h⟩ := h)))
    (fun X e1 e2 e3 e4 e5 hr c => by subst e1 e2 e3 e4 e5; exact body_contrary c bi hr fBlank)
theorem mk_renamed  {k : Nat} (Fd : FnP K "_law_renamed" (top 53) f fd) (hm : mg "_law_renamed" = some (.ref f)) (bi : Bi mg) (fBlank : FnM P w K mg base "_law_blank" k spBlank) : FnD P w K mg base "_law_renamed" (k + 1) spRenamed :=
  fn3 (k := k + 0) (N := N46) (ps := (N46 : List PySem.Str).take 2) Fd hm (Fd.bindsN fun _ _ _ _ _ _ us hl => match us, hl with | [_, _], _ => rfl) ⟨rfl, rfl, rfl, by decide +kernel, rfl, by decide +kernel, by decide +kernel⟩ (fun ds P R h => by
    unfold spRenamed at h
    repeat (first | (obtain ⟨e, _⟩ := h; subst e; rfl) | (obtain ⟨_, h⟩ := h)))
    (fun X e1 e2 e3 e4 e5 hr c => by subst e1 e2 e3 e4 e5; exact body_renamed c bi hr fBlank)
theorem mk_graft  {k : Nat} (Fd : FnP K "_law_graft" (top 54) f fd) (hm : mg "_law_graft" = some (.ref f)) (bi : Bi mg) (fBlank : FnM P w K mg base "_law_blank" k spBlank) : FnD P w K mg base "_law_graft" (k + 1) spGraft :=
  fn3 (k := k + 0) (N := N47) (ps := (N47 : List PySem.Str).take 3) Fd hm (Fd.bindsN fun _ _ _ _ _ _ us hl => match us, hl with | [_, _, _], _ => rfl) ⟨rfl, rfl, rfl, by decide +kernel, rfl, by decide +kernel, by decide +kernel⟩ (fun ds P R h => by
    unfold spGraft at h
    repeat (first | (obtain ⟨e, _⟩ := h; subst e; rfl) | (obtain ⟨_, h⟩ := h)))
    (fun X e1 e2 e3 e4 e5 hr c => by subst e1 e2 e3 e4 e5; exact body_graft c bi hr fBlank)
theorem mk_path  {k : Nat} (Fd : FnP K "_law_path" (top 55) f fd) (hm : mg "_law_path" = some (.ref f)) (bi : Bi mg) (fNear : FnD P w K mg base "_law_near" k spNear) : FnD P w K mg base "_law_path" (k + 1) (spPath 1) :=
  fn3 (k := k + 0) (N := N48) (ps := (N48 : List PySem.Str).take 1) Fd hm (Fd.bindsN fun _ _ _ _ _ _ us hl => match us, hl with | [_], _ => rfl) ⟨rfl, rfl, rfl, by decide +kernel, rfl, by decide +kernel, by decide +kernel⟩ (fun ds P R h => by
    unfold spPath at h
    repeat (first | (obtain ⟨e, _⟩ := h; subst e; rfl) | (obtain ⟨_, h⟩ := h)))
    (fun X e1 e2 e3 e4 e5 hr c => by subst e1 e2 e3 e4 e5; exact body_path c bi hr fNear)
theorem mk_round  {k : Nat} (Fd : FnP K "_law_round" (top 56) f fd) (hm : mg "_law_round" = some (.ref f)) (bi : Bi mg) (fNear : FnD P w K mg base "_law_near" k spNear) : FnD P w K mg base "_law_round" (k + 1) (spPath 2) :=
  fn3 (k := k + 0) (N := N48) (ps := (N48 : List PySem.Str).take 1) Fd hm (Fd.bindsN fun _ _ _ _ _ _ us hl => match us, hl with | [_], _ => rfl) ⟨rfl, rfl, rfl, by decide +kernel, rfl, by decide +kernel, by decide +kernel⟩ (fun ds P R h => by
    unfold spPath at h
    repeat (first | (obtain ⟨e, _⟩ := h; subst e; rfl) | (obtain ⟨_, h⟩ := h)))
    (fun X e1 e2 e3 e4 e5 hr c => by subst e1 e2 e3 e4 e5; exact body_round c bi hr fNear)
theorem mk_any  {k : Nat} (Fd : FnP K "_law_any_ties" (top 58) f fd) (hm : mg "_law_any_ties" = some (.ref f)) (W : Ws P w K mg base k) : FnD P w K mg base "_law_any_ties" (k + 1) spAny :=
  fn3 (k := k + 0) (N := N53) (ps := (N53 : List PySem.Str).take 2) Fd hm (Fd.bindsN fun _ _ _ _ _ _ us hl => match us, hl with | [_, _], _ => rfl) ⟨rfl, rfl, rfl, by decide +kernel, rfl, by decide +kernel, by decide +kernel⟩ (fun ds P R h => by
    unfold spAny at h
    repeat (first | (obtain ⟨e, _⟩ := h; subst e; rfl) | (obtain ⟨_, h⟩ := h)))
    (fun X e1 e2 e3 e4 e5 hr c => by subst e1 e2 e3 e4 e5; exact body_any c hr W)
theorem mk_row  {k : Nat} (Fd : FnP K "_law_row" (top 48) f fd) (hm : mg "_law_row" = some (.ref f)) (bi : Bi mg) (fTake : FnD P w K mg base "_law_take" k spTake) : FnD P w K mg base "_law_row" (k + 1) spRow :=
  fn3 (k := k + 0) (N := N41) (ps := (N41 : List PySem.Str).take 2) Fd hm (Fd.bindsN fun _ _ _ _ _ _ us hl => match us, hl with | [_, _], _ => rfl) ⟨rfl, rfl, rfl, by decide +kernel, rfl, by decide +kernel, by decide +kernel⟩ (fun ds P R h => by
    unfold spRow at h
    repeat (first | (obtain ⟨e, _⟩ := h; subst e; rfl) | (obtain ⟨_, h⟩ := h)))
    (fun X e1 e2 e3 e4 e5 hr c => by subst e1 e2 e3 e4 e5; exact body_row c hr bi fTake)
theorem mk_agree  {k : Nat} (Fd : FnP K "_law_agree" (top 57) f fd) (hm : mg "_law_agree" = some (.ref f)) (W : Ws P w K mg base k) : FnD P w K mg base "_law_agree" (k + 1) spAgree :=
  fn3 (k := k + 0) (N := N50) (ps := (N50 : List PySem.Str).take 1) Fd hm (Fd.bindsN fun _ _ _ _ _ _ us hl => match us, hl with | [_], _ => rfl) ⟨rfl, rfl, rfl, by decide +kernel, rfl, by decide +kernel, by decide +kernel⟩ (fun ds P R h => by
    unfold spAgree at h
    repeat (first | (obtain ⟨e, _⟩ := h; subst e; rfl) | (obtain ⟨_, h⟩ := h)))
    (fun X e1 e2 e3 e4 e5 hr c => by subst e1 e2 e3 e4 e5; exact body_agree c hr W)
theorem mk_is_whole  (Fd : FnP K "is_whole" (top 9) f fd) (hm : mg "is_whole" = some (.ref f)) (bi : Bi mg) : FnD P w K mg base "is_whole" (1) spWhole :=
  fn3 (k := 0) (N := N9) (ps := (N9 : List PySem.Str).take 1) Fd hm (Fd.bindsN fun _ _ _ _ _ _ us hl => match us, hl with | [_], _ => rfl) ⟨rfl, rfl, rfl, by decide +kernel, rfl, by decide +kernel, by decide +kernel⟩ (fun ds P R h => by
    unfold spWhole at h
    repeat (first | (obtain ⟨e, _⟩ := h; subst e; rfl) | (obtain ⟨_, h⟩ := h)))
    (fun X e1 e2 e3 e4 e5 hr c => by subst e1 e2 e3 e4 e5; exact body_is_whole c bi)
theorem mk_is_thing  {k : Nat} (Fd : FnP K "is_thing" (top 10) f fd) (hm : mg "is_thing" = some (.ref f)) (fWhole : FnD P w K mg base "is_whole" k spWhole) : FnD P w K mg base "is_thing" (k + 1) spThing :=
  fn3 (k := k + 0) (N := N10) (ps := (N10 : List PySem.Str).take 2) Fd hm (Fd.bindsN fun _ _ _ _ _ _ us hl => match us, hl with | [_, _], _ => rfl) ⟨rfl, rfl, rfl, by decide +kernel, rfl, by decide +kernel, by decide +kernel⟩ (fun ds P R h => by
    unfold spThing at h
    repeat (first | (obtain ⟨e, _⟩ := h; subst e; rfl) | (obtain ⟨_, h⟩ := h)))
    (fun X e1 e2 e3 e4 e5 hr c => by subst e1 e2 e3 e4 e5; exact body_is_thing c hr fWhole)
theorem mk_is_several  (Fd : FnP K "is_several" (top 11) f fd) (hm : mg "is_several" = some (.ref f)) (bi : Bi mg) : FnD P w K mg base "is_several" (1) spSev :=
  fn3 (k := 0) (N := N9) (ps := (N9 : List PySem.Str).take 1) Fd hm (Fd.bindsN fun _ _ _ _ _ _ us hl => match us, hl with | [_], _ => rfl) ⟨rfl, rfl, rfl, by decide +kernel, rfl, by decide +kernel, by decide +kernel⟩ (fun ds P R h => by
    unfold spSev at h
    repeat (first | (obtain ⟨e, _⟩ := h; subst e; rfl) | (obtain ⟨_, h⟩ := h)))
    (fun X e1 e2 e3 e4 e5 hr c => by subst e1 e2 e3 e4 e5; exact body_is_several c bi)
theorem mk_is_pair  {k : Nat} (Fd : FnP K "is_pair" (top 12) f fd) (hm : mg "is_pair" = some (.ref f)) (bi : Bi mg) (fSev : FnD P w K mg base "is_several" k spSev) (fThing : FnD P w K mg base "is_thing" k spThing) : FnD P w K mg base "is_pair" (k + 1) spIsPair :=
  fn3 (k := k + 0) (N := N10) (ps := (N10 : List PySem.Str).take 2) Fd hm (Fd.bindsN fun _ _ _ _ _ _ us hl => match us, hl with | [_, _], _ => rfl) ⟨rfl, rfl, rfl, by decide +kernel, rfl, by decide +kernel, by decide +kernel⟩ (fun ds P R h => by
    unfold spIsPair at h
    repeat (first | (obtain ⟨e, _⟩ := h; subst e; rfl) | (obtain ⟨_, h⟩ := h)))
    (fun X e1 e2 e3 e4 e5 hr c => by subst e1 e2 e3 e4 e5; exact body_is_pair c bi hr fSev fThing)
theorem mk_least_in  (Fd : FnP K "least_in" (top 21) f fd) (hm : mg "least_in" = some (.ref f))  : FnD P w K mg base "least_in" (1) spLeast :=
  fn3 (k := 0) (N := N21) (ps := (N21 : List PySem.Str).take 1) Fd hm (Fd.bindsN fun _ _ _ _ _ _ us hl => match us, hl with | [_], _ => rfl) ⟨rfl, rfl, rfl, by decide +kernel, rfl, by decide +kernel, by decide +kernel⟩ (fun ds P R h => by
    unfold spLeast at h
    repeat (first | (obtain ⟨e, _⟩ := h; subst e; rfl) | (obtain ⟨_, h⟩ := h)))
    (fun X e1 e2 e3 e4 e5 hr c => by subst e1 e2 e3 e4 e5; exact body_least_in c )
theorem mk_things_in  {k : Nat} (Fd : FnP K "things_in" (top 20) f fd) (hm : mg "things_in" = some (.ref f)) (bi : Bi mg) (fLeast : FnD P w K mg base "least_in" k spLeast) : FnD P w K mg base "things_in" (k + 1) spThings :=
  fn3 (k := k + 0) (N := N20) (ps := (N20 : List PySem.Str).take 1) Fd hm (Fd.bindsN fun _ _ _ _ _ _ us hl => match us, hl with | [_], _ => rfl) ⟨rfl, rfl, rfl, by decide +kernel, rfl, by decide +kernel, by decide +kernel⟩ (fun ds P R h => by
    unfold spThings at h
    repeat (first | (obtain ⟨e, _⟩ := h; subst e; rfl) | (obtain ⟨_, h⟩ := h)))
    (fun X e1 e2 e3 e4 e5 hr c => by subst e1 e2 e3 e4 e5; exact body_things_in c bi hr fLeast)
theorem mk_has_thing  (Fd : FnP K "has_thing" (top 22) f fd) (hm : mg "has_thing" = some (.ref f))  : FnD P w K mg base "has_thing" (1) spHas :=
  fn3 (k := 0) (N := N22) (ps := (N22 : List PySem.Str).take 2) Fd hm (Fd.bindsN fun _ _ _ _ _ _ us hl => match us, hl with | [_, _], _ => rfl) ⟨rfl, rfl, rfl, by decide +kernel, rfl, by decide +kernel, by decide +kernel⟩ (fun ds P R h => by
    unfold spHas at h
    repeat (first | (obtain ⟨e, _⟩ := h; subst e; rfl) | (obtain ⟨_, h⟩ := h)))
    (fun X e1 e2 e3 e4 e5 hr c => by subst e1 e2 e3 e4 e5; exact body_has_thing c )
theorem mk_masks_of_pairs  (Fd : FnP K "masks_of_pairs" (top 23) f fd) (hm : mg "masks_of_pairs" = some (.ref f)) (bi : Bi mg) : FnD P w K mg base "masks_of_pairs" (1) spMasks :=
  fn3 (k := 0) (N := N23) (ps := (N23 : List PySem.Str).take 2) Fd hm (Fd.bindsN fun _ _ _ _ _ _ us hl => match us, hl with | [_, _], _ => rfl) ⟨rfl, rfl, rfl, by decide +kernel, rfl, by decide +kernel, by decide +kernel⟩ (fun ds P R h => by
    unfold spMasks at h
    repeat (first | (obtain ⟨e, _⟩ := h; subst e; rfl) | (obtain ⟨_, h⟩ := h)))
    (fun X e1 e2 e3 e4 e5 hr c => by subst e1 e2 e3 e4 e5; exact body_masks_of_pairs c bi)
theorem mk_pair_of {C : Addr} {k : Nat} (Fd : FnP K "pair_of" (top 14) f fd) (hm : mg "pair_of" = some (.ref f)) (fIs : FnD P w K mg base "is_pair" k spIsPair) (xc : ExcD P w K mg base "BadPair" C k ["place"]) : FnD P w K mg base "pair_of" (k + 2) (spPairOf C) :=
  fn3 (k := k + 1) (N := N14) (ps := (N14 : List PySem.Str).take 2) Fd hm (Fd.bindsN fun _ _ _ _ _ _ us hl => match us, hl with | [_, _], _ => rfl) ⟨rfl, rfl, rfl, by decide +kernel, rfl, by decide +kernel, by decide +kernel⟩ (fun ds P R h => by
    unfold spPairOf at h
    repeat (first | (obtain ⟨e, _⟩ := h; subst e; rfl) | (obtain ⟨_, h⟩ := h)))
    (fun X e1 e2 e3 e4 e5 hr c => by subst e1 e2 e3 e4 e5; exact body_pair_of c hr fIs xc)
theorem mk_pairs_of  {k : Nat} (Fd : FnP K "pairs_of" (top 16) f fd) (hm : mg "pairs_of" = some (.ref f)) (bi : Bi mg) (fSev : FnD P w K mg base "is_several" k spSev) (fIs : FnD P w K mg base "is_pair" k spIsPair) : FnD P w K mg base "pairs_of" (k + 1) spPairs :=
  fn3 (k := k + 0) (N := N16) (ps := (N16 : List PySem.Str).take 2) Fd hm (Fd.bindsN fun _ _ _ _ _ _ us hl => match us, hl with | [_, _], _ => rfl) ⟨rfl, rfl, rfl, by decide +kernel, rfl, by decide +kernel, by decide +kernel⟩ (fun ds P R h => by
    unfold spPairs at h
    repeat (first | (obtain ⟨e, _⟩ := h; subst e; rfl) | (obtain ⟨_, h⟩ := h)))
    (fun X e1 e2 e3 e4 e5 hr c => by subst e1 e2 e3 e4 e5; exact body_pairs_of c bi hr fSev fIs)
theorem mk_ties_of  {k : Nat} (Fd : FnP K "ties_of" (top 15) f fd) (hm : mg "ties_of" = some (.ref f)) (bi : Bi mg) (fPairs : FnD P w K mg base "pairs_of" k spPairs) : FnD P w K mg base "ties_of" (k + 1) spTiesOf :=
  fn3 (k := k + 0) (N := N15) (ps := (N15 : List PySem.Str).take 2) Fd hm (Fd.bindsN fun _ _ _ _ _ _ us hl => match us, hl with | [_, _], _ => rfl) ⟨rfl, rfl, rfl, by decide +kernel, rfl, by decide +kernel, by decide +kernel⟩ (fun ds P R h => by
    unfold spTiesOf at h
    repeat (first | (obtain ⟨e, _⟩ := h; subst e; rfl) | (obtain ⟨_, h⟩ := h)))
    (fun X e1 e2 e3 e4 e5 hr c => by subst e1 e2 e3 e4 e5; exact body_ties_of c bi hr fPairs)
theorem mk_number  {k : Nat} (Fd : FnP K "number_of_kind" (top 17) f fd) (hm : mg "number_of_kind" = some (.ref f)) (fWhole : FnD P w K mg base "is_whole" k spWhole) : FnD P w K mg base "number_of_kind" (k + 1) spNum :=
  fn3 (k := k + 0) (N := N17) (ps := (N17 : List PySem.Str).take 4) Fd hm (Fd.bindsN fun _ _ _ _ _ _ us hl => match us, hl with | [_, _, _, _], _ => rfl) ⟨rfl, rfl, rfl, by decide +kernel, rfl, by decide +kernel, by decide +kernel⟩ (fun ds P R h => by
    unfold spNum at h
    repeat (first | (obtain ⟨e, _⟩ := h; subst e; rfl) | (obtain ⟨_, h⟩ := h)))
    (fun X e1 e2 e3 e4 e5 hr c => by subst e1 e2 e3 e4 e5; exact body_number c hr fWhole)
theorem mk_check_tied {CW CT : Addr} {k : Nat} (Fd : FnP K "check_tied" (top 26) f fd) (hm : mg "check_tied" = some (.ref f)) (wc : WebC K CW) (fHas : FnD P w K mg base "has_thing" k spHas) (xc : ExcD P w K mg base "NotTied" CT k ["first", "second"]) : FnD P w K mg base "check_tied" (k + 2) (spCheck CW CT) :=
  fn3 (k := k + 1) (N := N26) (ps := (N26 : List PySem.Str).take 2) Fd hm (Fd.bindsN fun _ _ _ _ _ _ us hl => match us, hl with | [_, _], _ => rfl) ⟨rfl, rfl, rfl, by decide +kernel, rfl, by decide +kernel, by decide +kernel⟩ (fun ds P R h => by
    unfold spCheck at h
    repeat (first | (obtain ⟨e, _⟩ := h; subst e; rfl) | (obtain ⟨_, h⟩ := h)))
    (fun X e1 e2 e3 e4 e5 hr c => by subst e1 e2 e3 e4 e5; exact body_check_tied c wc hr fHas xc)
theorem mk_arrow_of {CW CB CT : Addr} {k : Nat} (Fd : FnP K "arrow_of" (top 27) f fd) (hm : mg "arrow_of" = some (.ref f)) (wc : WebC K CW) (fPair : FnD P w K mg base "pair_of" k (spPairOf CB)) (fCheck : FnD P w K mg base "check_tied" k (spCheck CW CT)) : FnD P w K mg base "arrow_of" (k + 1) (spArrow CW CB CT) :=
  fn3 (k := k + 0) (N := N27) (ps := (N27 : List PySem.Str).take 2) Fd hm (Fd.bindsN fun _ _ _ _ _ _ us hl => match us, hl with | [_, _], _ => rfl) ⟨rfl, rfl, rfl, by decide +kernel, rfl, by decide +kernel, by decide +kernel⟩ (fun ds P R h => by
    unfold spArrow at h
    repeat (first | (obtain ⟨e, _⟩ := h; subst e; rfl) | (obtain ⟨_, h⟩ := h)))
    (fun X e1 e2 e3 e4 e5 hr c => by subst e1 e2 e3 e4 e5; exact body_arrow_of c wc hr fPair fCheck)
theorem mk_two_arrows {CW CB CT : Addr} {k : Nat} (Fd : FnP K "two_arrows_of" (top 28) f fd) (hm : mg "two_arrows_of" = some (.ref f)) (wc : WebC K CW) (fPair : FnD P w K mg base "pair_of" k (spPairOf CB)) (fCheck : FnD P w K mg base "check_tied" k (spCheck CW CT)) : FnD P w K mg base "two_arrows_of" (k + 1) (spTwo CW CB CT) :=
  fn3 (k := k + 0) (N := N28) (ps := (N28 : List PySem.Str).take 3) Fd hm (Fd.bindsN fun _ _ _ _ _ _ us hl => match us, hl with | [_, _, _], _ => rfl) ⟨rfl, rfl, rfl, by decide +kernel, rfl, by decide +kernel, by decide +kernel⟩ (fun ds P R h => by
    unfold spTwo at h
    repeat (first | (obtain ⟨e, _⟩ := h; subst e; rfl) | (obtain ⟨_, h⟩ := h)))
    (fun X e1 e2 e3 e4 e5 hr c => by subst e1 e2 e3 e4 e5; exact body_two_arrows c wc hr fPair fCheck)
theorem mk_forced_from {CW : Addr} {k : Nat} (Fd : FnP K "forced_from" (top 29) f fd) (hm : mg "forced_from" = some (.ref f)) (wc : WebC K CW) (fThings : FnD P w K mg base "things_in" k spThings) : FnD P w K mg base "forced_from" (k + 1) (spFrom CW) :=
  fn3 (k := k + 0) (N := N29) (ps := (N29 : List PySem.Str).take 2) Fd hm (Fd.bindsN fun _ _ _ _ _ _ us hl => match us, hl with | [_, _], _ => rfl) ⟨rfl, rfl, rfl, by decide +kernel, rfl, by decide +kernel, by decide +kernel⟩ (fun ds P R h => by
    unfold spFrom at h
    repeat (first | (obtain ⟨e, _⟩ := h; subst e; rfl) | (obtain ⟨_, h⟩ := h)))
    (fun X e1 e2 e3 e4 e5 hr c => by subst e1 e2 e3 e4 e5; exact body_forced_from c wc hr fThings)
theorem mk_law_int  (Fd : FnP K "_law_int" (top 59) f fd) (hm : mg "_law_int" = some (.ref f)) (bi : Bi mg) : FnD P w K mg base "_law_int" (1) spWhole :=
  fn3 (k := 0) (N := ["_law_value"]) (ps := (["_law_value"] : List PySem.Str).take 1) Fd hm (Fd.bindsN fun _ _ _ _ _ _ us hl => match us, hl with | [_], _ => rfl) ⟨rfl, rfl, rfl, by decide +kernel, rfl, by decide +kernel, by decide +kernel⟩ (fun ds P R h => by
    unfold spWhole at h
    repeat (first | (obtain ⟨e, _⟩ := h; subst e; rfl) | (obtain ⟨_, h⟩ := h)))
    (fun X e1 e2 e3 e4 e5 hr c => by subst e1 e2 e3 e4 e5; exact body_law_int c bi)
theorem mk_law_ints  {k : Nat} (Fd : FnP K "_law_ints" (top 60) f fd) (hm : mg "_law_ints" = some (.ref f)) (bi : Bi mg) (fInt : FnD P w K mg base "_law_int" k spWhole) : FnD P w K mg base "_law_ints" (k + 1) spInts :=
  fn3 (k := k + 0) (N := N59) (ps := (N59 : List PySem.Str).take 2) Fd hm (Fd.bindsN fun _ _ _ _ _ _ us hl => match us, hl with | [_, _], _ => rfl) ⟨rfl, rfl, rfl, by decide +kernel, rfl, by decide +kernel, by decide +kernel⟩ (fun ds P R h => by
    unfold spInts at h
    repeat (first | (obtain ⟨e, _⟩ := h; subst e; rfl) | (obtain ⟨_, h⟩ := h)))
    (fun X e1 e2 e3 e4 e5 hr c => by subst e1 e2 e3 e4 e5; exact body_law_ints c bi hr fInt)
theorem mk_law_pairs  {k : Nat} (Fd : FnP K "_law_pairs" (top 62) f fd) (hm : mg "_law_pairs" = some (.ref f)) (bi : Bi mg) (fInts : FnD P w K mg base "_law_ints" k spInts) : FnD P w K mg base "_law_pairs" (k + 1) spPairsL :=
  fn3 (k := k + 0) (N := N60) (ps := (N60 : List PySem.Str).take 2) Fd hm (Fd.bindsN fun _ _ _ _ _ _ us hl => match us, hl with | [_, _], _ => rfl) ⟨rfl, rfl, rfl, by decide +kernel, rfl, by decide +kernel, by decide +kernel⟩ (fun ds P R h => by
    unfold spPairsL at h
    repeat (first | (obtain ⟨e, _⟩ := h; subst e; rfl) | (obtain ⟨_, h⟩ := h)))
    (fun X e1 e2 e3 e4 e5 hr c => by subst e1 e2 e3 e4 e5; exact body_law_pairs c bi hr fInts)
theorem mk_law_steps  (Fd : FnP K "_law_steps" (top 63) f fd) (hm : mg "_law_steps" = some (.ref f)) (bi : Bi mg) : FnD P w K mg base "_law_steps" (1) spSteps :=
  fn3 (k := 0) (N := N61) (ps := (N61 : List PySem.Str).take 2) Fd hm (Fd.bindsN fun _ _ _ _ _ _ us hl => match us, hl with | [_, _], _ => rfl) ⟨rfl, rfl, rfl, by decide +kernel, rfl, by decide +kernel, by decide +kernel⟩ (fun ds P R h => by
    unfold spSteps at h
    repeat (first | (obtain ⟨e, _⟩ := h; subst e; rfl) | (obtain ⟨_, h⟩ := h)))
    (fun X e1 e2 e3 e4 e5 hr c => by subst e1 e2 e3 e4 e5; exact body_law_steps c bi)
theorem mk_take  (Fd : FnP K "_law_take" (top 47) f fd) (hm : mg "_law_take" = some (.ref f)) (bi : Bi mg) : FnD P w K mg base "_law_take" (1) spTake :=
  fn3 (k := 0) (N := ["_law_draws_here", "_law_many"]) (ps := (["_law_draws_here", "_law_many"] : List PySem.Str).take 2) Fd hm (Fd.bindsN fun _ _ _ _ _ _ us hl => match us, hl with | [_, _], _ => rfl) ⟨rfl, rfl, rfl, by decide +kernel, rfl, by decide +kernel, by decide +kernel⟩ (fun ds P R h => by
    unfold spTake at h
    repeat (first | (obtain ⟨e, _⟩ := h; subst e; rfl) | (obtain ⟨_, h⟩ := h)))
    (fun X e1 e2 e3 e4 e5 hr c => by subst e1 e2 e3 e4 e5; exact body_take c bi)
theorem mk_class_from {CW : Addr} {k : Nat} (Fd : FnP K "class_from" (top 31) f fd) (hm : mg "class_from" = some (.ref f)) (bi : Bi mg) (fFrom : FnD P w K mg base "forced_from" k (spFrom CW)) : FnD P w K mg base "class_from" (k + 1) (spClassFrom CW) :=
  fn3 (k := k + 0) (N := NclassFrom) (ps := (NclassFrom : List PySem.Str).take 2) Fd hm (Fd.bindsN fun _ _ _ _ _ _ us hl => match us, hl with | [_, _], _ => rfl) ⟨rfl, rfl, rfl, by decide +kernel, rfl, by decide +kernel, by decide +kernel⟩ (fun ds P R h => by
    unfold spClassFrom at h
    repeat (first | (obtain ⟨e, _⟩ := h; subst e; rfl) | (obtain ⟨_, h⟩ := h)))
    (fun X e1 e2 e3 e4 e5 hr c => by subst e1 e2 e3 e4 e5; exact body_class_from c bi hr fFrom)
theorem mk_class_of {CW CB CT : Addr} {k : Nat} (Fd : FnP K "class_of" (top 34) f fd) (hm : mg "class_of" = some (.ref f)) (fArrow : FnD P w K mg base "arrow_of" k (spArrow CW CB CT)) (fCls : FnD P w K mg base "class_from" k (spClassFrom CW)) : FnD P w K mg base "class_of" (k + 1) (spClassOf CW CB CT) :=
  fn3 (k := k + 0) (N := ["web", "arrow"]) (ps := (["web", "arrow"] : List PySem.Str).take 2) Fd hm (Fd.bindsN fun _ _ _ _ _ _ us hl => match us, hl with | [_, _], _ => rfl) ⟨rfl, rfl, rfl, by decide +kernel, rfl, by decide +kernel, by decide +kernel⟩ (fun ds P R h => by
    unfold spClassOf at h
    repeat (first | (obtain ⟨e, _⟩ := h; subst e; rfl) | (obtain ⟨_, h⟩ := h)))
    (fun X e1 e2 e3 e4 e5 hr c => by subst e1 e2 e3 e4 e5; exact body_class_of c hr fArrow fCls)
theorem mk_same {CW CB CT : Addr} {k : Nat} (Fd : FnP K "same_class" (top 36) f fd) (hm : mg "same_class" = some (.ref f)) (fTwo : FnD P w K mg base "two_arrows_of" k (spTwo CW CB CT)) (fCls : FnD P w K mg base "class_from" k (spClassFrom CW)) : FnD P w K mg base "same_class" (k + 1) (spSame CW) :=
  fn3 (k := k + 0) (N := ["web", "first", "last"]) (ps := (["web", "first", "last"] : List PySem.Str).take 3) Fd hm (Fd.bindsN fun _ _ _ _ _ _ us hl => match us, hl with | [_, _, _], _ => rfl) ⟨rfl, rfl, rfl, by decide +kernel, rfl, by decide +kernel, by decide +kernel⟩ (fun ds P R h => by
    unfold spSame at h
    repeat (first | (obtain ⟨e, _⟩ := h; subst e; rfl) | (obtain ⟨_, h⟩ := h)))
    (fun X e1 e2 e3 e4 e5 hr c => by subst e1 e2 e3 e4 e5; exact body_same c hr fTwo fCls)
theorem mk_classes {CW : Addr} {k : Nat} (Fd : FnP K "classes" (top 35) f fd) (hm : mg "classes" = some (.ref f)) (bi : Bi mg) (wc : WebC K CW) (fCls : FnD P w K mg base "class_from" k (spClassFrom CW)) : FnD P w K mg base "classes" (k + 1) (spClasses CW) :=
  fn3 (k := k + 0) (N := Nclasses) (ps := (Nclasses : List PySem.Str).take 1) Fd hm (Fd.bindsN fun _ _ _ _ _ _ us hl => match us, hl with | [_], _ => rfl) ⟨rfl, rfl, rfl, by decide +kernel, rfl, by decide +kernel, by decide +kernel⟩ (fun ds P R h => by
    unfold spClasses at h
    repeat (first | (obtain ⟨e, _⟩ := h; subst e; rfl) | (obtain ⟨_, h⟩ := h)))
    (fun X e1 e2 e3 e4 e5 hr c => by subst e1 e2 e3 e4 e5; exact body_classes c bi wc hr fCls)
theorem mk_law_class  {k : Nat} (Fd : FnP K "_law_class" (top 64) f fd) (hm : mg "_law_class" = some (.ref f)) (bi : Bi mg) (fSteps : FnD P w K mg base "_law_steps" k spSteps) : FnD P w K mg base "_law_class" (k + 1) spLawClass :=
  fn3 (k := k + 0) (N := NlawClass) (ps := (NlawClass : List PySem.Str).take 2) Fd hm (Fd.bindsN fun _ _ _ _ _ _ us hl => match us, hl with | [_, _], _ => rfl) ⟨rfl, rfl, rfl, by decide +kernel, rfl, by decide +kernel, by decide +kernel⟩ (fun ds P R h => by
    unfold spLawClass at h
    repeat (first | (obtain ⟨e, _⟩ := h; subst e; rfl) | (obtain ⟨_, h⟩ := h)))
    (fun X e1 e2 e3 e4 e5 hr c => by subst e1 e2 e3 e4 e5; exact body_law_class c bi hr fSteps)
theorem mk_with_all  {k : Nat} (Fd : FnP K "_law_with_all" (top 66) f fd) (hm : mg "_law_with_all" = some (.ref f)) (bi : Bi mg) (fNear : FnD P w K mg base "_law_near" k spNear) (fTies : FnD P w K mg base "_law_ties" k spTies) : FnD P w K mg base "_law_with_all" (k + 1) spWithAll :=
  fn3 (k := k + 0) (N := NwithAll) (ps := (NwithAll : List PySem.Str).take 1) Fd hm (Fd.bindsN fun _ _ _ _ _ _ us hl => match us, hl with | [_], _ => rfl) ⟨rfl, rfl, rfl, by decide +kernel, rfl, by decide +kernel, by decide +kernel⟩ (fun ds P R h => by
    unfold spWithAll at h
    repeat (first | (obtain ⟨e, _⟩ := h; subst e; rfl) | (obtain ⟨_, h⟩ := h)))
    (fun X e1 e2 e3 e4 e5 hr c => by subst e1 e2 e3 e4 e5; exact body_with_all c bi hr fNear fTies)
theorem mk_homes  {k : Nat} (Fd : FnP K "_law_homes" (top 67) f fd) (hm : mg "_law_homes" = some (.ref f)) (bi : Bi mg) (fPairs : FnD P w K mg base "_law_pairs" k spPairsL) (fTies : FnD P w K mg base "_law_ties" k spTies) : FnD P w K mg base "_law_homes" (k + 1) spHomes :=
  fn3 (k := k + 0) (N := Nhomes) (ps := (Nhomes : List PySem.Str).take 2) Fd hm (Fd.bindsN fun _ _ _ _ _ _ us hl => match us, hl with | [_, _], _ => rfl) ⟨rfl, rfl, rfl, by decide +kernel, rfl, by decide +kernel, by decide +kernel⟩ (fun ds P R h => by
    unfold spHomes at h
    repeat (first | (obtain ⟨e, _⟩ := h; subst e; rfl) | (obtain ⟨_, h⟩ := h)))
    (fun X e1 e2 e3 e4 e5 hr c => by subst e1 e2 e3 e4 e5; exact body_homes c bi hr fPairs fTies)
theorem mk_one_tri  {k : Nat} (Fd : FnP K "_law_one_triangle" (top 68) f fd) (hm : mg "_law_one_triangle" = some (.ref f)) (bi : Bi mg) : FnD P w K mg base "_law_one_triangle" (k + 1) spOneTri :=
  fn3 (k := k + 0) (N := NoneTri) (ps := (NoneTri : List PySem.Str).take 6) Fd hm (Fd.bindsN fun _ _ _ _ _ _ us hl => match us, hl with | [_, _, _, _, _, _], _ => rfl) ⟨rfl, rfl, rfl, by decide +kernel, rfl, by decide +kernel, by decide +kernel⟩ (fun ds P R h => by
    unfold spOneTri at h
    repeat (first | (obtain ⟨e, _⟩ := h; subst e; rfl) | (obtain ⟨_, h⟩ := h)))
    (fun X e1 e2 e3 e4 e5 hr c => by subst e1 e2 e3 e4 e5; exact body_one_tri c bi hr)
theorem mk_drawn  {k : Nat} (Fd : FnP K "_law_drawn" (top 65) f fd) (hm : mg "_law_drawn" = some (.ref f)) (W : Ws3 P w K mg base k) : FnD P w K mg base "_law_drawn" (k + 1) (spWeb 4) :=
  fn3 (k := k + 0) (N := Ndrawn) (ps := (Ndrawn : List PySem.Str).take 2) Fd hm (Fd.bindsN fun _ _ _ _ _ _ us hl => match us, hl with | [_, _], _ => rfl) ⟨rfl, rfl, rfl, by decide +kernel, rfl, by decide +kernel, by decide +kernel⟩ (fun ds P R h => by
    unfold spWeb at h
    repeat (first | (obtain ⟨e, _⟩ := h; subst e; rfl) | (obtain ⟨_, h⟩ := h)))
    (fun X e1 e2 e3 e4 e5 hr c => by subst e1 e2 e3 e4 e5; exact body_drawn c hr W)
theorem mk_law_lot  {k : Nat} (Fd : FnP K "_law_lot" (top 61) f fd) (hm : mg "_law_lot" = some (.ref f)) (bi : Bi mg) (fInts : FnD P w K mg base "_law_ints" k spInts) : FnD P w K mg base "_law_lot" (k + 1) spLawLot :=
  fn3 (k := k + 0) (N := NlawLot) (ps := (NlawLot : List PySem.Str).take 2) Fd hm (Fd.bindsN fun _ _ _ _ _ _ us hl => match us, hl with | [_, _], _ => rfl) ⟨rfl, rfl, rfl, by decide +kernel, rfl, by decide +kernel, by decide +kernel⟩ (fun ds P R h => by
    unfold spLawLot at h
    repeat (first | (obtain ⟨e, _⟩ := h; subst e; rfl) | (obtain ⟨_, h⟩ := h)))
    (fun X e1 e2 e3 e4 e5 hr c => by subst e1 e2 e3 e4 e5; exact body_law_lot c bi hr fInts)
theorem mk_drawn_tri {CW : Addr} {k : Nat} (Fd : FnP K "_law_drawn_triangle" (top 69) f fd) (hm : mg "_law_drawn_triangle" = some (.ref f)) (W : Dt P w K mg base k CW) : FnD P w K mg base "_law_drawn_triangle" (k + 1) (spDrawnTri CW) :=
  fn3 (k := k + 0) (N := NdrawnTri) (ps := (NdrawnTri : List PySem.Str).take 5) Fd hm (Fd.bindsN fun _ _ _ _ _ _ us hl => match us, hl with | [_, _, _, _, _], _ => rfl) ⟨rfl, rfl, rfl, by decide +kernel, rfl, by decide +kernel, by decide +kernel⟩ (fun ds P R h => by
    unfold spDrawnTri at h
    repeat (first | (obtain ⟨e, _⟩ := h; subst e; rfl) | (obtain ⟨_, h⟩ := h)))
    (fun X e1 e2 e3 e4 e5 hr c => by subst e1 e2 e3 e4 e5; exact body_drawn_tri c hr W)
theorem mk_ties_a  {k : Nat} (Fd : FnP K "ties_of_arrows" (top 32) f fd) (hm : mg "ties_of_arrows" = some (.ref f)) (bi : Bi mg) : FnD P w K mg base "ties_of_arrows" (k + 1) spTiesA :=
  fn3 (k := k + 0) (N := ["arrows", "arrow"]) (ps := (["arrows", "arrow"] : List PySem.Str).take 1) Fd hm (Fd.bindsN fun _ _ _ _ _ _ us hl => match us, hl with | [_], _ => rfl) ⟨rfl, rfl, rfl, by decide +kernel, rfl, by decide +kernel, by decide +kernel⟩ (fun ds P R h => by
    unfold spTiesA at h
    repeat (first | (obtain ⟨e, _⟩ := h; subst e; rfl) | (obtain ⟨_, h⟩ := h)))
    (fun X e1 e2 e3 e4 e5 hr c => by subst e1 e2 e3 e4 e5; exact body_ties_a c bi hr)
theorem mk_ends  (Fd : FnP K "ends_of" (top 33) f fd) (hm : mg "ends_of" = some (.ref f)) (bi : Bi mg) : FnD P w K mg base "ends_of" (1) spEnds :=
  fn3 (k := 0) (N := ["ties", "tie", "thing"]) (ps := (["ties", "tie", "thing"] : List PySem.Str).take 1) Fd hm (Fd.bindsN fun _ _ _ _ _ _ us hl => match us, hl with | [_], _ => rfl) ⟨rfl, rfl, rfl, by decide +kernel, rfl, by decide +kernel, by decide +kernel⟩ (fun ds P R h => by
    unfold spEnds at h
    repeat (first | (obtain ⟨e, _⟩ := h; subst e; rfl) | (obtain ⟨_, h⟩ := h)))
    (fun X e1 e2 e3 e4 e5 hr c => by subst e1 e2 e3 e4 e5; exact body_ends c bi)
theorem mk_colour {CW CB CT : Addr} {k : Nat} (Fd : FnP K "colour_of" (top 37) f fd) (hm : mg "colour_of" = some (.ref f)) (fCls : FnD P w K mg base "class_of" k (spClassOf CW CB CT)) (fTies : FnD P w K mg base "ties_of_arrows" k spTiesA) : FnD P w K mg base "colour_of" (k + 1) (spColour CW) :=
  fn3 (k := k + 0) (N := ["web", "tie"]) (ps := (["web", "tie"] : List PySem.Str).take 2) Fd hm (Fd.bindsN fun _ _ _ _ _ _ us hl => match us, hl with | [_, _], _ => rfl) ⟨rfl, rfl, rfl, by decide +kernel, rfl, by decide +kernel, by decide +kernel⟩ (fun ds P R h => by
    unfold spColour at h
    repeat (first | (obtain ⟨e, _⟩ := h; subst e; rfl) | (obtain ⟨_, h⟩ := h)))
    (fun X e1 e2 e3 e4 e5 hr c => by subst e1 e2 e3 e4 e5; exact body_colour c hr fCls fTies)
theorem mk_touched {CW : Addr} {k : Nat} (Fd : FnP K "touched" (top 38) f fd) (hm : mg "touched" = some (.ref f)) (fCol : FnD P w K mg base "colour_of" k (spColour CW)) (fEnds : FnD P w K mg base "ends_of" k spEnds) : FnD P w K mg base "touched" (k + 1) (spTouched CW) :=
  fn3 (k := k + 0) (N := ["web", "tie"]) (ps := (["web", "tie"] : List PySem.Str).take 2) Fd hm (Fd.bindsN fun _ _ _ _ _ _ us hl => match us, hl with | [_, _], _ => rfl) ⟨rfl, rfl, rfl, by decide +kernel, rfl, by decide +kernel, by decide +kernel⟩ (fun ds P R h => by
    unfold spTouched at h
    repeat (first | (obtain ⟨e, _⟩ := h; subst e; rfl) | (obtain ⟨_, h⟩ := h)))
    (fun X e1 e2 e3 e4 e5 hr c => by subst e1 e2 e3 e4 e5; exact body_touched c hr fCol fEnds)
/-! by hand -/
theorem mk_blank (Fd : FnP K "_law_blank" (top 49) f fd) (hm : mg "_law_blank" = some (.ref f)) (bi : Bi mg) : FnM P w K mg base "_law_blank" 1 spBlank := by
  have h : ∃ e rp, defBody (top 49) = [.Return (some e) rp] := ⟨_, _, rfl⟩
  obtain ⟨e, rp, he⟩ := h
  exact fnm3 (N := ["_law_size", "_law_b", "_law_a"]) (ps := ["_law_size"]) Fd hm (Fd.bindsN fun _ _ _ _ _ _ us hl => match us, hl with | [_], _ => rfl) ⟨rfl, rfl, rfl, by decide +kernel, rfl, by decide +kernel, by decide +kernel⟩ (fun ds P h => by
    unfold spBlank at h
    obtain ⟨_, e, _⟩ := h
    subst e; rfl) he (fun X e1 e2 e3 e4 e5 hr c ds P h B0 H0 => by subst e1 e2 e3 e4 e5; exact em_blank c bi h he)
theorem mk_draws (Fd : FnP K "_law_draws" (top 46) f fd) (hm : mg "_law_draws" = some (.ref f)) (bi : Bi mg) : DrF P w K mg base "_law_draws" 1 := by
  refine ⟨f, fd, ["_law_script"], hm, Fd.kp, Fd.bindsN fun _ _ _ _ _ _ us hl => match us, hl with | [_], _ => rfl, fnr3 (N := N39) Fd ⟨rfl, rfl, rfl, by decide +kernel, rfl, by decide +kernel, by decide +kernel⟩ (by decide) (fun vs H Q E ⟨a, ns, B, e, _⟩ => ⟨a, e⟩) fun X e1 e2 e3 e4 e5 hr c a H Q E h => ?_⟩
  subst e1 e2 e3 e4 e5
  obtain ⟨a', ns, B, e, hq, hn, eb, k⟩ := h
  cases e
  exact ⟨B, (· = .drw), eb, body_draws c bi hq hn, fun v B' H' d g i e => by subst e; exact k v B' H' g i⟩
def spLaw (K : PySem.W.Frag) : Sp := fun vs H Q _ => ∃ (a : Addr) (ns : List Int), vs = [.ref a] ∧ SqL K H a (ns.map V.int) ∧ ns.length ≤ 63 ∧ ∀ H', Q (.bl true) H'
theorem mk_law {k : Nat} (Fd : FnP K "law" (top 70) f fd) (F : Lw10 P w K mg base k CW CB CT) : FnOk P w K mg base (L2.CX P w) (k + 2) f fd ["_law_script"] (spLaw K) := by
  refine fnr3 (k := k + 1) (N := Nlaw10) Fd ⟨rfl, rfl, rfl, by decide +kernel, rfl, by decide +kernel, by decide +kernel⟩ (by decide) (fun vs H Q E ⟨a, ns, e, _⟩ => ⟨a, e⟩) fun X e1 e2 e3 e4 e5 hr c a H Q E h => ?_
  subst e1 e2 e3 e4 e5
  obtain ⟨a', ns, e, hq, hn, k⟩ := h
  cases e
  exact ⟨fun _ => none, (· = .bl true), (fun _ _ h => nomatch h), body_law10 c hr F hq hn, fun v B' H' d g i e => by subst e; cases i; exact k H'⟩
/-! the classes -/
abbrev sBadI : Stmt := inClass (top 5) 0
abbrev sTiedI : Stmt := inClass (top 6) 0
abbrev WebFn (K : PySem.W.Frag) (CE f : Addr) (fd : FuncData) : Prop := FunD K "__init__" "Web.__init__" (defArgs sWebI) (defBody sWebI) (defScope sWebI) [V.ref CE] [] f fd
theorem mk_webI {k : Nat} (Fd : WebFn K CE f fd) (hm : mg "Web" = some (.ref CW)) (mk : Mk K CW f) (bi : Bi mg) (wc : WebC K CW) (most : ∃ t, mg "MOST_THINGS" = some (.int 40 t))
    (h1 : FnD P w K mg base "number_of_kind" k spNum) (h2 : FnD P w K mg base "ties_of" k spTiesOf) (h3 : FnD P w K mg base "masks_of_pairs" k spMasks) : MkD P w K mg base "Web" CW (k + 1) spWebI := by
  obtain ⟨ds, hv, hb⟩ := Fd.binds1 (ps := ["self", "size", "ties"]) 3 1 (by simp) (by simp) fun T kV doc pm an cdv ct us its hu hi => match us, hu, its, hi with | [_, _, _], _, [_], _ => ⟨_, rfl, rfl⟩
  cases hv
  refine ⟨hm, f, fd, ["self", "size", "ties"], mk, init3 (k := k) (N := N37) Fd ⟨rfl, rfl, rfl, by decide +kernel, rfl, by decide +kernel, by decide +kernel⟩ (by decide) (fun ds P R h => ?_) ?_, hb⟩
  · obtain ⟨n, g, e, _⟩ := h
    subst e; rfl
  · intro X e1 e2 e3 e4 e5 hr c ds P' R h B0 H0 a dx air
    subst e1 e2 e3 e4 e5
    exact body_web_init c bi wc hr most h1 h2 h3 h B0 H0 a dx
theorem mk_badI (Fd : FunD K "__init__" "BadPair.__init__" (defArgs sBadI) (defBody sBadI) (defScope sBadI) [] [] f fd) (hm : mg "BadPair" = some (.ref CB)) (hc : OexC K CB) (hf : PySem.W.findIn K (.ref CB) "__init__" = some (some (.ref f))) (ht : PySem.W.typeIn K (.ref f) = some (.type "function")) (hno : PySem.W.findIn K (.ref CB) "place" = some none) : ExcD P w K mg base "BadPair" CB 1 ["place"] :=
  ⟨hm, hc, f, fd, ["self", "place"], hf, ht, exc_init1 (FunD.fun Fd) ⟨rfl, rfl, rfl, by decide +kernel, rfl, by decide +kernel, by decide +kernel⟩ hc hno, Fd.bindsN fun _ _ _ _ _ _ us hl => match us, hl with | [_, _], _ => rfl⟩
theorem mk_tiedI (Fd : FunD K "__init__" "NotTied.__init__" (defArgs sTiedI) (defBody sTiedI) (defScope sTiedI) [] [] f fd) (hm : mg "NotTied" = some (.ref CT)) (hc : OexC K CT) (hf : PySem.W.findIn K (.ref CT) "__init__" = some (some (.ref f))) (ht : PySem.W.typeIn K (.ref f) = some (.type "function")) (hno : PySem.W.findIn K (.ref CT) "first" = some none) (hno2 : PySem.W.findIn K (.ref CT) "second" = some none) : ExcD P w K mg base "NotTied" CT 1 ["first", "second"] :=
  ⟨hm, hc, f, fd, ["self", "first", "second"], hf, ht, exc_init2 (FunD.fun Fd) ⟨rfl, rfl, rfl, by decide +kernel, rfl, by decide +kernel, by decide +kernel⟩ hc hno hno2, Fd.bindsN fun _ _ _ _ _ _ us hl => match us, hl with | [_, _, _], _ => rfl⟩
end
end OB
set_option Elab.async false
set_option linter.all false
set_option maxRecDepth 100000
set_option maxHeartbeats 0
namespace OB
open PySem PySem.Spec PyProof.Rows L2
abbrev KRow : PySem.W.OpenRow := PySem.W.OpenLaw.row PySem.Challenge.rw_ordersbehind_k10_whole_triangle_step
def dfn (x : PySem.Str) (i : Nat) : He.DefD := ⟨(x, none), x, x, defArgs (top i), defBody (top i), defScope (top i), [], []⟩
def dWebI : He.DefD := ⟨("Web", some "__init__"), "__init__", "Web.__init__", defArgs sWebI, defBody sWebI, defScope sWebI, [.adr (He.dflAt ("Web", some "__init__") 0)], []⟩
def dBadI : He.DefD := ⟨("BadPair", some "__init__"), "__init__", "BadPair.__init__", defArgs sBadI, defBody sBadI, defScope sBadI, [], []⟩
def dTiedI : He.DefD := ⟨("NotTied", some "__init__"), "__init__", "NotTied.__init__", defArgs sTiedI, defBody sTiedI, defScope sTiedI, [], []⟩
def fn : List He.DefD := [dfn "_law_near" 50, dfn "_law_ties" 51, dfn "_law_contrary" 52, dfn "_law_renamed" 53, dfn "_law_graft" 54, dfn "_law_path" 55, dfn "_law_round" 56, dfn "_law_any_ties" 58, dfn "_law_row" 48, dfn "_law_agree" 57, dfn "is_whole" 9, dfn "is_thing" 10, dfn "is_several" 11, dfn "is_pair" 12, dfn "least_in" 21, dfn "things_in" 20, dfn "has_thing" 22, dfn "masks_of_pairs" 23, dfn "pair_of" 14, dfn "pairs_of" 16, dfn "ties_of" 15, dfn "number_of_kind" 17, dfn "check_tied" 26, dfn "arrow_of" 27, dfn "two_arrows_of" 28, dfn "forced_from" 29, dfn "_law_int" 59, dfn "_law_ints" 60, dfn "_law_pairs" 62, dfn "_law_steps" 63, dfn "_law_take" 47, dfn "class_from" 31, dfn "class_of" 34, dfn "same_class" 36, dfn "classes" 35, dfn "_law_class" 64, dfn "_law_with_all" 66, dfn "_law_homes" 67, dfn "_law_one_triangle" 68, dfn "_law_drawn" 65, dfn "_law_lot" 61, dfn "_law_drawn_triangle" 69, dfn "ties_of_arrows" 32, dfn "ends_of" 33, dfn "colour_of" 37, dfn "touched" 38, dfn "_law_blank" 49, dfn "_law_draws" 46, dfn "law" 70, dWebI, dBadI, dTiedI]
def faL : List He.Fa := [.glo "_law_near", .glo "_law_ties", .glo "_law_contrary", .glo "_law_renamed", .glo "_law_graft", .glo "_law_path", .glo "_law_round", .glo "_law_any_ties", .glo "_law_row", .glo "_law_agree", .glo "is_whole", .glo "is_thing", .glo "is_several", .glo "is_pair", .glo "least_in", .glo "things_in", .glo "has_thing", .glo "masks_of_pairs", .glo "pair_of", .glo "pairs_of", .glo "ties_of", .glo "number_of_kind", .glo "check_tied", .glo "arrow_of", .glo "two_arrows_of", .glo "forced_from", .glo "_law_int", .glo "_law_ints", .glo "_law_pairs", .glo "_law_steps", .glo "_law_take", .glo "class_from", .glo "class_of", .glo "same_class", .glo "classes", .glo "_law_class", .glo "_law_with_all", .glo "_law_homes", .glo "_law_one_triangle", .glo "_law_drawn", .glo "_law_lot", .glo "_law_drawn_triangle", .glo "ties_of_arrows", .glo "ends_of", .glo "colour_of", .glo "touched", .glo "_law_blank", .glo "_law_draws", .glo "law", .glo "Web", .glo "BadPair", .glo "NotTied", .int "MOST_THINGS" 40, .cls "Web", .noat "Web" "size", .noat "Web" "ties", .noat "Web" "masks", .mkr "Web", .noat "BadPair" "place", .noat "NotTied" "first", .noat "NotTied" "second", .meth "BadPair" "__init__", .meth "NotTied" "__init__"]
def fa : List He.Fa := freeL ++ faL
def ex (K : PySem.W.Frag) : Bool := excB K (He.ga K "BadPair") && excB K (He.ga K "NotTied")
def looseA : List PySem.Str := [("_wall" : PySem.Str), ("__name__" : PySem.Str), ("BehindError" : PySem.Str), ("BadNumber" : PySem.Str), ("BadThing" : PySem.Str), ("BadPair" : PySem.Str), ("NotTied" : PySem.Str), ("MOST_THINGS" : PySem.Str), ("is_whole" : PySem.Str), ("is_thing" : PySem.Str), ("is_several" : PySem.Str), ("is_pair" : PySem.Str), ("thing_of" : PySem.Str), ("pair_of" : PySem.Str), ("ties_of" : PySem.Str), ("pairs_of" : PySem.Str), ("number_of_kind" : PySem.Str), ("all_of" : PySem.Str), ("things_in" : PySem.Str), ("least_in" : PySem.Str), ("has_thing" : PySem.Str), ("masks_of_pairs" : PySem.Str), ("contrary_masks" : PySem.Str), ("check_tied" : PySem.Str), ("arrow_of" : PySem.Str), ("two_arrows_of" : PySem.Str), ("forced_from" : PySem.Str), ("class_from" : PySem.Str), ("ties_of_arrows" : PySem.Str), ("ends_of" : PySem.Str), ("class_of" : PySem.Str), ("classes" : PySem.Str), ("same_class" : PySem.Str), ("colour_of" : PySem.Str), ("touched" : PySem.Str)]
def looseB : List PySem.Str := [("pairs_moved" : PySem.Str), ("pairs_between" : PySem.Str), ("ties_of_masks" : PySem.Str), ("Web" : PySem.Str), ("_law_draws" : PySem.Str), ("_law_take" : PySem.Str), ("_law_row" : PySem.Str), ("_law_blank" : PySem.Str), ("_law_near" : PySem.Str), ("_law_ties" : PySem.Str), ("_law_contrary" : PySem.Str), ("_law_renamed" : PySem.Str), ("_law_graft" : PySem.Str), ("_law_path" : PySem.Str), ("_law_round" : PySem.Str), ("_law_agree" : PySem.Str), ("_law_any_ties" : PySem.Str), ("_law_int" : PySem.Str), ("_law_ints" : PySem.Str), ("_law_lot" : PySem.Str), ("_law_pairs" : PySem.Str), ("_law_steps" : PySem.Str), ("_law_class" : PySem.Str), ("_law_drawn" : PySem.Str), ("_law_with_all" : PySem.Str), ("_law_homes" : PySem.Str), ("_law_one_triangle" : PySem.Str), ("_law_drawn_triangle" : PySem.Str)]
abbrev hk : PySem.W.Hook := hookY 4 (fun _ => []) fa fn ex
def ob (s : PySem.W.SharedT) : He.AlX := obsY 4 (fun _ => []) fa fn ex (HandSHeadRun.getT s)
theorem ob_eq (s : PySem.W.SharedT) : ob s = hk.obs s.abs := obsY_eq (HandSHeadRun.getT_eq s)
end OB
set_option Elab.async false
set_option linter.all false
set_option maxRecDepth 100000
set_option maxHeartbeats 0
namespace OB
open PySem PySem.Spec PyProof.Rows L2
theorem run (w : World) : HandSHeadRun.RunEq KRow (PySem.W.view KRow.prog [70]) hk ob 20000 (looseA ++ looseB) w := by
  intro os
  kernel_rfl
end OB
set_option Elab.async false
set_option linter.all false
set_option maxRecDepth 100000
set_option maxHeartbeats 0
namespace OB
open PySem PySem.Spec PyProof.Rows L2
/-- a def that lets nothing out, for any air -/
theorem cx0_of {P : Program} {w : World} {K : PySem.W.Frag} {mg : PySem.Str → Option Value} {base : Heap} {k : Nat} {f : Addr} {fd : FuncData} {ps : List PySem.Str} {sp : Sp} (F : FnOk P w K mg base (L2.CX P w) k f fd ps sp) (h : ∀ vs H Q E E', sp vs H Q E → sp vs H Q E') : FnOk P w K mg base CX0 k f fd ps sp := by
  refine ⟨F.len, fun A outer s H args us vs Q E hr he hb hv hs => PySem.codeAny_mono (F.run A outer s H args us vs Q (fun _ _ _ => False) hr he hb hv (h _ _ _ _ _ hs)) fun r s' g => ?_⟩
  match r, g with
  | .ok (.ret u), g => exact g
  | .error e, g => obtain ⟨_, _, _, _, _, _, _, _, _, _, _, _, z⟩ := g; exact z.elim
theorem facts {P : Program} {w : World} {K : PySem.W.Frag} {h : Heap} {mg : PySem.Str → Option Value} {f : Addr} (X : K.In h) (G : h.Ns mainGlobals mg) (hfa : mg ("law" : PySem.Str) = some (.ref f)) (c : He.SaysX fa fn [] [] ex w h K) :
    ∃ fd : FuncData, (∀ (s : Shared) (v : Value), BindsTo s fd ⟨[v], []⟩ [("_law_script", v)]) ∧ ∀ base : Heap, K.In base → base.Ns mainGlobals mg → FnOk P w K mg base CX0 12 f fd ["_law_script"] (spLaw K) := by
  have cd := c.t.d
  have hex := c.more
  unfold ex at hex
  have fc : ∀ (i : Nat) {q : He.Fa}, faL[i]? = some q → q.ok K = true := fun i q e => cd.facts (List.mem_append_right _ (List.mem_of_getElem? e))
  have bi : Bi mg := bi_of (fa := fa) X G (fun q hq => cd.facts hq) fun q hq => List.mem_append_left _ hq
  obtain ⟨d__law_near, F__law_near⟩ := cd.def_ 0 (d := dfn "_law_near" 50) rfl
  have F__law_near : FnP K "_law_near" (top 50) (He.ga K "_law_near") d__law_near := F__law_near
  have g__law_near : mg "_law_near" = some (.ref (He.ga K "_law_near")) := He.glo_ok X G (fc 0 rfl)
  obtain ⟨d__law_ties, F__law_ties⟩ := cd.def_ 1 (d := dfn "_law_ties" 51) rfl
  have F__law_ties : FnP K "_law_ties" (top 51) (He.ga K "_law_ties") d__law_ties := F__law_ties
  have g__law_ties : mg "_law_ties" = some (.ref (He.ga K "_law_ties")) := He.glo_ok X G (fc 1 rfl)
  obtain ⟨d__law_contrary, F__law_contrary⟩ := cd.def_ 2 (d := dfn "_law_contrary" 52) rfl
  have F__law_contrary : FnP K "_law_contrary" (top 52) (He.ga K "_law_contrary") d__law_contrary := F__law_contrary
  have g__law_contrary : mg "_law_contrary" = some (.ref (He.ga K "_law_contrary")) := He.glo_ok X G (fc 2 rfl)
  obtain ⟨d__law_renamed, F__law_renamed⟩ := cd.def_ 3 (d := dfn "_law_renamed" 53) rfl
  have F__law_renamed : FnP K "_law_renamed" (top 53) (He.ga K "_law_renamed") d__law_renamed := F__law_renamed
  have g__law_renamed : mg "_law_renamed" = some (.ref (He.ga K "_law_renamed")) := He.glo_ok X G (fc 3 rfl)
  obtain ⟨d__law_graft, F__law_graft⟩ := cd.def_ 4 (d := dfn "_law_graft" 54) rfl
  have F__law_graft : FnP K "_law_graft" (top 54) (He.ga K "_law_graft") d__law_graft := F__law_graft
  have g__law_graft : mg "_law_graft" = some (.ref (He.ga K "_law_graft")) := He.glo_ok X G (fc 4 rfl)
  obtain ⟨d__law_path, F__law_path⟩ := cd.def_ 5 (d := dfn "_law_path" 55) rfl
  have F__law_path : FnP K "_law_path" (top 55) (He.ga K "_law_path") d__law_path := F__law_path
  have g__law_path : mg "_law_path" = some (.ref (He.ga K "_law_path")) := He.glo_ok X G (fc 5 rfl)
  obtain ⟨d__law_round, F__law_round⟩ := cd.def_ 6 (d := dfn "_law_round" 56) rfl
  have F__law_round : FnP K "_law_round" (top 56) (He.ga K "_law_round") d__law_round := F__law_round
  have g__law_round : mg "_law_round" = some (.ref (He.ga K "_law_round")) := He.glo_ok X G (fc 6 rfl)
  obtain ⟨d__law_any_ties, F__law_any_ties⟩ := cd.def_ 7 (d := dfn "_law_any_ties" 58) rfl
  have F__law_any_ties : FnP K "_law_any_ties" (top 58) (He.ga K "_law_any_ties") d__law_any_ties := F__law_any_ties
  have g__law_any_ties : mg "_law_any_ties" = some (.ref (He.ga K "_law_any_ties")) := He.glo_ok X G (fc 7 rfl)
  obtain ⟨d__law_row, F__law_row⟩ := cd.def_ 8 (d := dfn "_law_row" 48) rfl
  have F__law_row : FnP K "_law_row" (top 48) (He.ga K "_law_row") d__law_row := F__law_row
  have g__law_row : mg "_law_row" = some (.ref (He.ga K "_law_row")) := He.glo_ok X G (fc 8 rfl)
  obtain ⟨d__law_agree, F__law_agree⟩ := cd.def_ 9 (d := dfn "_law_agree" 57) rfl
  have F__law_agree : FnP K "_law_agree" (top 57) (He.ga K "_law_agree") d__law_agree := F__law_agree
  have g__law_agree : mg "_law_agree" = some (.ref (He.ga K "_law_agree")) := He.glo_ok X G (fc 9 rfl)
  obtain ⟨d_is_whole, F_is_whole⟩ := cd.def_ 10 (d := dfn "is_whole" 9) rfl
  have F_is_whole : FnP K "is_whole" (top 9) (He.ga K "is_whole") d_is_whole := F_is_whole
  have g_is_whole : mg "is_whole" = some (.ref (He.ga K "is_whole")) := He.glo_ok X G (fc 10 rfl)
  obtain ⟨d_is_thing, F_is_thing⟩ := cd.def_ 11 (d := dfn "is_thing" 10) rfl
  have F_is_thing : FnP K "is_thing" (top 10) (He.ga K "is_thing") d_is_thing := F_is_thing
  have g_is_thing : mg "is_thing" = some (.ref (He.ga K "is_thing")) := He.glo_ok X G (fc 11 rfl)
  obtain ⟨d_is_several, F_is_several⟩ := cd.def_ 12 (d := dfn "is_several" 11) rfl
  have F_is_several : FnP K "is_several" (top 11) (He.ga K "is_several") d_is_several := F_is_several
  have g_is_several : mg "is_several" = some (.ref (He.ga K "is_several")) := He.glo_ok X G (fc 12 rfl)
  obtain ⟨d_is_pair, F_is_pair⟩ := cd.def_ 13 (d := dfn "is_pair" 12) rfl
  have F_is_pair : FnP K "is_pair" (top 12) (He.ga K "is_pair") d_is_pair := F_is_pair
  have g_is_pair : mg "is_pair" = some (.ref (He.ga K "is_pair")) := He.glo_ok X G (fc 13 rfl)
  obtain ⟨d_least_in, F_least_in⟩ := cd.def_ 14 (d := dfn "least_in" 21) rfl
  have F_least_in : FnP K "least_in" (top 21) (He.ga K "least_in") d_least_in := F_least_in
  have g_least_in : mg "least_in" = some (.ref (He.ga K "least_in")) := He.glo_ok X G (fc 14 rfl)
  obtain ⟨d_things_in, F_things_in⟩ := cd.def_ 15 (d := dfn "things_in" 20) rfl
  have F_things_in : FnP K "things_in" (top 20) (He.ga K "things_in") d_things_in := F_things_in
  have g_things_in : mg "things_in" = some (.ref (He.ga K "things_in")) := He.glo_ok X G (fc 15 rfl)
  obtain ⟨d_has_thing, F_has_thing⟩ := cd.def_ 16 (d := dfn "has_thing" 22) rfl
  have F_has_thing : FnP K "has_thing" (top 22) (He.ga K "has_thing") d_has_thing := F_has_thing
  have g_has_thing : mg "has_thing" = some (.ref (He.ga K "has_thing")) := He.glo_ok X G (fc 16 rfl)
  obtain ⟨d_masks_of_pairs, F_masks_of_pairs⟩ := cd.def_ 17 (d := dfn "masks_of_pairs" 23) rfl
  have F_masks_of_pairs : FnP K "masks_of_pairs" (top 23) (He.ga K "masks_of_pairs") d_masks_of_pairs := F_masks_of_pairs
  have g_masks_of_pairs : mg "masks_of_pairs" = some (.ref (He.ga K "masks_of_pairs")) := He.glo_ok X G (fc 17 rfl)
  obtain ⟨d_pair_of, F_pair_of⟩ := cd.def_ 18 (d := dfn "pair_of" 14) rfl
  have F_pair_of : FnP K "pair_of" (top 14) (He.ga K "pair_of") d_pair_of := F_pair_of
  have g_pair_of : mg "pair_of" = some (.ref (He.ga K "pair_of")) := He.glo_ok X G (fc 18 rfl)
  obtain ⟨d_pairs_of, F_pairs_of⟩ := cd.def_ 19 (d := dfn "pairs_of" 16) rfl
  have F_pairs_of : FnP K "pairs_of" (top 16) (He.ga K "pairs_of") d_pairs_of := F_pairs_of
  have g_pairs_of : mg "pairs_of" = some (.ref (He.ga K "pairs_of")) := He.glo_ok X G (fc 19 rfl)
  obtain ⟨d_ties_of, F_ties_of⟩ := cd.def_ 20 (d := dfn "ties_of" 15) rfl
  have F_ties_of : FnP K "ties_of" (top 15) (He.ga K "ties_of") d_ties_of := F_ties_of
  have g_ties_of : mg "ties_of" = some (.ref (He.ga K "ties_of")) := He.glo_ok X G (fc 20 rfl)
  obtain ⟨d_number_of_kind, F_number_of_kind⟩ := cd.def_ 21 (d := dfn "number_of_kind" 17) rfl
  have F_number_of_kind : FnP K "number_of_kind" (top 17) (He.ga K "number_of_kind") d_number_of_kind := F_number_of_kind
  have g_number_of_kind : mg "number_of_kind" = some (.ref (He.ga K "number_of_kind")) := He.glo_ok X G (fc 21 rfl)
  obtain ⟨d_check_tied, F_check_tied⟩ := cd.def_ 22 (d := dfn "check_tied" 26) rfl
  have F_check_tied : FnP K "check_tied" (top 26) (He.ga K "check_tied") d_check_tied := F_check_tied
  have g_check_tied : mg "check_tied" = some (.ref (He.ga K "check_tied")) := He.glo_ok X G (fc 22 rfl)
  obtain ⟨d_arrow_of, F_arrow_of⟩ := cd.def_ 23 (d := dfn "arrow_of" 27) rfl
  have F_arrow_of : FnP K "arrow_of" (top 27) (He.ga K "arrow_of") d_arrow_of := F_arrow_of
  have g_arrow_of : mg "arrow_of" = some (.ref (He.ga K "arrow_of")) := He.glo_ok X G (fc 23 rfl)
  obtain ⟨d_two_arrows_of, F_two_arrows_of⟩ := cd.def_ 24 (d := dfn "two_arrows_of" 28) rfl
  have F_two_arrows_of : FnP K "two_arrows_of" (top 28) (He.ga K "two_arrows_of") d_two_arrows_of := F_two_arrows_of
  have g_two_arrows_of : mg "two_arrows_of" = some (.ref (He.ga K "two_arrows_of")) := He.glo_ok X G (fc 24 rfl)
  obtain ⟨d_forced_from, F_forced_from⟩ := cd.def_ 25 (d := dfn "forced_from" 29) rfl
  have F_forced_from : FnP K "forced_from" (top 29) (He.ga K "forced_from") d_forced_from := F_forced_from
  have g_forced_from : mg "forced_from" = some (.ref (He.ga K "forced_from")) := He.glo_ok X G (fc 25 rfl)
  obtain ⟨d__law_int, F__law_int⟩ := cd.def_ 26 (d := dfn "_law_int" 59) rfl
  have F__law_int : FnP K "_law_int" (top 59) (He.ga K "_law_int") d__law_int := F__law_int
  have g__law_int : mg "_law_int" = some (.ref (He.ga K "_law_int")) := He.glo_ok X G (fc 26 rfl)
  obtain ⟨d__law_ints, F__law_ints⟩ := cd.def_ 27 (d := dfn "_law_ints" 60) rfl
  have F__law_ints : FnP K "_law_ints" (top 60) (He.ga K "_law_ints") d__law_ints := F__law_ints
  have g__law_ints : mg "_law_ints" = some (.ref (He.ga K "_law_ints")) := He.glo_ok X G (fc 27 rfl)
  obtain ⟨d__law_pairs, F__law_pairs⟩ := cd.def_ 28 (d := dfn "_law_pairs" 62) rfl
  have F__law_pairs : FnP K "_law_pairs" (top 62) (He.ga K "_law_pairs") d__law_pairs := F__law_pairs
  have g__law_pairs : mg "_law_pairs" = some (.ref (He.ga K "_law_pairs")) := He.glo_ok X G (fc 28 rfl)
  obtain ⟨d__law_steps, F__law_steps⟩ := cd.def_ 29 (d := dfn "_law_steps" 63) rfl
  have F__law_steps : FnP K "_law_steps" (top 63) (He.ga K "_law_steps") d__law_steps := F__law_steps
  have g__law_steps : mg "_law_steps" = some (.ref (He.ga K "_law_steps")) := He.glo_ok X G (fc 29 rfl)
  obtain ⟨d__law_take, F__law_take⟩ := cd.def_ 30 (d := dfn "_law_take" 47) rfl
  have F__law_take : FnP K "_law_take" (top 47) (He.ga K "_law_take") d__law_take := F__law_take
  have g__law_take : mg "_law_take" = some (.ref (He.ga K "_law_take")) := He.glo_ok X G (fc 30 rfl)
  obtain ⟨d_class_from, F_class_from⟩ := cd.def_ 31 (d := dfn "class_from" 31) rfl
  have F_class_from : FnP K "class_from" (top 31) (He.ga K "class_from") d_class_from := F_class_from
  have g_class_from : mg "class_from" = some (.ref (He.ga K "class_from")) := He.glo_ok X G (fc 31 rfl)
  obtain ⟨d_class_of, F_class_of⟩ := cd.def_ 32 (d := dfn "class_of" 34) rfl
  have F_class_of : FnP K "class_of" (top 34) (He.ga K "class_of") d_class_of := F_class_of
  have g_class_of : mg "class_of" = some (.ref (He.ga K "class_of")) := He.glo_ok X G (fc 32 rfl)
  obtain ⟨d_same_class, F_same_class⟩ := cd.def_ 33 (d := dfn "same_class" 36) rfl
  have F_same_class : FnP K "same_class" (top 36) (He.ga K "same_class") d_same_class := F_same_class
  have g_same_class : mg "same_class" = some (.ref (He.ga K "same_class")) := He.glo_ok X G (fc 33 rfl)
  obtain ⟨d_classes, F_classes⟩ := cd.def_ 34 (d := dfn "classes" 35) rfl
  have F_classes : FnP K "classes" (top 35) (He.ga K "classes") d_classes := F_classes
  have g_classes : mg "classes" = some (.ref (He.ga K "classes")) := He.glo_ok X G (fc 34 rfl)
  obtain ⟨d__law_class, F__law_class⟩ := cd.def_ 35 (d := dfn "_law_class" 64) rfl
  have F__law_class : FnP K "_law_class" (top 64) (He.ga K "_law_class") d__law_class := F__law_class
  have g__law_class : mg "_law_class" = some (.ref (He.ga K "_law_class")) := He.glo_ok X G (fc 35 rfl)
  obtain ⟨d__law_with_all, F__law_with_all⟩ := cd.def_ 36 (d := dfn "_law_with_all" 66) rfl
  have F__law_with_all : FnP K "_law_with_all" (top 66) (He.ga K "_law_with_all") d__law_with_all := F__law_with_all
  have g__law_with_all : mg "_law_with_all" = some (.ref (He.ga K "_law_with_all")) := He.glo_ok X G (fc 36 rfl)
  obtain ⟨d__law_homes, F__law_homes⟩ := cd.def_ 37 (d := dfn "_law_homes" 67) rfl
  have F__law_homes : FnP K "_law_homes" (top 67) (He.ga K "_law_homes") d__law_homes := F__law_homes
  have g__law_homes : mg "_law_homes" = some (.ref (He.ga K "_law_homes")) := He.glo_ok X G (fc 37 rfl)
  obtain ⟨d__law_one_triangle, F__law_one_triangle⟩ := cd.def_ 38 (d := dfn "_law_one_triangle" 68) rfl
  have F__law_one_triangle : FnP K "_law_one_triangle" (top 68) (He.ga K "_law_one_triangle") d__law_one_triangle := F__law_one_triangle
  have g__law_one_triangle : mg "_law_one_triangle" = some (.ref (He.ga K "_law_one_triangle")) := He.glo_ok X G (fc 38 rfl)
  obtain ⟨d__law_drawn, F__law_drawn⟩ := cd.def_ 39 (d := dfn "_law_drawn" 65) rfl
  have F__law_drawn : FnP K "_law_drawn" (top 65) (He.ga K "_law_drawn") d__law_drawn := F__law_drawn
  have g__law_drawn : mg "_law_drawn" = some (.ref (He.ga K "_law_drawn")) := He.glo_ok X G (fc 39 rfl)
  obtain ⟨d__law_lot, F__law_lot⟩ := cd.def_ 40 (d := dfn "_law_lot" 61) rfl
  have F__law_lot : FnP K "_law_lot" (top 61) (He.ga K "_law_lot") d__law_lot := F__law_lot
  have g__law_lot : mg "_law_lot" = some (.ref (He.ga K "_law_lot")) := He.glo_ok X G (fc 40 rfl)
  obtain ⟨d__law_drawn_triangle, F__law_drawn_triangle⟩ := cd.def_ 41 (d := dfn "_law_drawn_triangle" 69) rfl
  have F__law_drawn_triangle : FnP K "_law_drawn_triangle" (top 69) (He.ga K "_law_drawn_triangle") d__law_drawn_triangle := F__law_drawn_triangle
  have g__law_drawn_triangle : mg "_law_drawn_triangle" = some (.ref (He.ga K "_law_drawn_triangle")) := He.glo_ok X G (fc 41 rfl)
  obtain ⟨d_ties_of_arrows, F_ties_of_arrows⟩ := cd.def_ 42 (d := dfn "ties_of_arrows" 32) rfl
  have F_ties_of_arrows : FnP K "ties_of_arrows" (top 32) (He.ga K "ties_of_arrows") d_ties_of_arrows := F_ties_of_arrows
  have g_ties_of_arrows : mg "ties_of_arrows" = some (.ref (He.ga K "ties_of_arrows")) := He.glo_ok X G (fc 42 rfl)
  obtain ⟨d_ends_of, F_ends_of⟩ := cd.def_ 43 (d := dfn "ends_of" 33) rfl
  have F_ends_of : FnP K "ends_of" (top 33) (He.ga K "ends_of") d_ends_of := F_ends_of
  have g_ends_of : mg "ends_of" = some (.ref (He.ga K "ends_of")) := He.glo_ok X G (fc 43 rfl)
  obtain ⟨d_colour_of, F_colour_of⟩ := cd.def_ 44 (d := dfn "colour_of" 37) rfl
  have F_colour_of : FnP K "colour_of" (top 37) (He.ga K "colour_of") d_colour_of := F_colour_of
  have g_colour_of : mg "colour_of" = some (.ref (He.ga K "colour_of")) := He.glo_ok X G (fc 44 rfl)
  obtain ⟨d_touched, F_touched⟩ := cd.def_ 45 (d := dfn "touched" 38) rfl
  have F_touched : FnP K "touched" (top 38) (He.ga K "touched") d_touched := F_touched
  have g_touched : mg "touched" = some (.ref (He.ga K "touched")) := He.glo_ok X G (fc 45 rfl)
  obtain ⟨d__law_blank, F__law_blank⟩ := cd.def_ 46 (d := dfn "_law_blank" 49) rfl
  have F__law_blank : FnP K "_law_blank" (top 49) (He.ga K "_law_blank") d__law_blank := F__law_blank
  have g__law_blank : mg "_law_blank" = some (.ref (He.ga K "_law_blank")) := He.glo_ok X G (fc 46 rfl)
  obtain ⟨d__law_draws, F__law_draws⟩ := cd.def_ 47 (d := dfn "_law_draws" 46) rfl
  have F__law_draws : FnP K "_law_draws" (top 46) (He.ga K "_law_draws") d__law_draws := F__law_draws
  have g__law_draws : mg "_law_draws" = some (.ref (He.ga K "_law_draws")) := He.glo_ok X G (fc 47 rfl)
  obtain ⟨d_law, F_law⟩ := cd.def_ 48 (d := dfn "law" 70) rfl
  have F_law : FnP K "law" (top 70) (He.ga K "law") d_law := F_law
  have g_law : mg "law" = some (.ref (He.ga K "law")) := He.glo_ok X G (fc 48 rfl)
  obtain ⟨d_dWebI, F_dWebI⟩ := cd.def_ 49 (d := dWebI) rfl
  obtain ⟨d_dBadI, F_dBadI⟩ := cd.def_ 50 (d := dBadI) rfl
  obtain ⟨d_dTiedI, F_dTiedI⟩ := cd.def_ 51 (d := dTiedI) rfl
  obtain ⟨xB, xT⟩ := Bool.and_eq_true_iff.mp hex
  obtain ⟨oB, fB⟩ := excB_ok xB
  obtain ⟨oT, fT⟩ := excB_ok xT
  have gWeb := He.glo_ok X G (fc 49 rfl)
  have gBad := He.glo_ok X G (fc 50 rfl)
  have gTied := He.glo_ok X G (fc 51 rfl)
  have most := He.int_ok X G (fc 52 rfl)
  have wc : WebC K (He.ga K "Web") := ⟨He.cls_ok (fc 53 rfl), He.noat_ok (fc 54 rfl), He.noat_ok (fc 55 rfl), He.noat_ok (fc 56 rfl)⟩
  have mk := He.mkr_ok (fc 57 rfl)
  have np := He.noat_ok (fc 58 rfl)
  have n1 := He.noat_ok (fc 59 rfl)
  have n2 := He.noat_ok (fc 60 rfl)
  obtain ⟨mB, mB2⟩ := He.ba (fc 61 rfl)
  obtain ⟨mT, mT2⟩ := He.ba (fc 62 rfl)
  have tB := eq_of_beq (He.ba mB2).1
  have tT := eq_of_beq (He.ba mT2).1
  have e := hfa.symm.trans g_law
  cases e
  refine ⟨d_law, fun s v => FunD.bindsA (ps := ["_law_script"]) F_law (fun _ _ _ _ _ _ us hl => match us, hl with | [_], _ => rfl) s [v] rfl, fun base _ _ => ?_⟩
  have a_x_BadPair := mk_badI (P := P) (w := w) (mg := mg) (base := base) F_dBadI gBad oB (He.eqO_ok mB) tB np
  have a_x_NotTied := mk_tiedI (P := P) (w := w) (mg := mg) (base := base) F_dTiedI gTied oT (He.eqO_ok mT) tT n1 n2
  have a_blank := mk_blank (P := P) (w := w) (base := base) F__law_blank g__law_blank bi
  have a_draws := mk_draws (P := P) (w := w) (base := base) F__law_draws g__law_draws bi
  have a_near := mk_near (P := P) (w := w) (base := base) (k := 1) F__law_near g__law_near (a_blank.mono (by omega))
  have a_ties := mk_ties (P := P) (w := w) (base := base) F__law_ties g__law_ties bi
  have a_contrary := mk_contrary (P := P) (w := w) (base := base) (k := 1) F__law_contrary g__law_contrary bi (a_blank.mono (by omega))
  have a_renamed := mk_renamed (P := P) (w := w) (base := base) (k := 1) F__law_renamed g__law_renamed bi (a_blank.mono (by omega))
  have a_graft := mk_graft (P := P) (w := w) (base := base) (k := 1) F__law_graft g__law_graft bi (a_blank.mono (by omega))
  have a_path := mk_path (P := P) (w := w) (base := base) (k := 2) F__law_path g__law_path bi (a_near.mono (by omega))
  have a_round := mk_round (P := P) (w := w) (base := base) (k := 2) F__law_round g__law_round bi (a_near.mono (by omega))
  have a_is_whole := mk_is_whole (P := P) (w := w) (base := base) F_is_whole g_is_whole bi
  have a_is_thing := mk_is_thing (P := P) (w := w) (base := base) (k := 1) F_is_thing g_is_thing (a_is_whole.mono (by omega))
  have a_is_several := mk_is_several (P := P) (w := w) (base := base) F_is_several g_is_several bi
  have a_is_pair := mk_is_pair (P := P) (w := w) (base := base) (k := 2) F_is_pair g_is_pair bi (a_is_several.mono (by omega)) (a_is_thing.mono (by omega))
  have a_least_in := mk_least_in (P := P) (w := w) (base := base) F_least_in g_least_in 
  have a_things_in := mk_things_in (P := P) (w := w) (base := base) (k := 1) F_things_in g_things_in bi (a_least_in.mono (by omega))
  have a_has_thing := mk_has_thing (P := P) (w := w) (base := base) F_has_thing g_has_thing 
  have a_masks_of_pairs := mk_masks_of_pairs (P := P) (w := w) (base := base) F_masks_of_pairs g_masks_of_pairs bi
  have a_pair_of := mk_pair_of (P := P) (w := w) (base := base) (k := 3) F_pair_of g_pair_of (a_is_pair.mono (by omega)) (a_x_BadPair.mono (by omega))
  have a_pairs_of := mk_pairs_of (P := P) (w := w) (base := base) (k := 3) F_pairs_of g_pairs_of bi (a_is_several.mono (by omega)) (a_is_pair.mono (by omega))
  have a_ties_of := mk_ties_of (P := P) (w := w) (base := base) (k := 4) F_ties_of g_ties_of bi (a_pairs_of.mono (by omega))
  have a_number := mk_number (P := P) (w := w) (base := base) (k := 1) F_number_of_kind g_number_of_kind (a_is_whole.mono (by omega))
  have a_check_tied := mk_check_tied (P := P) (w := w) (base := base) (k := 1) F_check_tied g_check_tied wc (a_has_thing.mono (by omega)) (a_x_NotTied.mono (by omega))
  have a_arrow_of := mk_arrow_of (P := P) (w := w) (base := base) (k := 5) F_arrow_of g_arrow_of wc (a_pair_of.mono (by omega)) (a_check_tied.mono (by omega))
  have a_two_arrows := mk_two_arrows (P := P) (w := w) (base := base) (k := 5) F_two_arrows_of g_two_arrows_of wc (a_pair_of.mono (by omega)) (a_check_tied.mono (by omega))
  have a_forced_from := mk_forced_from (P := P) (w := w) (base := base) (k := 2) F_forced_from g_forced_from wc (a_things_in.mono (by omega))
  have a_law_int := mk_law_int (P := P) (w := w) (base := base) F__law_int g__law_int bi
  have a_law_ints := mk_law_ints (P := P) (w := w) (base := base) (k := 1) F__law_ints g__law_ints bi (a_law_int.mono (by omega))
  have a_law_pairs := mk_law_pairs (P := P) (w := w) (base := base) (k := 2) F__law_pairs g__law_pairs bi (a_law_ints.mono (by omega))
  have a_law_steps := mk_law_steps (P := P) (w := w) (base := base) F__law_steps g__law_steps bi
  have a_take := mk_take (P := P) (w := w) (base := base) F__law_take g__law_take bi
  have a_class_from := mk_class_from (P := P) (w := w) (base := base) (k := 3) F_class_from g_class_from bi (a_forced_from.mono (by omega))
  have a_class_of := mk_class_of (P := P) (w := w) (base := base) (k := 6) F_class_of g_class_of (a_arrow_of.mono (by omega)) (a_class_from.mono (by omega))
  have a_same := mk_same (P := P) (w := w) (base := base) (k := 6) F_same_class g_same_class (a_two_arrows.mono (by omega)) (a_class_from.mono (by omega))
  have a_classes := mk_classes (P := P) (w := w) (base := base) (k := 4) F_classes g_classes bi wc (a_class_from.mono (by omega))
  have a_law_class := mk_law_class (P := P) (w := w) (base := base) (k := 1) F__law_class g__law_class bi (a_law_steps.mono (by omega))
  have a_with_all := mk_with_all (P := P) (w := w) (base := base) (k := 2) F__law_with_all g__law_with_all bi (a_near.mono (by omega)) (a_ties.mono (by omega))
  have a_homes := mk_homes (P := P) (w := w) (base := base) (k := 3) F__law_homes g__law_homes bi (a_law_pairs.mono (by omega)) (a_ties.mono (by omega))
  have a_one_tri := mk_one_tri (P := P) (w := w) (base := base) (k := 0) F__law_one_triangle g__law_one_triangle bi
  have a_law_lot := mk_law_lot (P := P) (w := w) (base := base) (k := 2) F__law_lot g__law_lot bi (a_law_ints.mono (by omega))
  have a_ties_a := mk_ties_a (P := P) (w := w) (base := base) (k := 0) F_ties_of_arrows g_ties_of_arrows bi
  have a_ends := mk_ends (P := P) (w := w) (base := base) F_ends_of g_ends_of bi
  have a_colour := mk_colour (P := P) (w := w) (base := base) (k := 7) F_colour_of g_colour_of (a_class_of.mono (by omega)) (a_ties_a.mono (by omega))
  have a_touched := mk_touched (P := P) (w := w) (base := base) (k := 8) F_touched g_touched (a_colour.mono (by omega)) (a_ends.mono (by omega))
  have a_webI := mk_webI (P := P) (w := w) (base := base) (k := 6) F_dWebI gWeb mk bi wc most (a_number.mono (by omega)) (a_ties_of.mono (by omega)) (a_masks_of_pairs.mono (by omega))
  have a_any := mk_any (P := P) (w := w) (base := base) (k := 3) F__law_any_ties g__law_any_ties ⟨bi, (a_take.mono (by omega)), (a_blank.mono (by omega)), (a_near.mono (by omega)), (a_contrary.mono (by omega)), (a_graft.mono (by omega)), (a_path.mono (by omega)), (a_round.mono (by omega))⟩
  have a_row := mk_row (P := P) (w := w) (base := base) (k := 1) F__law_row g__law_row bi (a_take.mono (by omega))
  have a_agree := mk_agree (P := P) (w := w) (base := base) (k := 3) F__law_agree g__law_agree ⟨bi, (a_take.mono (by omega)), (a_blank.mono (by omega)), (a_near.mono (by omega)), (a_contrary.mono (by omega)), (a_graft.mono (by omega)), (a_path.mono (by omega)), (a_round.mono (by omega))⟩
  have a_drawn := mk_drawn (P := P) (w := w) (base := base) (k := 4) F__law_drawn g__law_drawn ⟨⟨bi, (a_take.mono (by omega)), (a_blank.mono (by omega)), (a_near.mono (by omega)), (a_contrary.mono (by omega)), (a_graft.mono (by omega)), (a_path.mono (by omega)), (a_round.mono (by omega))⟩, (a_row.mono (by omega)), (a_agree.mono (by omega)), (a_any.mono (by omega)), (a_renamed.mono (by omega))⟩
  have a_drawn_tri := mk_drawn_tri (P := P) (w := w) (base := base) (k := 9) F__law_drawn_triangle g__law_drawn_triangle ⟨bi, (a_take.mono (by omega)), (a_same.mono (by omega)), (a_law_class.mono (by omega)), (a_touched.mono (by omega)), (a_law_lot.mono (by omega))⟩
  obtain ⟨fD, fdD, psD, q1, q2, q3, q4⟩ := a_draws.ex
  exact cx0_of (mk_law (k := 10) F_law ⟨bi, ⟨fD, fdD, psD, q1, q2, q3, q4.mono (by omega)⟩, (a_drawn.mono (by omega)), (a_take.mono (by omega)), (a_contrary.mono (by omega)), (a_with_all.mono (by omega)), (a_ties.mono (by omega)), (a_webI.mono (by omega)), (a_classes.mono (by omega)), (a_homes.mono (by omega)), (a_one_tri.mono (by omega)), (a_drawn_tri.mono (by omega)), (a_class_of.mono (by omega)), (a_law_class.mono (by omega))⟩) fun vs H Q E E' h => h
end OB
set_option Elab.async false
set_option linter.all false
set_option maxRecDepth 100000
set_option maxHeartbeats 0
open PySem PySem.W PySem.Calls PyProof.Rows
theorem PySem.Challenge.cw_ordersbehind_k10_whole_triangle_step_holds : PySem.Challenge.rw_ordersbehind_k10_whole_triangle_step.Holds := by
  w_on; o_law
  refine HandSHeadRun.head_any (r := OpenLaw.row PySem.Challenge.rw_ordersbehind_k10_whole_triangle_step) (q := view (OpenLaw.row PySem.Challenge.rw_ordersbehind_k10_whole_triangle_step).prog [70]) (H := OB.hk) (ob := OB.ob) (M := 20000) (loose := OB.looseA ++ OB.looseB) (d := HandSHeadRun.topDef (OpenLaw.row PySem.Challenge.rw_ordersbehind_k10_whole_triangle_step).prog 70) (kwd := []) OB.ob_eq
    (by kernel_rfl) (fun s => by kernel_rfl) OB.run (by kernel_rfl) (by kernel_rfl) (by kernel_rfl) (by rfl) (by first | assumption | decide +kernel) (by decide +kernel) ⟨rfl, rfl, rfl, rfl, rfl, by decide +kernel⟩ ?hw ?hc
  case hw => w_witness2
  case hc =>
    refine L2.walk_ofE (l := PySem.Challenge.rw_ordersbehind_k10_whole_triangle_step) (n := 63) (k := 12) (x := "_law_script") (CX := L2.CX0) rfl (by decide) (by kernel_rfl) ⟨rfl, by decide, by decide⟩ ?F (fun _ _ _ _ z => z)
    intro w mg fa h Y G hmg0
    obtain ⟨K, KX, c⟩ := Y
    have hmg : mg ("law" : PySem.Str) = some (.ref fa) := by
      have e : (HandSHeadRun.topDef (OpenLaw.row PySem.Challenge.rw_ordersbehind_k10_whole_triangle_step).prog 70).name = ("law" : PySem.Str) := by kernel_rfl
      rw [← e]
      exact hmg0
    obtain ⟨fd, hb, hF⟩ := OB.facts (P := (PySem.Challenge.rw_ordersbehind_k10_whole_triangle_step).prog) (w := w) KX G hmg c
    exact ⟨K, fd, OB.spLaw K, KX, hb, fun H a ns hl _ hS => ⟨a, ns, rfl, hS, hl, fun _ => rfl⟩, hF⟩
