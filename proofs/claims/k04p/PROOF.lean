import PyProof.Rows.All
import Wide.All
import OpenK.AllK
import Wide.FinOn
import HandS.ForMost
import HandS.Evl
import HandS.Deep
import HandS.IsInst
import HandS.WideBits
import HandS.Exc
import HandS.ExcOwn
import HandS.ExcInit
import HandS.WordsExc
import HandS.Iter
import HandS.SortRule
import HandS.Conv
import HandS.TupAny
import HandS.SortInts
import HandS.ExcField
import HandS.TryMany
import KE.DatumOrd
import HandS.Text
import HandS.HeadHook4
import HandS.HeadEnd
import HandS.Head2
import PySem.Challenge.RW_ordersbehind_k04_forced_in_one_step
set_option Elab.async false
set_option linter.all false
set_option maxRecDepth 100000
set_option maxHeartbeats 4000000
namespace OB
open PySem PySem.Spec PyProof.Rows L2
abbrev Ex := Evl.Ex

/-! ### data -/
inductive D where
  | non | bl (b : Bool) | int (i : Int) | str (x : PySem.Str)
  | lst (l : List D) | tup (l : List D)
  | ins (C : Addr) (fs : List (PySem.Str × D))
  | drw

/-- the list of draws, whatever its ints -/
def drawsHO (a : Addr) : HO := .ext fun h => ∃ (ns : List Int) (its : List Value) (n : Nat), Vals (ns.map V.int) its ∧ ns.length ≤ sizeLine ∧ h.get? a = some { cls := .type "list", data := .seq its.toArray n }

mutual
inductive Is (K : PySem.W.Frag) (B : Hp) : V → D → Prop
  | non : Is K B .non .non
  | bl (b : Bool) : Is K B (.bl b) (.bl b)
  | int (i : Int) : Is K B (.int i) (.int i)
  | str (x : PySem.Str) : Is K B (.str x) (.str x)
  | lst {a : Addr} {xs : List V} {l : List D} : B a = some (.lst xs) → IsAll K B xs l → Is K B (.ref a) (.lst l)
  | tup {a : Addr} {xs : List V} {l : List D} : B a = some (.tup xs) → IsAll K B xs l → Is K B (.ref a) (.tup l)
  | ins {a C dx : Addr} {vs : List (PySem.Str × V)} {fs : List (PySem.Str × D)} : B a = some (.ins C dx vs) → IsFs K B vs fs → Is K B (.ref a) (.ins C fs)
  | drw {a : Addr} : B a = some (drawsHO a) → Is K B (.ref a) .drw
inductive IsAll (K : PySem.W.Frag) (B : Hp) : List V → List D → Prop
  | nil : IsAll K B [] []
  | cons {v : V} {vs : List V} {d : D} {ds : List D} : Is K B v d → IsAll K B vs ds → IsAll K B (v :: vs) (d :: ds)
inductive IsFs (K : PySem.W.Frag) (B : Hp) : List (PySem.Str × V) → List (PySem.Str × D) → Prop
  | nil : IsFs K B [] []
  | cons {f : PySem.Str} {v : V} {vs : List (PySem.Str × V)} {d : D} {fs : List (PySem.Str × D)} : Is K B v d → IsFs K B vs fs → IsFs K B ((f, v) :: vs) ((f, d) :: fs)
end
section
variable {K : PySem.W.Frag} {B B' : Hp}
mutual
theorem Is.mono (e : Ex B B') : ∀ (d : D) (v : V), Is K B v d → Is K B' v d
  | .non, _, h => by cases h; exact .non
  | .bl b, _, h => by cases h; exact .bl b
  | .int b, _, h => by cases h; exact .int b
  | .str b, _, h => by cases h; exact .str b
  | .lst l, _, h => by
    cases h with
    | lst hs ha => exact .lst (e _ _ hs) (IsAll.mono e l _ ha)
  | .tup l, _, h => by
    cases h with
    | tup hs ha => exact .tup (e _ _ hs) (IsAll.mono e l _ ha)
  | .ins C fs, _, h => by
    cases h with
    | ins hs ha => exact .ins (e _ _ hs) (IsFs.mono e fs _ ha)
  | .drw, _, h => by
    cases h with
    | drw hs => exact .drw (e _ _ hs)
theorem IsAll.mono (e : Ex B B') : ∀ (ds : List D) (vs : List V), IsAll K B vs ds → IsAll K B' vs ds
  | [], _, h => by cases h; exact .nil
  | d :: ds, _, h => by
    cases h with
    | cons h1 h2 => exact .cons (Is.mono e d _ h1) (IsAll.mono e ds _ h2)
theorem IsFs.mono (e : Ex B B') : ∀ (fs : List (PySem.Str × D)) (vs : List (PySem.Str × V)), IsFs K B vs fs → IsFs K B' vs fs
  | [], _, h => by cases h; exact .nil
  | (f, d) :: fs, _, h => by
    cases h with
    | cons h1 h2 => exact .cons (Is.mono e d _ h1) (IsFs.mono e fs _ h2)
end
theorem IsAll.len : ∀ {ds : List D} {vs : List V}, IsAll K B vs ds → vs.length = ds.length
  | [], _, h => by cases h; rfl
  | d :: ds, _, h => by
    cases h with
    | cons h1 h2 => rw [List.length_cons, List.length_cons, IsAll.len h2]
theorem IsAll.get : ∀ {ds : List D} {vs : List V} {i : Nat} {d : D}, IsAll K B vs ds → ds[i]? = some d → ∃ v, vs[i]? = some v ∧ Is K B v d
  | [], _, i, d, h, e => by simp at e
  | d0 :: ds, _, 0, d, h, e => by
    cases h with
    | cons h1 h2 => simp at e; subst e; exact ⟨_, rfl, h1⟩
  | d0 :: ds, _, i + 1, d, h, e => by
    cases h with
    | cons h1 h2 => obtain ⟨v, q1, q2⟩ := IsAll.get (i := i) h2 (by simpa using e); exact ⟨v, by simpa using q1, q2⟩
theorem IsAll.got : ∀ {ds : List D} {vs : List V} {i : Nat} {v : V}, IsAll K B vs ds → vs[i]? = some v → ∃ d, ds[i]? = some d ∧ Is K B v d
  | [], _, i, d, h, e => by cases h; simp at e
  | d0 :: ds, _, 0, d, h, e => by
    cases h with
    | cons h1 h2 => simp at e; subst e; exact ⟨_, rfl, h1⟩
  | d0 :: ds, _, i + 1, d, h, e => by
    cases h with
    | cons h1 h2 => obtain ⟨v, q1, q2⟩ := IsAll.got (i := i) h2 (by simpa using e); exact ⟨v, by simpa using q1, q2⟩
theorem IsAll.app : ∀ {ds es : List D} {vs ws : List V}, IsAll K B vs ds → IsAll K B ws es → IsAll K B (vs ++ ws) (ds ++ es)
  | [], _, _, _, h, h' => by cases h; exact h'
  | d :: ds, _, _, _, h, h' => by
    cases h with
    | cons h1 h2 => exact .cons h1 (IsAll.app h2 h')
theorem IsAll.set : ∀ {ds : List D} {vs : List V} {i : Nat} {d : D} {v : V}, IsAll K B vs ds → Is K B v d → IsAll K B (vs.set i v) (ds.set i d)
  | [], _, i, d, v, h, e => by cases h; exact .nil
  | d0 :: ds, _, 0, d, v, h, e => by
    cases h with
    | cons h1 h2 => exact .cons e h2
  | d0 :: ds, _, i + 1, d, v, h, e => by
    cases h with
    | cons h1 h2 => exact .cons h1 (IsAll.set h2 e)
theorem IsFs.look : ∀ {fs : List (PySem.Str × D)} {vs : List (PySem.Str × V)} {f : PySem.Str} {d : D}, IsFs K B vs fs → fs.lookup f = some d → ∃ v, vs.lookup f = some v ∧ Is K B v d
  | [], _, f, d, h, e => by simp at e
  | (g, d0) :: fs, _, f, d, h, e => by
    cases h with
    | cons h1 h2 =>
      rw [List.lookup_cons] at e ⊢
      cases hb : f == g with
      | true => rw [hb] at e; simp at e; subst e; exact ⟨_, rfl, h1⟩
      | false => rw [hb] at e; exact IsFs.look h2 e
theorem IsFs.none_of : ∀ {fs : List (PySem.Str × D)} {vs : List (PySem.Str × V)} {f : PySem.Str}, IsFs K B vs fs → fs.lookup f = none → vs.lookup f = none
  | [], _, f, h, e => by cases h; rfl
  | (g, d0) :: fs, _, f, h, e => by
    cases h with
    | cons h1 h2 =>
      rw [List.lookup_cons] at e ⊢
      cases hb : f == g with
      | true => rw [hb] at e; simp at e
      | false => rw [hb] at e; exact IsFs.none_of h2 e
theorem IsFs.len : ∀ {ds : List (PySem.Str × D)} {vs : List (PySem.Str × V)}, IsFs K B vs ds → vs.length = ds.length
  | [], _, h => by cases h; rfl
  | d :: ds, _, h => by
    cases h with
    | cons h1 h2 => rw [List.length_cons, List.length_cons, IsFs.len h2]
end

/-! ### how the two heaps grow -/
structure Grow (B H B' H' : Hp) : Prop where
  b : Ex B B'
  h : Ex H H'
  bh : Ex B' H'
  fr : ∀ a, B' a ≠ none → B a ≠ none ∨ H a = none
section
variable {B H B' H' B'' H'' : Hp} {a : Addr}
theorem Grow.refl (e : Ex B H) : Grow B H B H := ⟨Evl.Ex.refl _, Evl.Ex.refl _, e, fun _ h => .inl h⟩
theorem Grow.trans (x : Grow B H B' H') (y : Grow B' H' B'' H'') : Grow B H B'' H'' := ⟨x.b.trans y.b, x.h.trans y.h, y.bh, fun a h => by
  rcases y.fr a h with q | q
  · exact x.fr a q
  · exact .inr (Evl.fresh_back x.h q)⟩
/-- what is not the base's but stands in the heap stays so -/
theorem Grow.out (x : Grow B H B' H') {o : HO} (h1 : B a = none) (h2 : H a = some o) : B' a = none := by
  cases q : B' a with
  | none => rfl
  | some u =>
    rcases x.fr a (by rw [q]; exact fun z => nomatch z) with z | z
    · exact absurd h1 z
    · rw [h2] at z; cases z
theorem Grow.up (e : Ex B H) (x : Ex H H') : Grow B H B H' := ⟨Evl.Ex.refl _, x, e.trans x, fun _ h => .inl h⟩
/-- a new object of the base -/
theorem Grow.new {p : Addr} {o : HO} (e : Ex B H) (hp : H p = none) : Grow B H (upd B p o) (upd H p o) := by
  have bp : B p = none := Evl.fresh_back e hp
  refine ⟨Evl.Ex.new bp, Evl.Ex.new hp, fun b u q => ?_, fun b q => ?_⟩
  · by_cases hb : b = p
    · subst hb; rw [upd_same] at q ⊢; exact q
    · rw [upd_ne hb] at q ⊢; exact e _ _ q
  · by_cases hb : b = p
    · subst hb; exact .inr hp
    · rw [upd_ne hb] at q; exact .inl q
end
/-- an owned object becomes the base's -/
theorem ex_join {B H : Hp} {p : Addr} {o : HO} (e : Ex B H) (hp : H p = some o) : Ex (upd B p o) H := fun b u q => by
  by_cases hb : b = p
  · subst hb; rw [upd_same] at q; rw [hp]; exact q
  · rw [upd_ne hb] at q; exact e _ _ q

/-! ### the state: slots and owned objects -/
inductive OV where
  | lst (l : List D)
  | ins (C dx : Addr) (fs : List (PySem.Str × D))
  | mat (rs : List Addr) (M : List (List D))
def fpt : Addr × OV → List Addr
  | (p, .lst _) => [p]
  | (p, .ins _ _ _) => [p]
  | (p, .mat rs _) => p :: rs
inductive Rows (K : PySem.W.Frag) (B H : Hp) : List Addr → List (List D) → Prop
  | nil : Rows K B H [] []
  | cons {r : Addr} {rs : List Addr} {xs : List V} {l : List D} {M : List (List D)} : H r = some (.lst xs) → IsAll K B xs l → Rows K B H rs M → Rows K B H (r :: rs) (l :: M)
def Own (K : PySem.W.Frag) (B H : Hp) : Addr × OV → Prop
  | (p, .lst l) => ∃ xs, H p = some (.lst xs) ∧ IsAll K B xs l
  | (p, .ins C dx fs) => ∃ vs, H p = some (.ins C dx vs) ∧ IsFs K B vs fs
  | (p, .mat rs M) => H p = some (.lst (rs.map V.ref)) ∧ Rows K B H rs M
theorem Rows.mono {K : PySem.W.Frag} {B H B' H' : Hp} (e : Ex B B') (e' : Ex H H') : ∀ {rs : List Addr} {M : List (List D)}, Rows K B H rs M → Rows K B' H' rs M
  | _, _, .nil => .nil
  | _, _, .cons h1 h2 h3 => .cons (e' _ _ h1) (IsAll.mono e _ _ h2) (Rows.mono e e' h3)
theorem Own.mono {K : PySem.W.Frag} {B H B' H' : Hp} (e : Ex B B') (e' : Ex H H') : ∀ {o : Addr × OV}, Own K B H o → Own K B' H' o
  | (p, .lst l), ⟨xs, h1, h2⟩ => ⟨xs, e' _ _ h1, IsAll.mono e _ _ h2⟩
  | (p, .ins C dx fs), ⟨xs, h1, h2⟩ => ⟨xs, e' _ _ h1, IsFs.mono e _ _ h2⟩
  | (p, .mat rs M), ⟨h1, h2⟩ => ⟨e' _ _ h1, h2.mono e e'⟩
theorem Rows.at {K : PySem.W.Frag} {B H : Hp} {a : Addr} : ∀ {rs : List Addr} {M : List (List D)}, Rows K B H rs M → a ∈ rs → ∃ o, H a = some o
  | _, _, .nil, h => by cases h
  | _, _, .cons h1 h2 h3, h => by
    rcases List.mem_cons.mp h with e | h
    · subst e; exact ⟨_, h1⟩
    · exact h3.at h
theorem Own.at {K : PySem.W.Frag} {B H : Hp} {a : Addr} : ∀ {o : Addr × OV}, Own K B H o → a ∈ fpt o → ∃ u, H a = some u
  | (p, .lst l), ⟨xs, h1, h2⟩, h => by
    have e : a = p := by simpa [fpt] using h
    subst e; exact ⟨_, h1⟩
  | (p, .ins C dx fs), ⟨xs, h1, h2⟩, h => by
    have e : a = p := by simpa [fpt] using h
    subst e; exact ⟨_, h1⟩
  | (p, .mat rs M), ⟨h1, h2⟩, h => by
    rcases List.mem_cons.mp (show a ∈ p :: rs from h) with e | h
    · subst e; exact ⟨_, h1⟩
    · exact h2.at h

inductive SD where
  | un
  | d (d : D)
  | v (x : V)
def SlotOk (K : PySem.W.Frag) (B : Hp) : Option (Option V) → SD → Prop
  | _, .un => True
  | o, .d d => ∃ v, o = some (some v) ∧ Is K B v d
  | o, .v x => o = some (some x)
structure Slots (K : PySem.W.Frag) (B : Hp) (σ : L2.St) (sds : List SD) : Prop where
  len : σ.length = sds.length
  at' : ∀ (i : Nat) (sd : SD), sds[i]? = some sd → SlotOk K B σ[i]? sd
theorem SlotOk.mono {K : PySem.W.Frag} {B B' : Hp} (e : Ex B B') {o : Option (Option V)} : ∀ {sd : SD}, SlotOk K B o sd → SlotOk K B' o sd
  | .un, _ => trivial
  | .d d, ⟨v, h1, h2⟩ => ⟨v, h1, h2.mono e⟩
  | .v x, h => h
theorem Slots.mono {K : PySem.W.Frag} {B B' : Hp} {σ : L2.St} {sds : List SD} (e : Ex B B') (h : Slots K B σ sds) : Slots K B' σ sds := ⟨h.len, fun i sd q => (h.at' i sd q).mono e⟩
theorem Slots.set {K : PySem.W.Frag} {B : Hp} {σ : L2.St} {sds : List SD} (h : Slots K B σ sds) {i : Nat} {v : V} {sd : SD} (hs : SlotOk K B (some (some v)) sd) : Slots K B (σ.set i (some v)) (sds.set i sd) := by
  refine ⟨by rw [List.length_set, List.length_set, h.len], fun j s q => ?_⟩
  by_cases hj : i = j
  · subst hj
    have hl : i < sds.length := by
      have := (List.getElem?_eq_some_iff.mp q).1
      rwa [List.length_set] at this
    rw [List.getElem?_set_self hl] at q
    cases q
    rw [List.getElem?_set_self (by rw [h.len]; exact hl)]
    exact hs
  · rw [List.getElem?_set_ne hj] at q ⊢
    exact h.at' j s q
/-- a slot is forgotten -/
theorem Slots.forget {K : PySem.W.Frag} {B : Hp} {σ : L2.St} {sds : List SD} (h : Slots K B σ sds) {i : Nat} {o : Option V} : Slots K B (σ.set i o) (sds.set i .un) := by
  refine ⟨by rw [List.length_set, List.length_set, h.len], fun j s q => ?_⟩
  by_cases hj : i = j
  · subst hj
    have hl : i < sds.length := by
      have := (List.getElem?_eq_some_iff.mp q).1
      rwa [List.length_set] at this
    rw [List.getElem?_set_self hl] at q
    cases q
    trivial
  · rw [List.getElem?_set_ne hj] at q ⊢
    exact h.at' j s q

structure St (K : PySem.W.Frag) (B0 H0 B H : Hp) (σ : L2.St) (sds : List SD) (os : List (Addr × OV)) : Prop where
  g : Grow B0 H0 B H
  sl : Slots K B σ sds
  ow : ∀ e ∈ os, Own K B H e
  fr : ∀ a ∈ os.flatMap fpt, B a = none ∧ H0 a = none
  nd : (os.flatMap fpt).Nodup
section
variable {K : PySem.W.Frag} {B0 H0 B H B' H' : Hp} {σ : L2.St} {sds : List SD} {os : List (Addr × OV)}
theorem St.grow (s : St K B0 H0 B H σ sds os) (x : Grow B H B' H') : St K B0 H0 B' H' σ sds os := by
  refine ⟨s.g.trans x, s.sl.mono x.b, fun e he => (s.ow e he).mono x.b x.h, fun a ha => ⟨?_, (s.fr a ha).2⟩, s.nd⟩
  obtain ⟨e, he, hm⟩ := List.mem_flatMap.mp ha
  obtain ⟨u, hu⟩ := (s.ow e he).at hm
  exact x.out (s.fr a ha).1 hu
theorem St.set (s : St K B0 H0 B H σ sds os) {i : Nat} {v : V} {d : D} (h : Is K B v d) : St K B0 H0 B H (σ.set i (some v)) (sds.set i (.d d)) os := ⟨s.g, s.sl.set ⟨v, rfl, h⟩, s.ow, s.fr, s.nd⟩
theorem St.var (s : St K B0 H0 B H σ sds os) {i : Nat} {d : D} (h : sds[i]? = some (.d d)) : ∃ v, σ[i]? = some (some v) ∧ Is K B v d := s.sl.at' i _ h
theorem St.varV (s : St K B0 H0 B H σ sds os) {i : Nat} {x : V} (h : sds[i]? = some (.v x)) : σ[i]? = some (some x) := s.sl.at' i _ h
end

/-! ### runs as readings -/
section
variable (X : Cx)
structure wE (e : Expr) (σ : L2.St) (H : Hp) (Q : VK) : Prop where
  run : ∀ (pins : List (Addr × Obj)) (s : Shared), Inv X pins σ H s → wpAny (model X.prog X.w) X.A (eval e X.env) (EP X pins σ Q) X.xe s
structure wT (e : Expr) (σ : L2.St) (H : Hp) (Q : Bool → Hp → Prop) : Prop where
  run : ∀ (pins : List (Addr × Obj)) (s : Shared), Inv X pins σ H s → wpAny (model X.prog X.w) X.A (isTrue e X.env (eval e X.env)) (TP X pins σ Q) X.xe s
structure wW (e : Expr) (σ : L2.St) (H : Hp) (Q : Bool → Hp → Prop) : Prop where
  run : ∀ (whole : Sem Value) (pins : List (Addr × Obj)) (s : Shared), Inv X pins σ H s → wpAny (model X.prog X.w) X.A (isTrue e X.env whole) (TP X pins σ Q) X.xe s
structure wA (es : List Expr) (σ : L2.St) (H : Hp) (Q : List V → Hp → Prop) : Prop where
  run : ∀ (pos : Pos) (pins : List (Addr × Obj)) (s : Shared), Inv X pins σ H s → wpAny (model X.prog X.w) X.A (spliced (backTo pos (starEach es X.env))) (AP X pins σ Q) X.xe s
structure wS (st : Stmt) (D : Ends) (σ : L2.St) (H : Hp) : Prop where
  run : ∀ (pins : List (Addr × Obj)) (s : Shared), Inv X pins σ H s → wpAny (model X.prog X.w) X.A (exec st X.env) (SP X pins D) X.xe s
structure wSs (st : List Stmt) (D : Ends) (σ : L2.St) (H : Hp) : Prop where
  run : ∀ (pins : List (Addr × Obj)) (s : Shared), Inv X pins σ H s → wpAny (model X.prog X.w) X.A (execs st X.env) (SP X pins D) X.xe s
end
section
variable {X : Cx} {e : Expr} {es : List Expr} {st : Stmt} {sts : List Stmt} {σ : L2.St} {H : Hp}
theorem pe_w : PE X e (wE X e) := ⟨fun pins s _ _ _ I h => h.run pins s I⟩
theorem pt_w : PT X e (wT X e) := ⟨fun pins s _ _ _ I h => h.run pins s I⟩
theorem pw_w : PW X e (wW X e) := ⟨fun wh pins s _ _ _ I h => h.run wh pins s I⟩
theorem pa_w : PA X es (wA X es) := ⟨fun pos pins s _ _ _ I h => h.run pos pins s I⟩
theorem ps_w : PS X st (wS X st) := ⟨fun pins s _ _ _ I h => h.run pins s I⟩
theorem pss_w : PSs X sts (wSs X sts) := ⟨fun pins s _ _ _ I h => h.run pins s I⟩
theorem PE.to {t : TE} (h : PE X e t) {Q : VK} (q : t σ H Q) : wE X e σ H Q := ⟨fun pins s I => h.run pins s σ H Q I q⟩
theorem PT.to {t : TT} (h : PT X e t) {Q : Bool → Hp → Prop} (q : t σ H Q) : wT X e σ H Q := ⟨fun pins s I => h.run pins s σ H Q I q⟩
theorem PW.to {t : TT} (h : PW X e t) {Q : Bool → Hp → Prop} (q : t σ H Q) : wW X e σ H Q := ⟨fun wh pins s I => h.run wh pins s σ H Q I q⟩
theorem PA.to {t : TA} (h : PA X es t) {Q : List V → Hp → Prop} (q : t σ H Q) : wA X es σ H Q := ⟨fun pos pins s I => h.run pos pins s σ H Q I q⟩
theorem PS.to {t : TS} (h : PS X st t) {D : Ends} (q : t D σ H) : wS X st D σ H := ⟨fun pins s I => h.run pins s σ H D I q⟩
theorem PSs.to {t : TS} (h : PSs X sts t) {D : Ends} (q : t D σ H) : wSs X sts D σ H := ⟨fun pins s I => h.run pins s σ H D I q⟩
theorem wE.imp {Q Q' : VK} (h : wE X e σ H Q) (i : ∀ v H', Q v H' → Q' v H') : wE X e σ H Q' := ⟨fun pins s I => thn (h.run pins s I) fun _ _ ⟨v, H', I', r, q⟩ => ⟨v, H', I', r, i v H' q⟩⟩
theorem wT.imp {Q Q' : Bool → Hp → Prop} (h : wT X e σ H Q) (i : ∀ v H', Q v H' → Q' v H') : wT X e σ H Q' := ⟨fun pins s I => thn (h.run pins s I) fun _ _ ⟨H', I', q⟩ => ⟨H', I', i _ H' q⟩⟩
end

/-! ### data-level judgements -/
section
variable (X : Cx) (B0 H0 : Hp) (sds : List SD) (os : List (Addr × OV))
def EX (e : Expr) (P : D → Prop) : Prop := ∀ B H σ, St X.K B0 H0 B H σ sds os → ∀ Q : VK, (∀ v B' H' d, Grow B H B' H' → Is X.K B' v d → P d → Q v H') → wE X e σ H Q
/-- a new list -/
def EL (e : Expr) (P : List D → Prop) : Prop := ∀ B H σ, St X.K B0 H0 B H σ sds os → ∀ Q : VK, (∀ p xs B' H' l, Grow B H B' H' → H p = none → B' p = none → H' p = some (.lst xs) → IsAll X.K B' xs l → P l → Q (.ref p) H') → wE X e σ H Q
def TX (e : Expr) (P : Bool → Prop) : Prop := ∀ B H σ, St X.K B0 H0 B H σ sds os → ∀ Q : Bool → Hp → Prop, (∀ b B' H', Grow B H B' H' → P b → Q b H') → wT X e σ H Q
/-- a test within and, or -/
def WX (e : Expr) (P : Bool → Prop) : Prop := ∀ B H σ, St X.K B0 H0 B H σ sds os → ∀ Q : Bool → Hp → Prop, (∀ b B' H', Grow B H B' H' → P b → Q b H') → wW X e σ H Q
def EA (es : List Expr) (P : List D → Prop) : Prop := ∀ B H σ, St X.K B0 H0 B H σ sds os → ∀ Q : List V → Hp → Prop, (∀ vs B' H' ds, Grow B H B' H' → IsAll X.K B' vs ds → P ds → Q vs H') → wA X es σ H Q
end
structure DE where
  nx : List SD → List (Addr × OV) → Prop := fun _ _ => False
  rt : D → Prop := fun _ => False
  bk : List SD → List (Addr × OV) → Prop := fun _ _ => False
  ct : List SD → List (Addr × OV) → Prop := fun _ _ => False
def DE.ends (K : PySem.W.Frag) (B0 H0 A : Hp) (E : DE) : Ends where
  nx := fun σ H => ∃ B sds os, Ex A B ∧ St K B0 H0 B H σ sds os ∧ E.nx sds os
  rt := fun v H => ∃ B d, Ex A B ∧ Grow B0 H0 B H ∧ Is K B v d ∧ E.rt d
  bk := fun σ H => ∃ B sds os, Ex A B ∧ St K B0 H0 B H σ sds os ∧ E.bk sds os
  ct := fun σ H => ∃ B sds os, Ex A B ∧ St K B0 H0 B H σ sds os ∧ E.ct sds os
/-- the block run from such a state comes to such ends; A: what of the base is to be kept -/
def Go (X : Cx) (B0 H0 : Hp) (sds : List SD) (os : List (Addr × OV)) (E : DE) (sts : List Stmt) : Prop :=
  ∀ A B H σ, Ex A B → St X.K B0 H0 B H σ sds os → wSs X sts (E.ends X.K B0 H0 A) σ H
/-- one statement -/
def Go1 (X : Cx) (B0 H0 : Hp) (sds : List SD) (os : List (Addr × OV)) (E : DE) (st : Stmt) : Prop :=
  ∀ A B H σ, Ex A B → St X.K B0 H0 B H σ sds os → wS X st (E.ends X.K B0 H0 A) σ H

/-! ### the context: the names by slot, the scope -/
structure Ctx (X : Cx) (N : List PySem.Str) (S : Scope) : Prop where
  hN : X.N = N
  hS : X.env.scope = S
  nd : N.Nodup
  calm : X.calm = true
structure CtxD (X : Cx) (N : List PySem.Str) (S : Scope) : Prop extends Ctx X N S where
  fn : ∀ x, X.fn x = true
def visB (S : Scope) (x : PySem.Str) : Bool := match S.names.lookup x with
  | some .local => true
  | some .cell => true
  | some .free => true
  | _ => false
def locB (S : Scope) (x : PySem.Str) : Bool := match S.names.lookup x with
  | some .local => true
  | some .cell => true
  | _ => false
def glB (S : Scope) (x : PySem.Str) : Bool := match S.names.lookup x with
  | some .globalImplicit => true
  | _ => false
section
variable {X : Cx} {N : List PySem.Str} {S : Scope} {x : PySem.Str}
theorem Ctx.vis (c : Ctx X N S) (h : visB S x = true) : Vis X.env.scope x := by
  unfold visB at h
  rw [c.hS]
  unfold Vis
  split at h <;> first | (rename_i e; rw [e]; simp) | cases h
theorem Ctx.loc (c : Ctx X N S) (h : locB S x = true) : L2.Loc X.env.scope x := by
  unfold locB at h
  rw [c.hS]
  unfold L2.Loc
  split at h <;> first | (rename_i e; rw [e]; simp) | cases h
theorem CtxD.locf (c : CtxD X N S) : X.fn x = true ∨ X.env.scope.names.lookup x = some .local := .inl (c.fn x)
theorem Ctx.gl (c : Ctx X N S) (h : glB S x = true) : Gl X x := by
  unfold glB at h
  unfold Gl Env.kindOf
  rw [c.hS]
  split at h <;> first | (rename_i e; rw [e]) | cases h
end

/-! ### rules: expressions -/
section
variable {X : Cx} {N : List PySem.Str} {S : Scope} {B0 H0 : Hp} {sds : List SD} {os : List (Addr × OV)} {P : D → Prop} {pos : Pos}
theorem EX.imp {e : Expr} {P' : D → Prop} (h : EX X B0 H0 sds os e P) (i : ∀ d, P d → P' d) : EX X B0 H0 sds os e P' := fun B H σ s Q q => h B H σ s Q fun v B' H' d g hv hp => q v B' H' d g hv (i d hp)
theorem ex_var (c : Ctx X N S) (i : Nat) {x : PySem.Str} {d : D} (p : P d) (hs : sds[i]? = some (.d d) := by rfl) (hN : N[i]? = some x := by rfl) (hv : visB S x = true := by decide +kernel)
    (hd : (x == ("__debug__" : PySem.Str)) = false := by decide +kernel) (hcd : (x == ("__classdict__" : PySem.Str)) = false := by decide +kernel) : EX X B0 H0 sds os (.Name x pos) P := fun B H σ s Q q => by
  obtain ⟨v, e1, hi⟩ := s.var hs
  exact PE.to (pe_var (i := i) (by rw [c.hN]; exact hN) (c.vis hv) hd hcd) ⟨v, e1, q v B H d (Grow.refl s.g.bh) hi p⟩
theorem ex_int {i : Int} {j pos} (p : P (.int i)) : EX X B0 H0 sds os (.Constant (.int i) j pos) P := fun B H σ s Q q => PE.to pe_int (q _ B H _ (Grow.refl s.g.bh) (.int i) p)
theorem ex_bl {i : Bool} {j pos} (p : P (.bl i)) : EX X B0 H0 sds os (.Constant (.bool i) j pos) P := fun B H σ s Q q => PE.to pe_bl (q _ B H _ (Grow.refl s.g.bh) (.bl i) p)
theorem ex_str {i : PySem.Str} {j pos} (p : P (.str i)) : EX X B0 H0 sds os (.Constant (.str i) j pos) P := fun B H σ s Q q => PE.to pe_str (q _ B H _ (Grow.refl s.g.bh) (.str i) p)
theorem ex_non {j pos} (p : P .non) : EX X B0 H0 sds os (.Constant .none j pos) P := fun B H σ s Q q => PE.to pe_non (q _ B H _ (Grow.refl s.g.bh) .non p)
/-- what an operation on values makes of data -/
def OpD (K : PySem.W.Frag) (r : R2) (a b : D) (P : D → Prop) : Prop := ∀ B H v w, Ex B H → Is K B v a → Is K B w b → ∀ Q : VK, (∀ u B' H' d, Grow B H B' H' → Is K B' u d → P d → Q u H') → r v w H Q
theorem ex_bin {a b : Expr} {op : Operator} {r : R2} (ho : OpR X (binaryOp op) r) (h : EX X B0 H0 sds os a fun da => EX X B0 H0 sds os b fun db => OpD X.K r da db P) : EX X B0 H0 sds os (.BinOp a op b pos) P := fun B H σ s Q q =>
  PE.to (pe_op ho pe_w pe_w) (h B H σ s _ fun v B1 H1 d g1 i1 k => k B1 H1 σ (s.grow g1) _ fun w B2 H2 d' g2 i2 k2 => k2 B2 H2 v w g2.bh (i1.mono g2.b) i2 Q fun u B3 H3 d3 g3 i3 p3 => q u B3 H3 d3 ((g1.trans g2).trans g3) i3 p3)
theorem ex_cmp {a b : Expr} {op : CmpOp} {r : R2} (ho : OpR X (compareOp op) r) (hm : behindInMarks op b = false) (h : EX X B0 H0 sds os a fun da => EX X B0 H0 sds os b fun db => OpD X.K r da db P) : EX X B0 H0 sds os (.Compare a [op] [b] pos) P := fun B H σ s Q q =>
  PE.to (pe_cmpR ho pe_w pe_w hm) (h B H σ s _ fun v B1 H1 d g1 i1 k => k B1 H1 σ (s.grow g1) _ fun w B2 H2 d' g2 i2 k2 => k2 B2 H2 v w g2.bh (i1.mono g2.b) i2 Q fun u B3 H3 d3 g3 i3 p3 => q u B3 H3 d3 ((g1.trans g2).trans g3) i3 p3)
theorem opd_I0 {K : PySem.W.Frag} {g : Int → Int → V} {f : Int → Int → D} {i j : Int} (hg : ∀ B i j, Is K B (g i j) (f i j)) (p : P (f i j)) : OpD K (rI0 g) (.int i) (.int j) P := fun B H v w e h1 h2 Q q => by
  cases h1; cases h2
  exact ⟨i, j, rfl, rfl, q _ B H _ (Grow.refl e) (hg B i j) p⟩
theorem opd_I {K : PySem.W.Frag} {C : Int → Int → Prop} {g : Int → Int → V} {f : Int → Int → D} {i j : Int} (hg : ∀ B i j, Is K B (g i j) (f i j)) (c : C i j) (p : P (f i j)) : OpD K (rI C g) (.int i) (.int j) P := fun B H v w e h1 h2 Q q => by
  cases h1; cases h2
  exact ⟨i, j, rfl, rfl, c, q _ B H _ (Grow.refl e) (hg B i j) p⟩
end
end OB
set_option Elab.async false
set_option linter.all false
set_option maxRecDepth 100000
set_option maxHeartbeats 4000000
namespace OB
open PySem PySem.Spec PyProof.Rows L2
section
variable {X : Cx} {N : List PySem.Str} {S : Scope} {B0 H0 : Hp} {sds : List SD} {os : List (Addr × OV)} {P : D → Prop} {pos : Pos} {a b e : Expr} {es rest : List Expr}

/-! ### ints -/
theorem ex_addI (h : EX X B0 H0 sds os a fun da => ∃ i, da = .int i ∧ EX X B0 H0 sds os b fun db => ∃ j, db = .int j ∧ P (.int (i + j))) : EX X B0 H0 sds os (.BinOp a .Add b pos) P :=
  ex_bin op_add (h.imp fun _ ⟨i, e, k⟩ => k.imp fun _ ⟨j, e', p⟩ => by subst e; subst e'; exact opd_I0 (fun _ _ _ => .int _) p)
theorem ex_subI (h : EX X B0 H0 sds os a fun da => ∃ i, da = .int i ∧ EX X B0 H0 sds os b fun db => ∃ j, db = .int j ∧ P (.int (i - j))) : EX X B0 H0 sds os (.BinOp a .Sub b pos) P :=
  ex_bin op_sub (h.imp fun _ ⟨i, e, k⟩ => k.imp fun _ ⟨j, e', p⟩ => by subst e; subst e'; exact opd_I0 (fun _ _ _ => .int _) p)
theorem ex_mulI (h : EX X B0 H0 sds os a fun da => ∃ i, da = .int i ∧ EX X B0 H0 sds os b fun db => ∃ j, db = .int j ∧ CMul i j ∧ P (.int (i * j))) : EX X B0 H0 sds os (.BinOp a .Mult b pos) P :=
  ex_bin op_mul (h.imp fun _ ⟨i, e, k⟩ => k.imp fun _ ⟨j, e', c, p⟩ => by subst e; subst e'; exact opd_I (fun _ _ _ => .int _) c p)
theorem ex_modI (h : EX X B0 H0 sds os a fun da => ∃ i, da = .int i ∧ EX X B0 H0 sds os b fun db => ∃ j, db = .int j ∧ 0 < j ∧ P (.int (i % j))) : EX X B0 H0 sds os (.BinOp a .Mod b pos) P :=
  ex_bin op_mod (h.imp fun _ ⟨i, e, k⟩ => k.imp fun _ ⟨j, e', c, p⟩ => by subst e; subst e'; exact opd_I (fun _ _ _ => .int _) c p)
theorem ex_divI (h : EX X B0 H0 sds os a fun da => ∃ i, da = .int i ∧ EX X B0 H0 sds os b fun db => ∃ j, db = .int j ∧ CDiv i j ∧ P (.int (i / j))) : EX X B0 H0 sds os (.BinOp a .FloorDiv b pos) P :=
  ex_bin op_fdiv (h.imp fun _ ⟨i, e, k⟩ => k.imp fun _ ⟨j, e', c, p⟩ => by subst e; subst e'; exact opd_I (fun _ _ _ => .int _) c p)
theorem ex_shl (h : EX X B0 H0 sds os a fun da => ∃ i, da = .int i ∧ EX X B0 H0 sds os b fun db => ∃ j, db = .int j ∧ CPow i j ∧ P (.int (i * 2 ^ j.toNat))) : EX X B0 H0 sds os (.BinOp a .LShift b pos) P :=
  ex_bin op_shl (h.imp fun _ ⟨i, e, k⟩ => k.imp fun _ ⟨j, e', c, p⟩ => by subst e; subst e'; exact opd_I (fun _ _ _ => .int _) c p)
theorem ex_shr (h : EX X B0 H0 sds os a fun da => ∃ i, da = .int i ∧ EX X B0 H0 sds os b fun db => ∃ j, db = .int j ∧ 0 ≤ j ∧ P (.int (i / 2 ^ j.toNat))) : EX X B0 H0 sds os (.BinOp a .RShift b pos) P :=
  ex_bin op_shr (h.imp fun _ ⟨i, e, k⟩ => k.imp fun _ ⟨j, e', c, p⟩ => by subst e; subst e'; exact opd_I (fun _ _ _ => .int _) c p)
theorem ex_andI (h : EX X B0 H0 sds os a fun da => ∃ i, da = .int i ∧ EX X B0 H0 sds os b fun db => ∃ j, db = .int j ∧ P (.int (Builtin.bitAnd i j))) : EX X B0 H0 sds os (.BinOp a .BitAnd b pos) P :=
  ex_bin op_and (h.imp fun _ ⟨i, e, k⟩ => k.imp fun _ ⟨j, e', p⟩ => by subst e; subst e'; exact opd_I0 (fun _ _ _ => .int _) p)
theorem ex_orI (h : EX X B0 H0 sds os a fun da => ∃ i, da = .int i ∧ EX X B0 H0 sds os b fun db => ∃ j, db = .int j ∧ P (.int (Builtin.bitOr i j))) : EX X B0 H0 sds os (.BinOp a .BitOr b pos) P :=
  ex_bin op_or (h.imp fun _ ⟨i, e, k⟩ => k.imp fun _ ⟨j, e', p⟩ => by subst e; subst e'; exact opd_I0 (fun _ _ _ => .int _) p)
theorem ex_unI {op : UnaryOp} {g : Int → Int} (ho : UnR X (unaryOp op) (rU fun i => .int (g i))) (h : EX X B0 H0 sds os a fun da => ∃ i, da = .int i ∧ P (.int (g i))) : EX X B0 H0 sds os (.UnaryOp op a pos) P := fun B H σ s Q q =>
  PE.to (pe_un ho pe_w) (h B H σ s _ fun v B1 H1 d g1 i1 ⟨i, e, p⟩ => by
    subst e; cases i1
    exact ⟨i, rfl, q _ B1 H1 _ g1 (.int _) p⟩)
theorem ex_neg (h : EX X B0 H0 sds os a fun da => ∃ i, da = .int i ∧ P (.int (-i))) : EX X B0 H0 sds os (.UnaryOp .USub a pos) P := ex_unI un_neg h
theorem ex_inv (h : EX X B0 H0 sds os a fun da => ∃ i, da = .int i ∧ P (.int (Builtin.bitNot i))) : EX X B0 H0 sds os (.UnaryOp .Invert a pos) P := ex_unI un_inv h

/-! ### comparisons as values, as tests -/
/-- the answer of a comparison -/
def CmpD (K : PySem.W.Frag) (r : R2) (da db : D) (P : Bool → Prop) : Prop := OpD K r da db fun d => ∃ k, d = .bl k ∧ P k
theorem ex_cmpB {op : CmpOp} {r : R2} (ho : OpR X (compareOp op) r) (hm : behindInMarks op b = false) (h : EX X B0 H0 sds os a fun da => EX X B0 H0 sds os b fun db => CmpD X.K r da db fun k => P (.bl k)) : EX X B0 H0 sds os (.Compare a [op] [b] pos) P :=
  ex_cmp ho hm (h.imp fun _ k => k.imp fun _ c => fun B H v w e h1 h2 Q q => c B H v w e h1 h2 Q fun u B' H' d g i ⟨k, e', p⟩ => q u B' H' d g i (by subst e'; exact p))
theorem tx_cmp {op : CmpOp} {r : R2} {P : Bool → Prop} (ho : OpR X (compareOp op) r) (hm : behindInMarks op b = false) (h : EX X B0 H0 sds os a fun da => EX X B0 H0 sds os b fun db => CmpD X.K r da db P) : TX X B0 H0 sds os (.Compare a [op] [b] pos) P := fun B H σ s Q q =>
  PT.to (pt_cmpR ho pe_w pe_w hm) (h B H σ s _ fun v B1 H1 d g1 i1 k => k B1 H1 σ (s.grow g1) _ fun w B2 H2 d' g2 i2 k2 => k2 B2 H2 v w g2.bh (i1.mono g2.b) i2 _ fun u B3 H3 d3 g3 i3 ⟨c, e, p3⟩ => by
    subst e; cases i3
    exact ⟨c, rfl, q c B3 H3 ((g1.trans g2).trans g3) p3⟩)
theorem cmp_I0 {K : PySem.W.Frag} {g : Int → Int → Bool} {i j : Int} {P : Bool → Prop} (p : P (g i j)) : CmpD K (rI0 fun i j => .bl (g i j)) (.int i) (.int j) P := opd_I0 (fun _ _ _ => .bl _) ⟨_, rfl, p⟩
theorem cmp_eqI {K : PySem.W.Frag} {i j : Int} {P : Bool → Prop} (p : P (decide (i = j))) : CmpD K rEq (.int i) (.int j) P := fun B H v w e h1 h2 Q q => by
  cases h1; cases h2
  have e' : decide (V.int i = V.int j) = decide (i = j) := by rw [dec_int]; exact Bool.eq_iff_iff.mpr (by simp)
  exact ⟨rfl, by rw [e']; exact q _ B H _ (Grow.refl e) (.bl _) ⟨_, rfl, p⟩⟩
theorem cmp_neI {K : PySem.W.Frag} {i j : Int} {P : Bool → Prop} (p : P (!decide (i = j))) : CmpD K rNe (.int i) (.int j) P := fun B H v w e h1 h2 Q q => by
  cases h1; cases h2
  have e' : decide (V.int i = V.int j) = decide (i = j) := by rw [dec_int]; exact Bool.eq_iff_iff.mpr (by simp)
  exact ⟨rfl, by rw [e']; exact q _ B H _ (Grow.refl e) (.bl _) ⟨_, rfl, p⟩⟩
theorem cmp_eqB {K : PySem.W.Frag} {i j : Bool} {P : Bool → Prop} (p : P (decide (i = j))) : CmpD K rEq (.bl i) (.bl j) P := fun B H v w e h1 h2 Q q => by
  cases h1; cases h2
  have e' : decide (V.bl i = V.bl j) = decide (i = j) := by rw [dec_bl]; exact Bool.eq_iff_iff.mpr (by simp)
  exact ⟨rfl, by rw [e']; exact q _ B H _ (Grow.refl e) (.bl _) ⟨_, rfl, p⟩⟩
theorem cmp_neB {K : PySem.W.Frag} {i j : Bool} {P : Bool → Prop} (p : P (!decide (i = j))) : CmpD K rNe (.bl i) (.bl j) P := fun B H v w e h1 h2 Q q => by
  cases h1; cases h2
  have e' : decide (V.bl i = V.bl j) = decide (i = j) := by rw [dec_bl]; exact Bool.eq_iff_iff.mpr (by simp)
  exact ⟨rfl, by rw [e']; exact q _ B H _ (Grow.refl e) (.bl _) ⟨_, rfl, p⟩⟩
theorem ex_eqI (h : EX X B0 H0 sds os a fun da => ∃ i, da = .int i ∧ EX X B0 H0 sds os b fun db => ∃ j, db = .int j ∧ P (.bl (decide (i = j)))) : EX X B0 H0 sds os (.Compare a [.Eq] [b] pos) P :=
  ex_cmpB op_eq (nomark _) (h.imp fun _ ⟨i, e, k⟩ => k.imp fun _ ⟨j, e', p⟩ => by subst e; subst e'; exact cmp_eqI p)
theorem ex_neI (h : EX X B0 H0 sds os a fun da => ∃ i, da = .int i ∧ EX X B0 H0 sds os b fun db => ∃ j, db = .int j ∧ P (.bl (!decide (i = j)))) : EX X B0 H0 sds os (.Compare a [.NotEq] [b] pos) P :=
  ex_cmpB op_ne (nomark _) (h.imp fun _ ⟨i, e, k⟩ => k.imp fun _ ⟨j, e', p⟩ => by subst e; subst e'; exact cmp_neI p)
theorem ex_ltI (h : EX X B0 H0 sds os a fun da => ∃ i, da = .int i ∧ EX X B0 H0 sds os b fun db => ∃ j, db = .int j ∧ P (.bl (decide (i < j)))) : EX X B0 H0 sds os (.Compare a [.Lt] [b] pos) P :=
  ex_cmpB op_lt (nomark _) (h.imp fun _ ⟨i, e, k⟩ => k.imp fun _ ⟨j, e', p⟩ => by subst e; subst e'; exact cmp_I0 p)
theorem ex_leI (h : EX X B0 H0 sds os a fun da => ∃ i, da = .int i ∧ EX X B0 H0 sds os b fun db => ∃ j, db = .int j ∧ P (.bl (decide (i ≤ j)))) : EX X B0 H0 sds os (.Compare a [.LtE] [b] pos) P :=
  ex_cmpB op_le (nomark _) (h.imp fun _ ⟨i, e, k⟩ => k.imp fun _ ⟨j, e', p⟩ => by subst e; subst e'; exact cmp_I0 p)
theorem tx_eqI {P : Bool → Prop} (h : EX X B0 H0 sds os a fun da => ∃ i, da = .int i ∧ EX X B0 H0 sds os b fun db => ∃ j, db = .int j ∧ P (decide (i = j))) : TX X B0 H0 sds os (.Compare a [.Eq] [b] pos) P :=
  tx_cmp op_eq (nomark _) (h.imp fun _ ⟨i, e, k⟩ => k.imp fun _ ⟨j, e', p⟩ => by subst e; subst e'; exact cmp_eqI p)
theorem tx_neI {P : Bool → Prop} (h : EX X B0 H0 sds os a fun da => ∃ i, da = .int i ∧ EX X B0 H0 sds os b fun db => ∃ j, db = .int j ∧ P (!decide (i = j))) : TX X B0 H0 sds os (.Compare a [.NotEq] [b] pos) P :=
  tx_cmp op_ne (nomark _) (h.imp fun _ ⟨i, e, k⟩ => k.imp fun _ ⟨j, e', p⟩ => by subst e; subst e'; exact cmp_neI p)
theorem tx_ltI {P : Bool → Prop} (h : EX X B0 H0 sds os a fun da => ∃ i, da = .int i ∧ EX X B0 H0 sds os b fun db => ∃ j, db = .int j ∧ P (decide (i < j))) : TX X B0 H0 sds os (.Compare a [.Lt] [b] pos) P :=
  tx_cmp op_lt (nomark _) (h.imp fun _ ⟨i, e, k⟩ => k.imp fun _ ⟨j, e', p⟩ => by subst e; subst e'; exact cmp_I0 p)
theorem tx_leI {P : Bool → Prop} (h : EX X B0 H0 sds os a fun da => ∃ i, da = .int i ∧ EX X B0 H0 sds os b fun db => ∃ j, db = .int j ∧ P (decide (i ≤ j))) : TX X B0 H0 sds os (.Compare a [.LtE] [b] pos) P :=
  tx_cmp op_le (nomark _) (h.imp fun _ ⟨i, e, k⟩ => k.imp fun _ ⟨j, e', p⟩ => by subst e; subst e'; exact cmp_I0 p)
theorem tx_gtI {P : Bool → Prop} (h : EX X B0 H0 sds os a fun da => ∃ i, da = .int i ∧ EX X B0 H0 sds os b fun db => ∃ j, db = .int j ∧ P (decide (j < i))) : TX X B0 H0 sds os (.Compare a [.Gt] [b] pos) P :=
  tx_cmp op_gt (nomark _) (h.imp fun _ ⟨i, e, k⟩ => k.imp fun _ ⟨j, e', p⟩ => by subst e; subst e'; exact cmp_I0 p)
theorem tx_geI {P : Bool → Prop} (h : EX X B0 H0 sds os a fun da => ∃ i, da = .int i ∧ EX X B0 H0 sds os b fun db => ∃ j, db = .int j ∧ P (decide (j ≤ i))) : TX X B0 H0 sds os (.Compare a [.GtE] [b] pos) P :=
  tx_cmp op_ge (nomark _) (h.imp fun _ ⟨i, e, k⟩ => k.imp fun _ ⟨j, e', p⟩ => by subst e; subst e'; exact cmp_I0 p)
theorem ex_gtI (h : EX X B0 H0 sds os a fun da => ∃ i, da = .int i ∧ EX X B0 H0 sds os b fun db => ∃ j, db = .int j ∧ P (.bl (decide (j < i)))) : EX X B0 H0 sds os (.Compare a [.Gt] [b] pos) P :=
  ex_cmpB op_gt (nomark _) (h.imp fun _ ⟨i, e, k⟩ => k.imp fun _ ⟨j, e', p⟩ => by subst e; subst e'; exact cmp_I0 p)
theorem ex_geI (h : EX X B0 H0 sds os a fun da => ∃ i, da = .int i ∧ EX X B0 H0 sds os b fun db => ∃ j, db = .int j ∧ P (.bl (decide (j ≤ i)))) : EX X B0 H0 sds os (.Compare a [.GtE] [b] pos) P :=
  ex_cmpB op_ge (nomark _) (h.imp fun _ ⟨i, e, k⟩ => k.imp fun _ ⟨j, e', p⟩ => by subst e; subst e'; exact cmp_I0 p)
/-- a < b < c on ints, as a value; the operators by their answers -/
theorem ex_chainI {c : Expr} {op op' : CmpOp} {g g' : Int → Int → Bool} (ho : OpR X (compareOp op) (rI0 fun i j => .bl (g i j))) (ho' : OpR X (compareOp op') (rI0 fun i j => .bl (g' i j)))
    (h : EX X B0 H0 sds os a fun da => ∃ i, da = .int i ∧ EX X B0 H0 sds os b fun db => ∃ j, db = .int j ∧ (g i j = true → EX X B0 H0 sds os c fun dc => ∃ k, dc = .int k ∧ P (.bl (g' j k))) ∧ (g i j = false → P (.bl false)))
    (hm : lastMarks [op, op'] [b, c] = false := by with_unfolding_all rfl) : EX X B0 H0 sds os (.Compare a [op, op'] [b, c] pos) P := fun B H σ s Q q =>
  PE.to (pe_chain ho ho' pe_w pe_w pe_w hm) (h B H σ s _ fun v B1 H1 d g1 i1 ⟨i, e1, k⟩ => k B1 H1 σ (s.grow g1) _ fun w B2 H2 d' g2 i2 ⟨j, e2, k1, k2⟩ => by
    subst e1; subst e2; cases i1; cases i2
    refine ⟨i, j, rfl, rfl, g i j, rfl, ?_⟩
    cases hg : g i j with
    | true =>
      rw [if_pos rfl]
      refine k1 hg B2 H2 σ ((s.grow g1).grow g2) _ fun z B3 H3 d3 g3 i3 ⟨k, e3, p⟩ => ?_
      subst e3; cases i3
      exact ⟨j, k, rfl, rfl, q _ B3 H3 _ ((g1.trans g2).trans g3) (.bl _) p⟩
    | false =>
      rw [if_neg Bool.false_ne_true]
      exact q _ B2 H2 _ (g1.trans g2) (.bl _) (k2 hg))

/-! ### tests -/
theorem TX.imp {P P' : Bool → Prop} (h : TX X B0 H0 sds os e P) (i : ∀ d, P d → P' d) : TX X B0 H0 sds os e P' := fun B H σ s Q q => h B H σ s Q fun b B' H' g p => q b B' H' g (i b p)
theorem tx_val {P : Bool → Prop} (h : EX X B0 H0 sds os e fun d => ∃ k, d = .bl k ∧ P k) (he : ∀ whole, isTrue e X.env whole = (do let v ← whole; standAt e.pos; holding [v] (truthy v)) := by intro _; rfl) : TX X B0 H0 sds os e P := fun B H σ s Q q =>
  PT.to (pt_val pe_w he) (h B H σ s _ fun v B1 H1 d g1 i1 ⟨k, e1, p⟩ => by
    subst e1; cases i1
    exact ⟨k, rfl, q k B1 H1 g1 p⟩)
theorem tx_not {P : Bool → Prop} (h : TX X B0 H0 sds os e fun k => P (!k)) : TX X B0 H0 sds os (.UnaryOp .Not e pos) P := fun B H σ s Q q =>
  PT.to (pt_not pt_w) (h B H σ s _ fun k B1 H1 g1 p => q _ B1 H1 g1 p)
/-- truth of a value -/
def TruD : D → Bool → Prop
  | .non, k => k = false
  | .bl b, k => k = b
  | .int i, k => k = (i != 0)
  | .lst l, k => k = !l.isEmpty
  | .tup l, k => k = !l.isEmpty
  | _, _ => False
theorem isEmpty_all {K : PySem.W.Frag} {B : Hp} {l : List D} {xs : List V} (h : IsAll K B xs l) : xs.isEmpty = l.isEmpty := by
  cases h <;> rfl
theorem tx_tru {P : Bool → Prop} (h : EX X B0 H0 sds os e fun d => ∃ k, TruD d k ∧ P k) (he : ∀ whole, isTrue e X.env whole = (do let v ← whole; standAt e.pos; holding [v] (truthy v)) := by intro _; rfl) : TX X B0 H0 sds os e P := fun B H σ s Q q =>
  PT.to (pt_truth pe_w he) (h B H σ s _ fun v B1 H1 d g1 i1 ⟨k, t, p⟩ => by
    refine ⟨k, ?_, q k B1 H1 g1 p⟩
    cases i1 with
    | non => exact t
    | bl b => exact t
    | int i => exact t
    | str x => exact t.elim
    | lst hs ha => exact .inl ⟨_, SqL.of (g1.bh _ _ hs), by rw [isEmpty_all ha]; exact t⟩
    | tup hs ha => exact .inr (.inl ⟨_, SqT.of (g1.bh _ _ hs), by rw [isEmpty_all ha]; exact t⟩)
    | ins hs ha => exact t.elim
    | drw hs => exact t.elim)
theorem tx_and {P : Bool → Prop} (h : TX X B0 H0 sds os a fun k => (k = true → WX X B0 H0 sds os (.BoolOp .And (b :: rest) pos) P) ∧ (k = false → P false)) : WX X B0 H0 sds os (.BoolOp .And (a :: b :: rest) pos) P := fun B H σ s Q q =>
  PW.to (pw_and pt_w pw_w) (h B H σ s _ fun k B1 H1 g1 ⟨p1, p2⟩ => by
    cases k with
    | true => rw [if_pos rfl]; exact p1 rfl B1 H1 σ (s.grow g1) Q fun k2 B2 H2 g2 p => q k2 B2 H2 (g1.trans g2) p
    | false => rw [if_neg Bool.false_ne_true]; exact q _ B1 H1 g1 (p2 rfl))
theorem tx_and1 {P : Bool → Prop} (h : TX X B0 H0 sds os a P) : WX X B0 H0 sds os (.BoolOp .And [a] pos) P := fun B H σ s Q q => PW.to (pw_and1 pt_w) (h B H σ s _ q)
theorem tx_or {P : Bool → Prop} (h : TX X B0 H0 sds os a fun k => (k = false → WX X B0 H0 sds os (.BoolOp .Or (b :: rest) pos) P) ∧ (k = true → P true)) : WX X B0 H0 sds os (.BoolOp .Or (a :: b :: rest) pos) P := fun B H σ s Q q =>
  PW.to (pw_or pt_w pw_w) (h B H σ s _ fun k B1 H1 g1 ⟨p1, p2⟩ => by
    cases k with
    | false => rw [if_neg Bool.false_ne_true]; exact p1 rfl B1 H1 σ (s.grow g1) Q fun k2 B2 H2 g2 p => q k2 B2 H2 (g1.trans g2) p
    | true => rw [if_pos rfl]; exact q _ B1 H1 g1 (p2 rfl))
theorem tx_or1 {P : Bool → Prop} (h : TX X B0 H0 sds os a P) : WX X B0 H0 sds os (.BoolOp .Or [a] pos) P := fun B H σ s Q q => PW.to (pw_or1 pt_w) (h B H σ s _ q)
theorem tx_w {P : Bool → Prop} (h : WX X B0 H0 sds os e P) : TX X B0 H0 sds os e P := fun B H σ s Q q => PT.to (PW.pt pw_w) (h B H σ s _ q)
/-- the same told by the answers -/
theorem wx_and {P : Bool → Prop} {k1 k2 : Bool} (h1 : TX X B0 H0 sds os a (· = k1)) (h2 : k1 = true → WX X B0 H0 sds os (.BoolOp .And (b :: rest) pos) (· = k2)) (p : P (k1 && k2)) : WX X B0 H0 sds os (.BoolOp .And (a :: b :: rest) pos) P :=
  tx_and (h1.imp fun k e => by
    subst e
    refine ⟨fun e => ?_, fun e => ?_⟩
    · intro B H σ s Q q
      refine h2 e B H σ s Q fun k3 B' H' g e3 => q k3 B' H' g ?_
      rw [e, Bool.true_and] at p
      rw [e3]; exact p
    · rw [e, Bool.false_and] at p; exact p)
theorem wx_or {P : Bool → Prop} {k1 k2 : Bool} (h1 : TX X B0 H0 sds os a (· = k1)) (h2 : k1 = false → WX X B0 H0 sds os (.BoolOp .Or (b :: rest) pos) (· = k2)) (p : P (k1 || k2)) : WX X B0 H0 sds os (.BoolOp .Or (a :: b :: rest) pos) P :=
  tx_or (h1.imp fun k e => by
    subst e
    refine ⟨fun e => ?_, fun e => ?_⟩
    · intro B H σ s Q q
      refine h2 e B H σ s Q fun k3 B' H' g e3 => q k3 B' H' g ?_
      rw [e, Bool.false_or] at p
      rw [e3]; exact p
    · rw [e, Bool.true_or] at p; exact p)
/-- and, or, not as values -/
theorem ex_and (h : EX X B0 H0 sds os a fun d => ∃ k, d = .bl k ∧ (k = true → EX X B0 H0 sds os (.BoolOp .And (b :: rest) pos) P) ∧ (k = false → P (.bl false))) : EX X B0 H0 sds os (.BoolOp .And (a :: b :: rest) pos) P := fun B H σ s Q q =>
  PE.to (pe_and pe_w pe_w) (h B H σ s _ fun v B1 H1 d g1 i1 ⟨k, e, p1, p2⟩ => by
    subst e; cases i1
    refine ⟨k, rfl, ?_⟩
    cases k with
    | true => rw [if_pos rfl]; exact p1 rfl B1 H1 σ (s.grow g1) Q fun v2 B2 H2 d2 g2 i2 p => q v2 B2 H2 d2 (g1.trans g2) i2 p
    | false => rw [if_neg Bool.false_ne_true]; exact q _ B1 H1 _ g1 (.bl _) (p2 rfl))
theorem ex_or (h : EX X B0 H0 sds os a fun d => ∃ k, d = .bl k ∧ (k = false → EX X B0 H0 sds os (.BoolOp .Or (b :: rest) pos) P) ∧ (k = true → P (.bl true))) : EX X B0 H0 sds os (.BoolOp .Or (a :: b :: rest) pos) P := fun B H σ s Q q =>
  PE.to (pe_or pe_w pe_w) (h B H σ s _ fun v B1 H1 d g1 i1 ⟨k, e, p1, p2⟩ => by
    subst e; cases i1
    refine ⟨k, rfl, ?_⟩
    cases k with
    | false => rw [if_neg Bool.false_ne_true]; exact p1 rfl B1 H1 σ (s.grow g1) Q fun v2 B2 H2 d2 g2 i2 p => q v2 B2 H2 d2 (g1.trans g2) i2 p
    | true => rw [if_pos rfl]; exact q _ B1 H1 _ g1 (.bl _) (p2 rfl))
theorem ex_one {op : BoolOp} (h : EX X B0 H0 sds os a P) : EX X B0 H0 sds os (.BoolOp op [a] pos) P := fun B H σ s Q q => PE.to (pe_one pe_w) (h B H σ s Q q)
theorem ex_not (h : EX X B0 H0 sds os a fun d => ∃ k, d = .bl k ∧ P (.bl (!k))) : EX X B0 H0 sds os (.UnaryOp .Not a pos) P := fun B H σ s Q q =>
  PE.to (pe_not pe_w) (h B H σ s _ fun v B1 H1 d g1 i1 ⟨k, e, p⟩ => by
    subst e; cases i1
    exact ⟨k, rfl, q _ B1 H1 _ g1 (.bl _) p⟩)
theorem ex_andV {k1 k2 : Bool} (h1 : EX X B0 H0 sds os a (· = .bl k1)) (h2 : k1 = true → EX X B0 H0 sds os (.BoolOp .And (b :: rest) pos) (· = .bl k2)) (p : P (.bl (k1 && k2))) : EX X B0 H0 sds os (.BoolOp .And (a :: b :: rest) pos) P :=
  ex_and (h1.imp fun d e => ⟨k1, e, fun e1 => (h2 e1).imp fun d2 e2 => by subst e2; rw [e1, Bool.true_and] at p; exact p, fun e1 => by rw [e1, Bool.false_and] at p; exact p⟩)
theorem ex_orV {k1 k2 : Bool} (h1 : EX X B0 H0 sds os a (· = .bl k1)) (h2 : k1 = false → EX X B0 H0 sds os (.BoolOp .Or (b :: rest) pos) (· = .bl k2)) (p : P (.bl (k1 || k2))) : EX X B0 H0 sds os (.BoolOp .Or (a :: b :: rest) pos) P :=
  ex_or (h1.imp fun d e => ⟨k1, e, fun e1 => (h2 e1).imp fun d2 e2 => by subst e2; rw [e1, Bool.false_or] at p; exact p, fun e1 => by rw [e1, Bool.true_or] at p; exact p⟩)
theorem ex_ifExp {c : Expr} (h : TX X B0 H0 sds os c fun k => (k = true → EX X B0 H0 sds os a P) ∧ (k = false → EX X B0 H0 sds os b P)) : EX X B0 H0 sds os (.IfExp c a b pos) P := fun B H σ s Q q =>
  PE.to (pe_ifExp pt_w pe_w pe_w) (h B H σ s _ fun k B1 H1 g1 ⟨p1, p2⟩ => by
    cases k with
    | true => rw [if_pos rfl]; exact p1 rfl B1 H1 σ (s.grow g1) Q fun v2 B2 H2 d2 g2 i2 p => q v2 B2 H2 d2 (g1.trans g2) i2 p
    | false => rw [if_neg Bool.false_ne_true]; exact p2 rfl B1 H1 σ (s.grow g1) Q fun v2 B2 H2 d2 g2 i2 p => q v2 B2 H2 d2 (g1.trans g2) i2 p)

/-! ### argument lists, displays -/
theorem EA.imp {P P' : List D → Prop} (h : EA X B0 H0 sds os es P) (i : ∀ d, P d → P' d) : EA X B0 H0 sds os es P' := fun B H σ s Q q => h B H σ s Q fun v B' H' d g hv hp => q v B' H' d g hv (i d hp)
theorem ea_nil {P : List D → Prop} (p : P []) : EA X B0 H0 sds os [] P := fun B H σ s Q q => PA.to pa_nil (q [] B H [] (Grow.refl s.g.bh) .nil p)
theorem ea_cons {P : List D → Prop} (h : EX X B0 H0 sds os e fun d => EA X B0 H0 sds os es fun ds => P (d :: ds)) (hs : starEach (e :: es) X.env = (false, eval e X.env) :: starEach es X.env := by rfl) : EA X B0 H0 sds os (e :: es) P := fun B H σ s Q q =>
  PA.to (pa_cons pe_w pa_w hs) (h B H σ s _ fun v B1 H1 d g1 i1 k => k B1 H1 σ (s.grow g1) _ fun vs B2 H2 ds g2 i2 p => q (v :: vs) B2 H2 (d :: ds) (g1.trans g2) (.cons (i1.mono g2.b) i2) p)
theorem lenOk {K : PySem.W.Frag} {B : Hp} {vs : List V} {ds : List D} (h : IsAll K B vs ds) (l : ds.length ≤ 100000) : vs.length ≤ sizeLine := by rw [h.len]; exact Nat.le_trans l (by decide)
theorem ex_tup {x1} (h : EA X B0 H0 sds os es fun ds => ds.length ≤ 100000 ∧ P (.tup ds)) : EX X B0 H0 sds os (.Tuple es x1 pos) P := fun B H σ s Q q =>
  PE.to (pe_tup pa_w) (h B H σ s _ fun vs B1 H1 ds g1 i1 ⟨l, p⟩ => ⟨lenOk i1 l, fun p' hp => by
    have g2 := Grow.new (o := .tup vs) g1.bh hp
    exact q _ _ _ (.tup ds) (g1.trans g2) (.tup upd_same (IsAll.mono g2.b _ _ i1)) p⟩)
theorem el_lst {P : List D → Prop} (h : EA X B0 H0 sds os es fun ds => ds.length ≤ 100000 ∧ P ds) : EL X B0 H0 sds os (.List es pos) P := fun B H σ s Q q =>
  PE.to (pe_lst pa_w) (h B H σ s _ fun vs B1 H1 ds g1 i1 ⟨l, p⟩ => ⟨lenOk i1 l, fun p' hp => by
    exact q p' vs B1 _ ds ⟨g1.b, g1.h.trans (Evl.Ex.new hp), g1.bh.trans (Evl.Ex.new hp), g1.fr⟩ (Evl.fresh_back g1.h hp) (Evl.fresh_back g1.bh hp) upd_same i1 p⟩)
/-- a new list, not owned -/
theorem ex_ofL (h : EL X B0 H0 sds os e fun l => P (.lst l)) : EX X B0 H0 sds os e P := fun B H σ s Q q => h B H σ s Q fun p xs B1 H1 l g1 hp bp h1 i1 pl => by
  have e1 : Ex B1 (upd B1 p (.lst xs)) := Evl.Ex.new bp
  refine q _ (upd B1 p (.lst xs)) H1 _ ⟨g1.b.trans e1, g1.h, ex_join g1.bh h1, fun a ha => ?_⟩ (.lst upd_same (IsAll.mono e1 _ _ i1)) pl
  by_cases hb : a = p
  · subst hb; exact .inr hp
  · rw [upd_ne hb] at ha; exact g1.fr a ha
theorem EL.imp {P P' : List D → Prop} (h : EL X B0 H0 sds os e P) (i : ∀ d, P d → P' d) : EL X B0 H0 sds os e P' := fun B H σ s Q q => h B H σ s Q fun p xs B' H' l g h1 h2 h3 h4 pl => q p xs B' H' l g h1 h2 h3 h4 (i l pl)

/-! ### items -/
def IxD (d : D) (i : Int) (P : D → Prop) : Prop := match d with
  | .lst l => ∃ (j : Nat) (x : D), i = (j : Int) ∧ l[j]? = some x ∧ P x
  | .tup l => ∃ (j : Nat) (x : D), i = (j : Int) ∧ l[j]? = some x ∧ P x
  | _ => False
theorem ex_ix (h : EX X B0 H0 sds os a fun d => EX X B0 H0 sds os b fun db => ∃ i, db = .int i ∧ IxD d i P) (hs : PlainIx b := by exact fun _ _ => rfl) : EX X B0 H0 sds os (.Subscript a b pos) P := fun B H σ s Q q =>
  PE.to (pe_ix ix_seq pe_w pe_w hs) (h B H σ s _ fun v B1 H1 d g1 i1 k => k B1 H1 σ (s.grow g1) _ fun w B2 H2 d' g2 i2 ⟨i, e, kx⟩ => by
    subst e; cases i2
    cases i1 with
    | lst hs ha =>
      obtain ⟨j, x, rfl, hj, p⟩ := kx
      obtain ⟨y, hy, iy⟩ := ha.get hj
      exact .inl ⟨_, _, _, y, rfl, rfl, SqL.of (g2.bh _ _ (g2.b _ _ hs)), atI_nat hy, q y B2 H2 x (g1.trans g2) (iy.mono g2.b) p⟩
    | tup hs ha =>
      obtain ⟨j, x, rfl, hj, p⟩ := kx
      obtain ⟨y, hy, iy⟩ := ha.get hj
      exact .inr (.inl ⟨_, _, _, y, rfl, rfl, SqT.of (g2.bh _ _ (g2.b _ _ hs)), atI_nat hy, q y B2 H2 x (g1.trans g2) (iy.mono g2.b) p⟩)
    | non => exact kx.elim
    | bl _ => exact kx.elim
    | int _ => exact kx.elim
    | str _ => exact kx.elim
    | ins _ _ => exact kx.elim
    | drw _ => exact kx.elim)
/-! ### attributes -/
theorem ex_fld {f : PySem.Str} (h : EX X B0 H0 sds os a fun d => ∃ C fs x, d = .ins C fs ∧ Cls X.K C ∧ NoAttr X.K C f ∧ fs.lookup f = some x ∧ P x) (hb : attributeBase a f X.env (eval a X.env) = eval a X.env := by rfl) : EX X B0 H0 sds os (.Attribute a f pos) P := fun B H σ s Q q =>
  PE.to (pe_fld pe_w hb) (h B H σ s _ fun v B1 H1 d g1 i1 ⟨C, fs, x, e, c, na, hl, p⟩ => by
    subst e
    cases i1 with
    | ins hs ha =>
      obtain ⟨y, hy, iy⟩ := ha.look hl
      exact ⟨_, C, _, _, y, rfl, g1.bh _ _ hs, c, na, hy, q y B1 H1 x g1 iy p⟩)
end
end OB
set_option Elab.async false
set_option linter.all false
set_option maxRecDepth 100000
set_option maxHeartbeats 4000000
namespace OB
open PySem PySem.Spec PyProof.Rows L2
/-! ### statements -/
theorem SP.imp {X : Cx} {pins : List (Addr × Obj)} {D D' : Ends} {f : Flow} {s : Shared} (h : SP X pins D f s) (h1 : ∀ σ H, D.nx σ H → D'.nx σ H) (h2 : ∀ v H, D.rt v H → D'.rt v H) (h3 : ∀ σ H, D.bk σ H → D'.bk σ H) (h4 : ∀ σ H, D.ct σ H → D'.ct σ H) : SP X pins D' f s := by
  cases f with
  | next => obtain ⟨σ, H, I, q⟩ := h; exact ⟨σ, H, I, h1 σ H q⟩
  | brk => obtain ⟨σ, H, I, q⟩ := h; exact ⟨σ, H, I, h3 σ H q⟩
  | cont => obtain ⟨σ, H, I, q⟩ := h; exact ⟨σ, H, I, h4 σ H q⟩
  | ret u => obtain ⟨v, σ, H, I, r, q⟩ := h; exact ⟨v, σ, H, I, r, h2 v H q⟩
theorem wS.imp {X : Cx} {st : Stmt} {D D' : Ends} {σ : L2.St} {H : Hp} (h : wS X st D σ H) (h1 : ∀ σ H, D.nx σ H → D'.nx σ H) (h2 : ∀ v H, D.rt v H → D'.rt v H) (h3 : ∀ σ H, D.bk σ H → D'.bk σ H) (h4 : ∀ σ H, D.ct σ H → D'.ct σ H) : wS X st D' σ H :=
  ⟨fun pins s I => thn (h.run pins s I) fun _ _ q => SP.imp q h1 h2 h3 h4⟩
theorem wSs.imp {X : Cx} {st : List Stmt} {D D' : Ends} {σ : L2.St} {H : Hp} (h : wSs X st D σ H) (h1 : ∀ σ H, D.nx σ H → D'.nx σ H) (h2 : ∀ v H, D.rt v H → D'.rt v H) (h3 : ∀ σ H, D.bk σ H → D'.bk σ H) (h4 : ∀ σ H, D.ct σ H → D'.ct σ H) : wSs X st D' σ H :=
  ⟨fun pins s I => thn (h.run pins s I) fun _ _ q => SP.imp q h1 h2 h3 h4⟩
section
variable {X : Cx} {N : List PySem.Str} {S : Scope} {B0 H0 : Hp} {sds : List SD} {os : List (Addr × OV)} {E : DE} {pos : Pos} {a b e : Expr} {es : List Expr} {st : Stmt} {rest body : List Stmt}
theorem go_nil (h : E.nx sds os) : Go X B0 H0 sds os E [] := fun A B H σ ea s => PSs.to pss_nil ⟨B, sds, os, ea, s, h⟩
theorem go_cons (h : Go1 X B0 H0 sds os { E with nx := fun sds' os' => Go X B0 H0 sds' os' E rest } st) : Go X B0 H0 sds os E (st :: rest) := fun A B H σ ea s => by
  refine PSs.to (pss_cons ps_w pss_w) ?_
  refine wS.imp (h A B H σ ea s) (fun σ' H' ⟨B', sds', os', ea', s', k⟩ => k A B' H' σ' ea' s') (fun v H' q => q) (fun σ' H' q => q) (fun σ' H' q => q)
/-- a word between two statements: what follows is shown once -/
theorem go_cut (M : List SD → List (Addr × OV) → Prop) (h : Go1 X B0 H0 sds os { E with nx := M } st) (k : ∀ sds' os', M sds' os' → Go X B0 H0 sds' os' E rest) : Go X B0 H0 sds os E (st :: rest) := fun A B H σ ea s => by
  refine PSs.to (pss_cons ps_w pss_w) ?_
  refine wS.imp (h A B H σ ea s) (fun σ' H' ⟨B', sds', os', ea', s', m⟩ => k sds' os' m A B' H' σ' ea' s') (fun v H' q => q) (fun σ' H' q => q) (fun σ' H' q => q)
theorem Go1.imp {E' : DE} (h : Go1 X B0 H0 sds os E st) (h1 : ∀ s o, E.nx s o → E'.nx s o) (h2 : ∀ d, E.rt d → E'.rt d) (h3 : ∀ s o, E.bk s o → E'.bk s o) (h4 : ∀ s o, E.ct s o → E'.ct s o) : Go1 X B0 H0 sds os E' st := fun A B H σ ea s =>
  wS.imp (h A B H σ ea s) (fun _ _ ⟨B, s, o, e, t, q⟩ => ⟨B, s, o, e, t, h1 s o q⟩) (fun _ _ ⟨B, d, e, t, i, q⟩ => ⟨B, d, e, t, i, h2 d q⟩) (fun _ _ ⟨B, s, o, e, t, q⟩ => ⟨B, s, o, e, t, h3 s o q⟩) (fun _ _ ⟨B, s, o, e, t, q⟩ => ⟨B, s, o, e, t, h4 s o q⟩)
theorem Go.imp {E' : DE} {sts : List Stmt} (h : Go X B0 H0 sds os E sts) (h1 : ∀ s o, E.nx s o → E'.nx s o) (h2 : ∀ d, E.rt d → E'.rt d) (h3 : ∀ s o, E.bk s o → E'.bk s o) (h4 : ∀ s o, E.ct s o → E'.ct s o) : Go X B0 H0 sds os E' sts := fun A B H σ ea s =>
  wSs.imp (h A B H σ ea s) (fun _ _ ⟨B, s, o, e, t, q⟩ => ⟨B, s, o, e, t, h1 s o q⟩) (fun _ _ ⟨B, d, e, t, i, q⟩ => ⟨B, d, e, t, i, h2 d q⟩) (fun _ _ ⟨B, s, o, e, t, q⟩ => ⟨B, s, o, e, t, h3 s o q⟩) (fun _ _ ⟨B, s, o, e, t, q⟩ => ⟨B, s, o, e, t, h4 s o q⟩)
theorem g1_ret (h : EX X B0 H0 sds os e E.rt) : Go1 X B0 H0 sds os E (.Return (some e) pos) := fun A B H σ ea s =>
  PS.to (ps_ret pe_w) (h B H σ s _ fun v B1 H1 d g1 i1 p => ⟨B1, d, ea.trans g1.b, (s.grow g1).g, i1, p⟩)
theorem g1_retN (h : E.rt .non) : Go1 X B0 H0 sds os E (.Return none pos) := fun A B H σ ea s =>
  PS.to ps_retN ⟨B, .non, ea, s.g, .non, h⟩
theorem g1_pass (h : E.nx sds os) : Go1 X B0 H0 sds os E (.Pass pos) := fun A B H σ ea s => PS.to ps_pass ⟨B, sds, os, ea, s, h⟩
theorem g1_break (h : E.bk sds os) : Go1 X B0 H0 sds os E (.Break pos) := fun A B H σ ea s => PS.to ps_break ⟨B, sds, os, ea, s, h⟩
theorem g1_cont (h : E.ct sds os) : Go1 X B0 H0 sds os E (.Continue pos) := fun A B H σ ea s => PS.to ps_continue ⟨B, sds, os, ea, s, h⟩
theorem g1_expr (h : EX X B0 H0 sds os e fun _ => E.nx sds os) (hs : swapsWith e none pos.line X.env = pure false := by rfl) : Go1 X B0 H0 sds os E (.Expr e pos) := fun A B H σ ea s =>
  PS.to (ps_expr pe_w hs) (h B H σ s _ fun v B1 H1 d g1 i1 p => ⟨B1, sds, os, ea.trans g1.b, s.grow g1, p⟩)
theorem g1_if {c : Expr} {t f : List Stmt} (h : TX X B0 H0 sds os c fun k => (k = true → Go X B0 H0 sds os E t) ∧ (k = false → Go X B0 H0 sds os E f)) : Go1 X B0 H0 sds os E (.If c t f pos) := fun A B H σ ea s =>
  PS.to (ps_if pt_w pss_w pss_w) (h B H σ s _ fun k B1 H1 g1 ⟨p1, p2⟩ => by
    cases k with
    | true => rw [if_pos rfl]; exact p1 rfl A B1 H1 σ (ea.trans g1.b) (s.grow g1)
    | false => rw [if_neg Bool.false_ne_true]; exact p2 rfl A B1 H1 σ (ea.trans g1.b) (s.grow g1))
theorem g1_asg (c : CtxD X N S) (i : Nat) {x : PySem.Str} {pos' : Pos} (h : EX X B0 H0 sds os e fun d => E.nx (sds.set i (.d d)) os) (hN : N[i]? = some x := by rfl) (hv : locB S x = true := by decide +kernel)
    (hs : swapsWith e (some (.Name x pos')) pos.line X.env = pure false := by rfl) : Go1 X B0 H0 sds os E (.Assign [.Name x pos'] e pos) := fun A B H σ ea s =>
  PS.to (ps_set (i := i) (by rw [c.hN]; exact c.nd) (by rw [c.hN]; exact hN) (c.toCtx.loc hv) pe_w hs c.locf) (h B H σ s _ fun v B1 H1 d g1 i1 p => ⟨B1, _, _, ea.trans g1.b, (s.grow g1).set i1, p⟩)
theorem St.add {K : PySem.W.Frag} {B H : Hp} {σ : L2.St} (s : St K B0 H0 B H σ sds os) {p : Addr} {ov : OV} (bp : B p = none) (hp : H0 p = none) (hf : fpt (p, ov) = [p]) (hn : p ∉ os.flatMap fpt) (ho : Own K B H (p, ov)) {i : Nat} : St K B0 H0 B H (σ.set i (some (.ref p))) (sds.set i (.v (.ref p))) ((p, ov) :: os) := by
  refine ⟨s.g, s.sl.set rfl, fun e he => ?_, fun a ha => ?_, ?_⟩
  · rcases List.mem_cons.mp he with z | z
    · subst z; exact ho
    · exact s.ow e z
  · rw [List.flatMap_cons, hf] at ha
    rcases List.mem_append.mp ha with z | z
    · have z := List.mem_singleton.mp z
      subst z; exact ⟨bp, hp⟩
    · exact s.fr a z
  · rw [List.flatMap_cons, hf]
    exact List.nodup_cons.mpr ⟨hn, s.nd⟩
theorem St.notin {K : PySem.W.Frag} {B H : Hp} {σ : L2.St} (s : St K B0 H0 B H σ sds os) {p : Addr} (hp : H p = none) : p ∉ os.flatMap fpt := fun ha => by
  obtain ⟨e, he, hm⟩ := List.mem_flatMap.mp ha
  obtain ⟨u, hu⟩ := (s.ow e he).at hm
  rw [hp] at hu; cases hu
/-- a new list that we own -/
theorem g1_asgO (c : CtxD X N S) (i : Nat) {x : PySem.Str} {pos' : Pos} (h : EL X B0 H0 sds os e fun l => ∀ p, E.nx (sds.set i (.v (.ref p))) ((p, .lst l) :: os)) (hN : N[i]? = some x := by rfl) (hv : locB S x = true := by decide +kernel)
    (hs : swapsWith e (some (.Name x pos')) pos.line X.env = pure false := by rfl) : Go1 X B0 H0 sds os E (.Assign [.Name x pos'] e pos) := fun A B H σ ea s =>
  PS.to (ps_set (i := i) (by rw [c.hN]; exact c.nd) (by rw [c.hN]; exact hN) (c.toCtx.loc hv) pe_w hs c.locf) (h B H σ s _ fun p xs B1 H1 l g1 hp bp h1 i1 k =>
    ⟨B1, _, _, ea.trans g1.b, (s.grow g1).add (ov := .lst l) bp (Evl.fresh_back s.g.h hp) rfl (s.notin hp) ⟨xs, h1, i1⟩, k p⟩)
/-- a, b = a pair -/
theorem g1_asg2 (c : CtxD X N S) (i j : Nat) {x y : PySem.Str} {p1 p2 pt : Pos} {kk} (h : EX X B0 H0 sds os e fun d => ∃ u v, d = .tup [u, v] ∧ E.nx ((sds.set i (.d u)).set j (.d v)) os) (hN : N[i]? = some x := by rfl) (hv : locB S x = true := by decide +kernel) (hN2 : N[j]? = some y := by rfl) (hv2 : locB S y = true := by decide +kernel)
    (hs : swapsWithSole [.Tuple [.Name x p1, .Name y p2] kk pt] e pos.line X.env = pure false := by rfl) (hw : swappedStores [.Tuple [.Name x p1, .Name y p2] kk pt] e X.env = pure none := by rfl)
    (h1 : (assignEach [.Tuple [.Name x p1, .Name y p2] kk pt] X.env).map (·.2) = [assign (.Tuple [.Name x p1, .Name y p2] kk pt) X.env] := by rfl) : Go1 X B0 H0 sds os E (.Assign [.Tuple [.Name x p1, .Name y p2] kk pt] e pos) := fun A B H σ ea s => by
  have nd : X.N.Nodup := by rw [c.hN]; exact c.nd
  refine PS.to (ps_asg pe_w (pg_tup c.calm (pgs_cons (pg_name (i := i) nd (by rw [c.hN]; exact hN) (c.toCtx.loc hv) c.locf) (pgs_cons (pg_name (i := j) nd (by rw [c.hN]; exact hN2) (c.toCtx.loc hv2) c.locf) pgs_nil))) hs hw h1) ?_
  refine h B H σ s _ fun w B1 H1 d g1 i1 ⟨u, v, e1, k⟩ => ?_
  subst e1
  cases i1 with
  | tup hs ha =>
    cases ha with
    | cons q1 r =>
      cases r with
      | cons q2 r =>
        cases r
        refine ⟨_, _, rfl, SqT.of (g1.bh _ _ hs), rfl, _, _, rfl, _, _, rfl, rfl, ?_⟩
        exact ⟨B1, _, _, ea.trans g1.b, ((s.grow g1).set q1).set q2, k⟩
/-- the list that we own becomes the base's -/
theorem St.freeze {K : PySem.W.Frag} {B H : Hp} {σ : L2.St} {p : Addr} {l : List D} {os1 os2 : List (Addr × OV)} (s : St K B0 H0 B H σ sds (os1 ++ (p, .lst l) :: os2)) {i : Nat} (hi : sds[i]? = some (.v (.ref p))) :
    ∃ B', Ex B B' ∧ St K B0 H0 B' H σ (sds.set i (.d (.lst l))) (os1 ++ os2) := by
  obtain ⟨xs, hp, ha⟩ := s.ow (p, .lst l) (by simp)
  have fp := s.fr p (by simp [fpt])
  have e1 : Ex B (upd B p (.lst xs)) := Evl.Ex.new fp.1
  have nd := s.nd
  rw [List.flatMap_append, List.flatMap_cons, show fpt (p, OV.lst l) = [p] from rfl] at nd
  have nd2 := List.nodup_append.mp nd
  have np : p ∉ (os1 ++ os2).flatMap fpt := fun hm => by
    rw [List.flatMap_append] at hm
    rcases List.mem_append.mp hm with z | z
    · exact nd2.2.2 p z p (by simp) rfl
    · exact (List.nodup_cons.mp nd2.2.1).1 z
  refine ⟨_, e1, ⟨s.g.b.trans e1, s.g.h, ex_join s.g.bh hp, fun a h => ?_⟩, ⟨by rw [List.length_set]; exact s.sl.len, fun j sd q => ?_⟩, fun e he => ?_, fun a ha => ?_, ?_⟩
  · by_cases hb : a = p
    · subst hb; exact .inr fp.2
    · rw [upd_ne hb] at h; exact s.g.fr a h
  · by_cases hj : i = j
    · subst hj
      have hl : i < sds.length := (List.getElem?_eq_some_iff.mp hi).1
      rw [List.getElem?_set_self hl] at q
      cases q
      exact ⟨.ref p, s.varV hi, .lst upd_same (IsAll.mono e1 _ _ ha)⟩
    · rw [List.getElem?_set_ne hj] at q
      exact (s.sl.at' j sd q).mono e1
  · refine (s.ow e ?_).mono e1 (Evl.Ex.refl _)
    rcases List.mem_append.mp he with z | z
    · exact List.mem_append_left _ z
    · exact List.mem_append_right _ (List.mem_cons_of_mem _ z)
  · have hap : a ≠ p := fun z => np (z ▸ ha)
    rw [upd_ne hap]
    refine s.fr a ?_
    rw [List.flatMap_append] at ha ⊢
    rw [List.flatMap_cons]
    rcases List.mem_append.mp ha with z | z
    · exact List.mem_append_left _ z
    · exact List.mem_append_right _ (List.mem_append_right _ z)
  · rw [List.flatMap_append]
    refine List.nodup_append.mpr ⟨nd2.1, (List.nodup_cons.mp nd2.2.1).2, fun x hx y hy => nd2.2.2 x hx y (List.mem_cons_of_mem _ hy)⟩
theorem split_at {α : Type} : ∀ {l : List α} {j : Nat} {x : α}, l[j]? = some x → l = l.take j ++ x :: l.drop (j + 1)
  | [], _, _, h => by simp at h
  | a :: l, 0, x, h => by simp at h; subst h; simp
  | a :: l, j + 1, x, h => by
    have ih := split_at (l := l) (j := j) (x := x) (by simpa using h)
    show a :: l = a :: (l.take j ++ x :: l.drop (j + 1))
    rw [← ih]
theorem erase_at {α : Type} : ∀ {l : List α} {j : Nat}, l.eraseIdx j = l.take j ++ l.drop (j + 1)
  | [], _ => by simp
  | a :: l, 0 => by simp
  | a :: l, j + 1 => by
    show a :: l.eraseIdx j = a :: (l.take j ++ l.drop (j + 1))
    rw [erase_at]
theorem set_at {α : Type} {y : α} : ∀ {l : List α} {j : Nat} {x : α}, l[j]? = some x → l.set j y = l.take j ++ y :: l.drop (j + 1)
  | [], _, _, h => by simp at h
  | a :: l, 0, x, h => by simp
  | a :: l, j + 1, x, h => by
    show a :: l.set j y = a :: (l.take j ++ y :: l.drop (j + 1))
    rw [set_at (x := x) (by simpa using h)]
theorem St.freezeAt {K : PySem.W.Frag} {B H : Hp} {σ : L2.St} {p : Addr} {l : List D} (s : St K B0 H0 B H σ sds os) {i j : Nat} (hj : os[j]? = some (p, .lst l)) (hi : sds[i]? = some (.v (.ref p))) :
    ∃ B', Ex B B' ∧ St K B0 H0 B' H σ (sds.set i (.d (.lst l))) (os.eraseIdx j) := by
  rw [split_at hj] at s
  rw [erase_at]
  exact s.freeze hi
theorem go_freeze (i j : Nat) {p : Addr} {l : List D} {sts : List Stmt} (h : Go X B0 H0 (sds.set i (.d (.lst l))) (os.eraseIdx j) E sts) (hj : os[j]? = some (p, .lst l) := by rfl) (hi : sds[i]? = some (.v (.ref p)) := by rfl) : Go X B0 H0 sds os E sts := fun A B H σ ea s => by
  obtain ⟨B', e1, s'⟩ := s.freezeAt hj hi
  exact h A B' H σ (ea.trans e1) s'
/-- an owned list read in an expression whose value is plain -/
def plain : D → Bool
  | .non => true | .bl _ => true | .int _ => true | .str _ => true
  | _ => false
theorem Is.plain {K : PySem.W.Frag} {B B' : Hp} {v : V} {d : D} (h : Is K B v d) (p : plain d = true) : Is K B' v d := by
  cases h with
  | non => exact .non
  | bl b => exact .bl b
  | int b => exact .int b
  | str b => exact .str b
  | lst _ _ => cases p
  | tup _ _ => cases p
  | ins _ _ => cases p
  | drw _ => cases p
theorem ex_borrow (i j : Nat) {p : Addr} {l : List D} {P : D → Prop} (h : EX X B0 H0 (sds.set i (.d (.lst l))) (os.eraseIdx j) e fun d => plain d = true ∧ P d) (hj : os[j]? = some (p, .lst l) := by rfl) (hi : sds[i]? = some (.v (.ref p)) := by rfl) : EX X B0 H0 sds os e P := fun B H σ s Q q => by
  obtain ⟨B', e1, s'⟩ := s.freezeAt hj hi
  refine h B' H σ s' Q fun v B2 H2 d g2 i2 ⟨pl, pp⟩ => ?_
  exact q v B H2 d (Grow.up s.g.bh g2.h) (i2.plain pl) pp
theorem tx_borrow (i j : Nat) {p : Addr} {l : List D} {P : Bool → Prop} (h : TX X B0 H0 (sds.set i (.d (.lst l))) (os.eraseIdx j) e P) (hj : os[j]? = some (p, .lst l) := by rfl) (hi : sds[i]? = some (.v (.ref p)) := by rfl) : TX X B0 H0 sds os e P := fun B H σ s Q q => by
  obtain ⟨B', e1, s'⟩ := s.freezeAt hj hi
  refine h B' H σ s' Q fun v B2 H2 g2 pp => q v B H2 (Grow.up s.g.bh g2.h) pp
/-- an owned list's object is changed -/
theorem St.put {K : PySem.W.Frag} {B H : Hp} {σ : L2.St} {p : Addr} {l l' : List D} {os1 os2 : List (Addr × OV)} (s : St K B0 H0 B H σ sds (os1 ++ (p, .lst l) :: os2)) {xs : List V} (ha : IsAll K B xs l') : St K B0 H0 B (upd H p (.lst xs)) σ sds (os1 ++ (p, .lst l') :: os2) := by
  have fp := s.fr p (by simp [fpt])
  have nd := s.nd
  rw [List.flatMap_append, List.flatMap_cons, show fpt (p, OV.lst l) = [p] from rfl] at nd
  have nd2 := List.nodup_append.mp nd
  have np : ∀ e ∈ os1 ++ os2, p ∉ fpt e := fun e he hm => by
    rcases List.mem_append.mp he with z | z
    · exact nd2.2.2 p (List.mem_flatMap.mpr ⟨e, z, hm⟩) p (by simp) rfl
    · exact (List.nodup_cons.mp nd2.2.1).1 (List.mem_flatMap.mpr ⟨e, z, hm⟩)
  have keep : ∀ a o, a ≠ p → H a = some o → upd H p (.lst xs) a = some o := fun a o hn q => by rw [upd_ne hn]; exact q
  have rows : ∀ {rs : List Addr} {M : List (List D)}, Rows K B H rs M → (∀ a ∈ rs, a ≠ p) → Rows K B (upd H p (.lst xs)) rs M := by
    intro rs M h
    induction h with
    | nil => intro _; exact .nil
    | cons h1 h2 h3 ih => intro hn; exact .cons (keep _ _ (hn _ (by simp)) h1) h2 (ih fun a ha => hn a (List.mem_cons_of_mem _ ha))
  have other : ∀ e ∈ os1 ++ os2, Own K B (upd H p (.lst xs)) e := fun e he => by
    have hn := np e he
    have ho := s.ow e (by
      rcases List.mem_append.mp he with z | z
      · exact List.mem_append_left _ z
      · exact List.mem_append_right _ (List.mem_cons_of_mem _ z))
    obtain ⟨q, ov⟩ := e
    cases ov with
    | lst l => obtain ⟨ys, h1, h2⟩ := ho; exact ⟨ys, keep _ _ (fun z => hn (by simp [fpt, z])) h1, h2⟩
    | ins C dx fs => obtain ⟨ys, h1, h2⟩ := ho; exact ⟨ys, keep _ _ (fun z => hn (by simp [fpt, z])) h1, h2⟩
    | mat rs M => obtain ⟨h1, h2⟩ := ho; exact ⟨keep _ _ (fun z => hn (by simp [fpt, z])) h1, rows h2 fun a ha z => hn (by rw [← z]; simp [fpt, ha])⟩
  have fl : (os1 ++ (p, OV.lst l') :: os2).flatMap fpt = (os1 ++ (p, OV.lst l) :: os2).flatMap fpt := by
    rw [List.flatMap_append, List.flatMap_append, List.flatMap_cons, List.flatMap_cons] <;> rfl
  refine ⟨⟨s.g.b, s.g.h.mut fp.2, Evl.Ex.mut s.g.bh fp.1, s.g.fr⟩, s.sl, fun e he => ?_, fun a ha => s.fr a (fl ▸ ha), fl ▸ s.nd⟩
  rcases List.mem_append.mp he with z | z
  · exact other e (List.mem_append_left _ z)
  · rcases List.mem_cons.mp z with z | z
    · subst z; exact ⟨xs, upd_same, ha⟩
    · exact other e (List.mem_append_right _ z)
theorem St.putAt {K : PySem.W.Frag} {B H : Hp} {σ : L2.St} {p : Addr} {l l' : List D} {j : Nat} (s : St K B0 H0 B H σ sds os) (hj : os[j]? = some (p, .lst l)) {xs : List V} (ha : IsAll K B xs l') : St K B0 H0 B (upd H p (.lst xs)) σ sds (os.set j (p, .lst l')) := by
  rw [set_at hj]
  rw [split_at hj] at s
  exact s.put ha
theorem St.ownAt {K : PySem.W.Frag} {B H : Hp} {σ : L2.St} {p : Addr} {l : List D} {j : Nat} (s : St K B0 H0 B H σ sds os) (hj : os[j]? = some (p, .lst l)) : ∃ xs, H p = some (.lst xs) ∧ IsAll K B xs l := s.ow (p, .lst l) (List.mem_of_getElem? hj)
/-- xs.append(e) of an owned list -/
theorem g1_append (c : Ctx X N S) (i j : Nat) {x : PySem.Str} {p : Addr} {l : List D} {px pa pc : Pos} (h : EX X B0 H0 sds os e fun d => l.length < 100000 ∧ E.nx sds (os.set j (p, .lst (l ++ [d])))) (hj : os[j]? = some (p, .lst l) := by rfl) (hi : sds[i]? = some (.v (.ref p)) := by rfl)
    (hN : N[i]? = some x := by rfl) (hv : visB S x = true := by decide +kernel) (hd : (x == ("__debug__" : PySem.Str)) = false := by decide +kernel) (hcd : (x == ("__classdict__" : PySem.Str)) = false := by decide +kernel)
    (hs : swapsWith (.Call (.Attribute (.Name x px) "append" pa) [e] [] pc) none pos.line X.env = pure false := by rfl)
    (hbase : attributeBase (.Name x px) "append" X.env (eval (.Name x px) X.env) = eval (.Name x px) X.env := by rfl)
    (hfew : ((backTo pc (starEach [e] X.env)).all (fun x => !x.1) && (backToKw pc (keywordEach [] X.env)).all (fun x => x.1.isSome)
      && decide ([e].length + ([] : List Keyword).length + (if ([] : List Keyword).isEmpty then 0 else 1) < 30)) = true := by rfl)
    (hline : (pa.endLine == pc.line) = true := by rfl) (hst : starEach [e] X.env = [(false, eval e X.env)] := by rfl) :
    Go1 X B0 H0 sds os E (.Expr (.Call (.Attribute (.Name x px) "append" pa) [e] [] pc) pos) := fun A B H σ ea s => by
  refine PS.to (ps_expr (pe_bm PySem.F.plainAttrs_list PySem.F.slot_list_append PySem.F.type_list_append mt_append (pe_var (i := i) (by rw [c.hN]; exact hN) (c.vis hv) hd hcd) (pa_cons pe_w pa_nil hst) hbase hfew hline hst rfl) hs) ?_
  obtain ⟨xs, hp, ha⟩ := s.ownAt hj
  refine ⟨.ref p, s.varV hi, .inl ⟨rfl, _, SqL.of hp⟩, ?_⟩
  refine h B H σ s _ fun v B1 H1 d g1 i1 ⟨hl, k⟩ => ?_
  have s1 := s.grow g1
  have ha1 := IsAll.mono g1.b _ _ ha
  refine ⟨p, xs, v, rfl, rfl, g1.h _ _ hp, by rw [ha.len]; exact Nat.lt_of_lt_of_le hl (by decide), ?_⟩
  exact ⟨B1, _, _, ea.trans g1.b, s1.putAt hj (ha1.app (.cons i1 .nil)), k⟩
/-- xs[k] = e of an owned list -/
theorem g1_setO (c : Ctx X N S) (i j : Nat) {x : PySem.Str} {p : Addr} {l : List D} {px ps : Pos} (h : EX X B0 H0 sds os e fun d => EX X B0 H0 sds os b fun di => ∃ k : Nat, di = .int (k : Int) ∧ k < l.length ∧ E.nx sds (os.set j (p, .lst (l.set k d)))) (hj : os[j]? = some (p, .lst l) := by rfl) (hi : sds[i]? = some (.v (.ref p)) := by rfl)
    (hN : N[i]? = some x := by rfl) (hv : visB S x = true := by decide +kernel) (hd : (x == ("__debug__" : PySem.Str)) = false := by decide +kernel) (hcd : (x == ("__classdict__" : PySem.Str)) = false := by decide +kernel)
    (ha : ∀ v, assign (.Subscript (.Name x px) b ps) X.env v = (do
      let ov ← holding [v] (eval (.Name x px) X.env)
      let iv ← holding [v, ov] (eval b X.env)
      standAt ps
      holding [v, ov, iv] (setItem ov iv v)
      release [v, ov, iv] []) := by intro _; rfl)
    (hs : swapsWithSole [.Subscript (.Name x px) b ps] e pos.line X.env = pure false := by rfl) (hw : swappedStores [.Subscript (.Name x px) b ps] e X.env = pure none := by rfl)
    (h1 : (assignEach [.Subscript (.Name x px) b ps] X.env).map (·.2) = [assign (.Subscript (.Name x px) b ps) X.env] := by rfl) :
    Go1 X B0 H0 sds os E (.Assign [.Subscript (.Name x px) b ps] e pos) := fun A B H σ ea s => by
  refine PS.to (ps_asg pe_w (pg_sub (pe_var (i := i) (by rw [c.hN]; exact hN) (c.vis hv) hd hcd) pe_w set_list ha) hs hw h1) ?_
  obtain ⟨xs, hp, hxs⟩ := s.ownAt hj
  refine h B H σ s _ fun v B1 H1 d g1 i1 k1 => ?_
  refine ⟨.ref p, s.varV hi, ?_⟩
  refine k1 B1 H1 σ (s.grow g1) _ fun w B2 H2 di g2 i2 ⟨k, e2, hk, kk⟩ => ?_
  subst e2; cases i2
  have s2 := (s.grow g1).grow g2
  have ha2 := IsAll.mono g2.b _ _ (IsAll.mono g1.b _ _ hxs)
  refine ⟨p, xs, _, k, rfl, rfl, g2.h _ _ (g1.h _ _ hp), Evl.ixN_nat (by rw [hxs.len]; exact hk), ?_⟩
  exact ⟨B2, _, _, (ea.trans g1.b).trans g2.b, s2.putAt hj (ha2.set (i1.mono g2.b)), kk⟩
end
end OB
set_option Elab.async false
set_option linter.all false
set_option maxRecDepth 100000
set_option maxHeartbeats 4000000
namespace OB
open PySem PySem.Spec PyProof.Rows L2

/-! ### targets -/
inductive Tg where
  | nm (i : Nat)
  | tp (is : List Nat)
def setMany : List SD → List Nat → List D → List SD
  | sds, i :: is, u :: us => setMany (sds.set i (.d u)) is us
  | sds, _, _ => sds
def Tg.put : Tg → D → List SD → (List SD → Prop) → Prop
  | .nm i, d, sds, k => k (sds.set i (.d d))
  | .tp is, d, sds, k => ∃ us, d = .tup us ∧ us.length = is.length ∧ k (setMany sds is us)
def gNames : List Nat → TGs
  | [] => gNil
  | i :: is => gCons (gName i) (gNames is)
def Tg.r (K : PySem.W.Frag) : Tg → TG
  | .nm i => gName i
  | .tp is => gTup K is.length (gNames is)
section
variable {K : PySem.W.Frag} {B0 H0 B H : Hp} {sds : List SD} {os : List (Addr × OV)} {Q : L2.St → Hp → Prop}
theorem names_run : ∀ (is : List Nat) (us : List D) (vs : List V) (σ : L2.St) (sds : List SD), St K B0 H0 B H σ sds os → IsAll K B vs us → us.length = is.length → (∀ σ', St K B0 H0 B H σ' (setMany sds is us) os → Q σ' H) → gNames is vs σ H Q
  | [], us, vs, σ, sds, s, h, hl, k => by
    have e : us = [] := List.length_eq_zero_iff.mp hl
    subst e
    cases h
    exact ⟨rfl, k σ s⟩
  | i :: is, [], vs, σ, sds, s, h, hl, k => by cases hl
  | i :: is, u :: us, vs, σ, sds, s, h, hl, k => by
    cases h with
    | cons h1 h2 => exact ⟨_, _, rfl, names_run is us _ _ _ (s.set h1) h2 (by simpa using hl) k⟩
theorem Tg.run {t : Tg} {v : V} {d : D} {σ : L2.St} {k : List SD → Prop} (s : St K B0 H0 B H σ sds os) (h : Is K B v d) (hp : t.put d sds k) (hq : ∀ σ' sds', St K B0 H0 B H σ' sds' os → k sds' → Q σ' H) : t.r K v σ H Q := by
  cases t with
  | nm i => exact hq _ _ (s.set h) hp
  | tp is =>
    obtain ⟨us, e, hl, kk⟩ := hp
    subst e
    cases h with
    | tup hs ha => exact ⟨_, _, rfl, SqT.of (s.g.bh _ _ hs), by rw [ha.len]; exact hl, names_run is us _ _ _ s ha hl fun σ' s' => hq σ' _ s' kk⟩
end
section
variable {X : Cx} {N : List PySem.Str} {S : Scope} {x : PySem.Str} {px pos : Pos}
theorem tg_nm (c : CtxD X N S) (i : Nat) (hN : N[i]? = some x := by rfl) (hv : locB S x = true := by decide +kernel) : PG X (.Name x px) ((Tg.nm i).r X.K) :=
  pg_name (by rw [c.hN]; exact c.nd) (by rw [c.hN]; exact hN) (c.toCtx.loc hv) c.locf
theorem tgs_nil : PGs X [] (gNames []) := pgs_nil
theorem tgs_cons (c : CtxD X N S) {es : List Expr} {is : List Nat} (i : Nat) (h : PGs X es (gNames is)) (hN : N[i]? = some x := by rfl) (hv : locB S x = true := by decide +kernel) (hs : (assignEach (.Name x px :: es) X.env).map (·.2) = assign (.Name x px) X.env :: (assignEach es X.env).map (·.2) := by rfl) : PGs X (.Name x px :: es) (gNames (i :: is)) :=
  pgs_cons (pg_name (by rw [c.hN]; exact c.nd) (by rw [c.hN]; exact hN) (c.toCtx.loc hv) c.locf) h hs
theorem tg_tp (c : CtxD X N S) {es : List Expr} {kk : Nat} {is : List Nat} (h : PGs X es (gNames is)) (hn : (assignEach es X.env).length = is.length := by rfl) (hst : (assignEach es X.env).findIdx? (·.1) = none := by rfl) : PG X (.Tuple es kk pos) ((Tg.tp is).r X.K) := pg_tup c.calm h hn hst
/-- .. within a comprehension: the names are the block's locals -/
def lclB (S : Scope) (x : PySem.Str) : Bool := match S.names.lookup x with
  | some .local => true
  | _ => false
theorem Ctx.lcl (c : Ctx X N S) (h : lclB S x = true) : X.env.scope.names.lookup x = some .local := by
  unfold lclB at h
  rw [c.hS]
  split at h
  · rename_i e; exact e
  · cases h
theorem tb_nm (c : Ctx X N S) (i : Nat) (hN : N[i]? = some x := by rfl) (hv : lclB S x = true := by decide +kernel) : PG X (.Name x px) ((Tg.nm i).r X.K) :=
  pg_name (by rw [c.hN]; exact c.nd) (by rw [c.hN]; exact hN) (.inl (c.lcl hv)) (.inr (c.lcl hv))
theorem tbs_cons (c : Ctx X N S) {es : List Expr} {is : List Nat} (i : Nat) (h : PGs X es (gNames is)) (hN : N[i]? = some x := by rfl) (hv : lclB S x = true := by decide +kernel) (hs : (assignEach (.Name x px :: es) X.env).map (·.2) = assign (.Name x px) X.env :: (assignEach es X.env).map (·.2) := by rfl) : PGs X (.Name x px :: es) (gNames (i :: is)) :=
  pgs_cons (pg_name (by rw [c.hN]; exact c.nd) (by rw [c.hN]; exact hN) (.inl (c.lcl hv)) (.inr (c.lcl hv))) h hs
theorem tb_tp (c : Ctx X N S) {es : List Expr} {kk : Nat} {is : List Nat} (h : PGs X es (gNames is)) (hn : (assignEach es X.env).length = is.length := by rfl) (hst : (assignEach es X.env).findIdx? (·.1) = none := by rfl) : PG X (.Tuple es kk pos) ((Tg.tp is).r X.K) := pg_tup c.calm h hn hst
end

/-! ### what is walked -/
structure Walk (K : PySem.W.Frag) (J : It) (B : Hp) (l : List D) : Prop where
  go : ∀ k H, Ex B H → k < l.length → J.go k H
  stop : ∀ k H, Ex B H → l.length ≤ k → J.stop k H
  yld : ∀ k B1 H1 v H2, Ex B B1 → Ex B1 H1 → k < l.length → J.yld k H1 v H2 → ∃ d B2, l[k]? = some d ∧ Grow B1 H1 B2 H2 ∧ Is K B2 v d
/-- e may be walked, its items are the data l -/
def IX (X : Cx) (B0 H0 : Hp) (sds : List SD) (os : List (Addr × OV)) (tg e : Expr) (P : List D → Prop) : Prop :=
  ∃ wi : TI, PI X tg e wi ∧ ∀ B H σ, St X.K B0 H0 B H σ sds os → ∀ R : It → Hp → Prop, (∀ J B' H' l, Grow B H B' H' → P l → Walk X.K J B' l → R J H') → wi σ H R
section
variable {X : Cx} {N : List PySem.Str} {S : Scope} {B0 H0 : Hp} {sds : List SD} {os : List (Addr × OV)} {E : DE} {pos : Pos} {a b e tg : Expr} {es : List Expr} {st : Stmt} {rest body : List Stmt} {P : List D → Prop}
theorem ix_list (h : EX X B0 H0 sds os e fun d => ∃ l, d = .lst l ∧ P l) : IX X B0 H0 sds os tg e P := ⟨_, pi_list pe_w, fun B H σ s R q => h B H σ s _ fun v B1 H1 d g1 i1 ⟨l, e1, p⟩ => by
  subst e1
  cases i1 with
  | @lst a xs _ hs ha =>
    refine ⟨a, rfl, ⟨xs, SqL.of (g1.bh _ _ hs)⟩, q _ B1 H1 l g1 p ⟨fun k H hb hk => ?_, fun k H hb hk => ?_, fun k B2 H2 v H3 hb hb2 hk hy => ?_⟩⟩
    · obtain ⟨v, hv, _⟩ := ha.get (List.getElem?_eq_getElem hk)
      exact ⟨xs, v, SqL.of (hb _ _ hs), hv⟩
    · exact ⟨xs, SqL.of (hb _ _ hs), by rw [ha.len]; exact hk⟩
    · obtain ⟨e, hy⟩ := hy
      subst e
      obtain ⟨d, hd, id⟩ := ha.got (hy xs (SqL.of (hb2 _ _ (hb _ _ hs))))
      exact ⟨d, B2, hd, Grow.refl hb2, id.mono hb⟩⟩
theorem ix_tup (h : EX X B0 H0 sds os e fun d => ∃ l, d = .tup l ∧ P l) : IX X B0 H0 sds os tg e P := ⟨_, pi_tup pe_w, fun B H σ s R q => h B H σ s _ fun v B1 H1 d g1 i1 ⟨l, e1, p⟩ => by
  subst e1
  cases i1 with
  | @tup a xs _ hs ha =>
    refine ⟨a, rfl, ⟨xs, SqT.of (g1.bh _ _ hs)⟩, q _ B1 H1 l g1 p ⟨fun k H hb hk => ?_, fun k H hb hk => ?_, fun k B2 H2 v H3 hb hb2 hk hy => ?_⟩⟩
    · obtain ⟨v, hv, _⟩ := ha.get (List.getElem?_eq_getElem hk)
      exact ⟨xs, v, SqT.of (hb _ _ hs), hv⟩
    · exact ⟨xs, SqT.of (hb _ _ hs), by rw [ha.len]; exact hk⟩
    · obtain ⟨e, hy⟩ := hy
      subst e
      obtain ⟨d, hd, id⟩ := ha.got (hy xs (SqT.of (hb2 _ _ (hb _ _ hs))))
      exact ⟨d, B2, hd, Grow.refl hb2, id.mono hb⟩⟩
/-- the ints of a range -/
def rngD (lo : Int) (n : Nat) : List D := (List.range n).map fun (i : Nat) => .int (lo + (i : Int))
theorem rngD_len (lo : Int) (n : Nat) : (rngD lo n).length = n := by simp [rngD]
theorem rngD_get {lo : Int} {n k : Nat} (h : k < n) : (rngD lo n)[k]? = some (.int (lo + (k : Int))) := by simp [rngD, h]
theorem walk_rng {K : PySem.W.Frag} {B : Hp} {lo : Int} {n : Nat} : Walk K (Itr lo n) B (rngD lo n) := ⟨fun k H _ hk => by rw [rngD_len] at hk; exact hk, fun k H _ hk => by rw [rngD_len] at hk; exact hk, fun k B1 H1 v H2 _ hb hk ⟨e1, e2⟩ => by
  subst e1; subst e2
  rw [rngD_len] at hk
  exact ⟨_, B1, rngD_get hk, Grow.refl hb, .int _⟩⟩
theorem ix_range1 (c : Ctx X N S) {p pos : Pos} (hm : X.mg "range" = none) (h : EX X B0 H0 sds os e fun d => ∃ n : Int, d = .int n ∧ -(2 ^ 62) ≤ n ∧ n < 2 ^ 62 ∧ P (rngD 0 n.toNat)) (hg : glB S "range" = true := by decide +kernel) (hs : starEach [e] X.env = [(false, eval e X.env)] := by rfl) : IX X B0 H0 sds os tg (.Call (.Name "range" p) [e] [] pos) P :=
  ⟨_, pi_range1 (c.gl hg) hm (pa_cons pe_w pa_nil hs) hs, fun B H σ s R q => h B H σ s _ fun v B1 H1 d g1 i1 ⟨n, e1, h1, h2, p⟩ => by
    subst e1; cases i1
    exact ⟨n, rfl, h1, h2, q _ B1 H1 _ g1 p walk_rng⟩⟩
theorem ix_range2 (c : Ctx X N S) {p pos : Pos} (hm : X.mg "range" = none) (h : EX X B0 H0 sds os a fun d => EX X B0 H0 sds os b fun d' => ∃ lo n : Int, d = .int lo ∧ d' = .int n ∧ (-(2 ^ 62) ≤ lo ∧ lo < 2 ^ 62 ∧ -(2 ^ 62) ≤ n ∧ n < 2 ^ 62) ∧ P (rngD lo (n - lo).toNat))
    (hg : glB S "range" = true := by decide +kernel) (hs : starEach [a, b] X.env = [(false, eval a X.env), (false, eval b X.env)] := by rfl) (hs2 : starEach [b] X.env = [(false, eval b X.env)] := by rfl) : IX X B0 H0 sds os tg (.Call (.Name "range" p) [a, b] [] pos) P :=
  ⟨_, pi_range2 (c.gl hg) hm (pa_cons pe_w (pa_cons pe_w pa_nil hs2) (by rw [hs, hs2])) hs hs2, fun B H σ s R q => h B H σ s _ fun v B1 H1 d g1 i1 k => k B1 H1 σ (s.grow g1) _ fun w B2 H2 d' g2 i2 ⟨lo, n, e1, e2, hb, p⟩ => by
    subst e1; subst e2; cases i1; cases i2
    exact ⟨lo, n, rfl, hb, q _ B2 H2 _ (g1.trans g2) p walk_rng⟩⟩
/-- enumerate of a list -/
def enumD (l : List D) : List D := (List.range l.length).map fun (i : Nat) => .tup [.int (i : Int), l.getD i .non]
theorem enumD_len (l : List D) : (enumD l).length = l.length := by simp [enumD]
theorem enumD_get {l : List D} {k : Nat} {d : D} (h : l[k]? = some d) : (enumD l)[k]? = some (.tup [.int (k : Int), d]) := by
  obtain ⟨hk, e⟩ := List.getElem?_eq_some_iff.mp h
  simp [enumD, hk, List.getD, h, e]
theorem ix_enum (c : Ctx X N S) {p pos tpos : Pos} {elts : List Expr} {kk : Nat} (hm : X.mg "enumerate" = none) (h : EX X B0 H0 sds os e fun d => ∃ l, d = .lst l ∧ P (enumD l)) (hg : glB S "enumerate" = true := by decide +kernel) (hs : starEach [e] X.env = [(false, eval e X.env)] := by rfl) :
    IX X B0 H0 sds os (.Tuple elts kk tpos) (.Call (.Name "enumerate" p) [e] [] pos) P :=
  ⟨_, pi_enum (c.gl hg) hm (pa_cons pe_w pa_nil hs) hs, fun B H σ s R q => h B H σ s _ fun v B1 H1 d g1 i1 ⟨l, e1, p⟩ => by
    subst e1
    cases i1 with
    | @lst a xs _ hs ha =>
      refine ⟨a, xs, rfl, SqL.of (g1.bh _ _ hs), q _ B1 H1 _ g1 p ⟨fun k H hb hk => ?_, fun k H hb hk => ?_, fun k B2 H2 v H3 hb hb2 hk hy => ?_⟩⟩
      · rw [enumD_len] at hk
        obtain ⟨v, hv, _⟩ := ha.get (List.getElem?_eq_getElem hk)
        exact ⟨xs, v, SqL.of (hb _ _ hs), hv⟩
      · rw [enumD_len] at hk
        exact ⟨xs, SqL.of (hb _ _ hs), by rw [ha.len]; exact hk⟩
      · obtain ⟨T, x, e1, hT, e2, hy⟩ := hy
        subst e1; subst e2
        obtain ⟨d, hd, id⟩ := ha.got (hy xs (SqL.of (hb2 _ _ (hb _ _ hs))))
        have g := Grow.new (o := .tup [.int (k : Nat), x]) hb2 hT
        exact ⟨_, _, enumD_get hd, g, .tup upd_same (.cons (.int _) (.cons (id.mono (hb.trans g.b)) .nil))⟩⟩

/-! ### for -/
abbrev LoopI := Nat → List SD → List (Addr × OV) → Prop
def ForOk (X : Cx) (B0 H0 : Hp) (sds : List SD) (os : List (Addr × OV)) (E : DE) (t : Tg) (body : List Stmt) (l : List D) : Prop :=
  ∃ I : LoopI, I 0 sds os ∧ (∀ k u sds' os', l[k]? = some u → I k sds' os' → t.put u sds' fun sds'' => Go X B0 H0 sds'' os' { E with nx := I (k + 1), ct := I (k + 1), bk := E.nx } body) ∧ ∀ sds' os', I l.length sds' os' → E.nx sds' os'
theorem g1_for {t : Tg} (hp : PassesOwn (model X.prog X.w) X.A X.env X.xe) (hc : X.calm = true) (hg : PG X tg (t.r X.K)) (hi : IX X B0 H0 sds os tg e (ForOk X B0 H0 sds os E t body))
    (hs : ∀ x, foldedSetIterable e X.env x = pure x := by intro _; rfl) : Go1 X B0 H0 sds os E (.For tg e body [] pos) := fun A B H σ ea s => by
  obtain ⟨wi, hpi, hw⟩ := hi
  refine PS.to (ps_for hp hc hpi hg pss_w hs) ?_
  refine hw B H σ s _ fun J B1 H1 l g1 ⟨I, h0, ht, hd⟩ wk => ?_
  have s1 := s.grow g1
  refine ⟨fun k m σ' H' => m = l.length - k ∧ k ≤ l.length ∧ ∃ B' sds' os', Ex B1 B' ∧ St X.K B0 H0 B' H' σ' sds' os' ∧ I k sds' os', ⟨l.length, by simp, Nat.zero_le _, B1, sds, os, Evl.Ex.refl _, s1, h0⟩, ?_⟩
  rintro k m σ' H' ⟨rfl, hk, B', sds', os', eb, s', hI⟩
  by_cases hlt : k < l.length
  · refine .inr ⟨wk.go k H' (eb.trans s'.g.bh) hlt, fun σ'' H'' => ∃ B'' sds'' os'', Ex B1 B'' ∧ St X.K B0 H0 B'' H'' σ'' sds'' os'' ∧ I (k + 1) sds'' os'', fun σ'' H'' ⟨B'', sds'', os'', e2, s2, i2⟩ => ⟨l.length - (k + 1), by omega, rfl, hlt, B'', sds'', os'', e2, s2, i2⟩, fun x H2 hy => ?_⟩
    obtain ⟨d, B2, hd2, g2, i2⟩ := wk.yld k B' H' x H2 eb s'.g.bh hlt hy
    have s2 := s'.grow g2
    refine Tg.run s2 i2 (ht k d sds' os' hd2 hI) fun σ3 sds3 s3 go => ?_
    refine wSs.imp (go B1 B2 H2 σ3 (eb.trans g2.b) s3) (fun σ4 H4 h4 => h4) (fun v H4 ⟨B4, d4, e4, g4, i4, r4⟩ => ⟨B4, d4, (ea.trans g1.b).trans e4, g4, i4, r4⟩) (fun σ4 H4 ⟨B4, s4, o4, e4, t4, n4⟩ => ⟨B4, s4, o4, (ea.trans g1.b).trans e4, t4, n4⟩) (fun σ4 H4 h4 => h4)
  · have e : k = l.length := by omega
    subst e
    exact .inl ⟨wk.stop _ H' (eb.trans s'.g.bh) (Nat.le_refl _), B', sds', os', (ea.trans g1.b).trans eb, s', hd _ _ hI⟩

/-! ### while -/
theorem g1_while (hp : PassesOwn (model X.prog X.w) X.A X.env X.xe) (I : LoopI) (m0 : Nat) (h0 : I m0 sds os)
    (ht : ∀ m sds' os', I m sds' os' → TX X B0 H0 sds' os' e fun k => (k = true → Go X B0 H0 sds' os' { E with nx := fun s o => ∃ m', m' < m ∧ I m' s o, ct := fun s o => ∃ m', m' < m ∧ I m' s o, bk := E.nx } body) ∧ (k = false → E.nx sds' os')) :
    Go1 X B0 H0 sds os E (.While e body [] pos) := fun A B H σ ea s => by
  refine PS.to (ps_while hp pt_w pss_w) ?_
  refine ⟨fun m σ' H' => ∃ B' sds' os', Ex A B' ∧ St X.K B0 H0 B' H' σ' sds' os' ∧ I m sds' os', ⟨m0, B, sds, os, ea, s, h0⟩, ?_⟩
  rintro m σ' H' ⟨B', sds', os', eb, s', hI⟩
  refine ht m sds' os' hI B' H' σ' s' _ fun k B1 H1 g1 ⟨p1, p2⟩ => ?_
  have s1 := s'.grow g1
  cases k with
  | true =>
    rw [if_pos rfl]
    refine ⟨fun σ2 H2 => ∃ B2 s2 o2, Ex A B2 ∧ St X.K B0 H0 B2 H2 σ2 s2 o2 ∧ ∃ m', m' < m ∧ I m' s2 o2, fun σ2 H2 ⟨B2, s2, o2, e2, t2, m', hm, i2⟩ => ⟨m', hm, B2, s2, o2, e2, t2, i2⟩, ?_⟩
    exact wSs.imp (p1 rfl A B1 H1 σ' (eb.trans g1.b) s1) (fun _ _ h => h) (fun _ _ h => h) (fun _ _ h => h) (fun _ _ h => h)
  | false =>
    rw [if_neg Bool.false_ne_true]
    exact ⟨B1, sds', os', eb.trans g1.b, s1, p2 rfl⟩
end
end OB
set_option Elab.async false
set_option linter.all false
set_option maxRecDepth 100000
set_option maxHeartbeats 4000000
namespace OB
open PySem PySem.Spec PyProof.Rows L2
/-! ### comprehensions -/
theorem wipe_get (σ : L2.St) : ∀ (vs : List Nat) (j : Nat), (wipe σ vs)[j]? = if j ∈ vs ∧ j < σ.length then some none else σ[j]?
  | [], j => by simp [wipe]
  | v :: vs, j => by
    show ((wipe σ vs).set v none)[j]? = _
    by_cases hj : v = j
    · subst hj
      by_cases hl : v < σ.length
      · rw [List.getElem?_set_self (by rw [wipe_length]; exact hl), if_pos ⟨by simp, hl⟩]
      · rw [List.getElem?_eq_none (by rw [List.length_set, wipe_length]; omega), if_neg (fun h => hl h.2), List.getElem?_eq_none (by omega)]
    · rw [List.getElem?_set_ne hj, wipe_get σ vs j]
      have e : (j ∈ v :: vs ∧ j < σ.length) ↔ (j ∈ vs ∧ j < σ.length) := by
        rw [List.mem_cons]
        exact ⟨fun ⟨h1, h2⟩ => ⟨h1.resolve_left fun z => hj z.symm, h2⟩, fun ⟨h1, h2⟩ => ⟨.inr h1, h2⟩⟩
      simp only [e]
theorem wipe_set {σ : L2.St} {vs : List Nat} {i : Nat} {y : Option V} (hi : i ∈ vs) : wipe (σ.set i y) vs = wipe σ vs := by
  apply List.ext_getElem?
  intro j
  rw [wipe_get, wipe_get, List.length_set]
  by_cases hj : j ∈ vs ∧ j < σ.length
  · rw [if_pos hj, if_pos hj]
  · rw [if_neg hj, if_neg hj]
    by_cases e : i = j
    · subst e
      rw [List.getElem?_eq_none (by rw [List.length_set]; exact Nat.le_of_not_lt fun h => hj ⟨hi, h⟩), List.getElem?_eq_none (Nat.le_of_not_lt fun h => hj ⟨hi, h⟩)]
    · rw [List.getElem?_set_ne e]
theorem wipe_wipe {σ : L2.St} {vs : List Nat} : wipe (wipe σ vs) vs = wipe σ vs := by
  apply List.ext_getElem?
  intro j
  rw [wipe_get, wipe_get, wipe_length]
  by_cases hj : j ∈ vs ∧ j < σ.length
  · rw [if_pos hj, if_pos hj]
  · rw [if_neg hj, if_neg hj]
def Tg.idx : Tg → List Nat
  | .nm i => [i]
  | .tp is => is
def wipeS (sds : List SD) : List Nat → List SD
  | [] => sds
  | v :: vs => (wipeS sds vs).set v .un
section
variable {K : PySem.W.Frag} {B0 H0 B H : Hp} {sds : List SD} {os : List (Addr × OV)} {Q : L2.St → Hp → Prop}
theorem names_runW {vv : List Nat} : ∀ (is : List Nat) (us : List D) (vs : List V) (σ : L2.St) (sds : List SD), (∀ i ∈ is, i ∈ vv) → St K B0 H0 B H σ sds os → IsAll K B vs us → us.length = is.length → (∀ σ', wipe σ' vv = wipe σ vv → St K B0 H0 B H σ' (setMany sds is us) os → Q σ' H) → gNames is vs σ H Q
  | [], us, vs, σ, sds, hv, s, h, hl, k => by
    have e : us = [] := List.length_eq_zero_iff.mp hl
    subst e
    cases h
    exact ⟨rfl, k σ rfl s⟩
  | i :: is, [], vs, σ, sds, hv, s, h, hl, k => by cases hl
  | i :: is, u :: us, vs, σ, sds, hv, s, h, hl, k => by
    cases h with
    | cons h1 h2 => exact ⟨_, _, rfl, names_runW is us _ _ _ (fun j hj => hv j (List.mem_cons_of_mem _ hj)) (s.set h1) h2 (by simpa using hl) fun σ' e s' => k σ' (e.trans (wipe_set (hv i (by simp)))) s'⟩
theorem Tg.runW {vv : List Nat} {t : Tg} {v : V} {d : D} {σ : L2.St} {k : List SD → Prop} (hv : ∀ i ∈ t.idx, i ∈ vv) (s : St K B0 H0 B H σ sds os) (h : Is K B v d) (hp : t.put d sds k) (hq : ∀ σ' sds', wipe σ' vv = wipe σ vv → St K B0 H0 B H σ' sds' os → k sds' → Q σ' H) : t.r K v σ H Q := by
  cases t with
  | nm i => exact hq _ _ (wipe_set (hv i (by simp [Tg.idx]))) (s.set h) hp
  | tp is =>
    obtain ⟨us, e, hl, kk⟩ := hp
    subst e
    cases h with
    | tup hs ha => exact ⟨_, _, rfl, SqT.of (s.g.bh _ _ hs), by rw [ha.len]; exact hl, names_runW is us _ _ _ hv s ha hl fun σ' e s' => hq σ' _ e s' kk⟩
theorem Slots.wipe {σ : L2.St} (h : Slots K B σ sds) : ∀ vs : List Nat, Slots K B (wipe σ vs) (wipeS sds vs)
  | [] => h
  | v :: vs => (Slots.wipe h vs).forget
theorem St.wipe {σ : L2.St} (s : St K B0 H0 B H σ sds os) (vs : List Nat) : St K B0 H0 B H (L2.wipe σ vs) (wipeS sds vs) os := ⟨s.g, s.sl.wipe vs, s.ow, s.fr, s.nd⟩
end
/-- X' is the context of the comprehension's block in X -/
def Blk (X : Cx) (scope : Scope) (X' : Cx) : Prop := ∃ (s : Shared) (H : Hp) (C : Addr) (cl : List (PySem.Str × Addr)) (fp : List Addr), X' = X.blk s H scope (compEnvC scope cl C X.env) fp
section
variable {X X' : Cx} {N : List PySem.Str} {S scope : Scope}
theorem Blk.ctx (b : Blk X scope X') (c : Ctx X N S) : Ctx X' N (relS scope S) := by
  obtain ⟨s, H, C, cl, fp, rfl⟩ := b
  exact ⟨c.hN, by show relS scope X.env.scope = _; rw [c.hS], c.nd, c.calm⟩
end
section
variable {X : Cx} {N : List PySem.Str} {S scope : Scope} {B0 H0 : Hp} {sds : List SD} {os : List (Addr × OV)} {E : DE} {pos : Pos} {a b e elt tg iter cond : Expr} {P : List D → Prop}
/-- what a comprehension asks of the data walked -/
def LcOk (X : Cx) (scope : Scope) (B0 H0 : Hp) (sds : List SD) (os : List (Addr × OV)) (t : Tg) (vs : List Nat) (T : List SD → Bool → Prop) (elt : Expr) (P : List D → Prop) (l : List D) : Prop :=
  ∃ (α : Type) (L : List α) (enc : α → D) (f : α → Bool) (g : α → D), l = L.map enc ∧ L.length ≤ 100000 ∧ (∀ x ∈ L, t.put (enc x) (wipeS sds vs) fun s' => T s' (f x) ∧ (f x = true → ∀ X', Blk X scope X' → EX X' B0 H0 s' os elt (· = g x))) ∧ P ((L.filter f).map g)
theorem filter_take {α : Type} {L : List α} {f : α → Bool} {g : α → D} {k : Nat} {x : α} (h : L[k]? = some x) : ((L.take (k + 1)).filter f).map g = ((L.take k).filter f).map g ++ (if f x = true then [g x] else []) := by
  have hk := (List.getElem?_eq_some_iff.mp h).1
  have e : L.take (k + 1) = L.take k ++ [x] := by
    rw [List.take_succ, h] <;> rfl
  rw [e, List.filter_append, List.map_append]
  cases hf : f x with
  | true => simp [List.filter_cons, hf]
  | false => simp [List.filter_cons, hf]
/-- the body of a comprehension, its test read by tt -/
theorem lc_run {t : Tg} {vs : List Nat} {wi : TI} {tt : TT} {T : List SD → Bool → Prop} (hv : ∀ i ∈ t.idx, i ∈ vs) (hT : ∀ B H σ sds' f, St X.K B0 H0 B H σ sds' os → T sds' f → ∀ Q : Bool → Hp → Prop, (∀ B' H', Grow B H B' H' → Q f H') → tt σ H Q)
    (hi : ∀ B H σ, St X.K B0 H0 B H σ sds os → ∀ R : It → Hp → Prop, (∀ J B' H' l, Grow B H B' H' → LcOk X scope B0 H0 sds os t vs T elt P l → Walk X.K J B' l → R J H') → wi σ H R)
    {B H : Hp} {σ : L2.St} (s : St X.K B0 H0 B H σ sds os) {Q : VK} (q : ∀ p xs B' H' l, Grow B H B' H' → H p = none → B' p = none → H' p = some (.lst xs) → IsAll X.K B' xs l → P l → Q (.ref p) H') :
    tLc wi (t.r X.K) tt (fun σ H Q => ∀ X', Blk X scope X' → wE X' elt σ H Q) vs σ H Q := by
  refine hi B H σ s _ fun J B1 H1 l g1 ⟨α, L, enc, f, g, hl, hz, ht, hp⟩ wk => ?_
  have s1 := s.grow g1
  intro Dl hD
  have bD : B1 Dl = none := Evl.fresh_back g1.bh hD
  have ll : l.length = L.length := by rw [hl, List.length_map]
  refine ⟨fun k m H' => m = L.length - k ∧ k ≤ L.length ∧ ∃ B' xs, Grow B1 H1 B' H' ∧ B' Dl = none ∧ H' Dl = some (.lst xs) ∧ IsAll X.K B' xs (((L.take k).filter f).map g), ⟨L.length, by simp, Nat.zero_le _, B1, [], ⟨Evl.Ex.refl _, Evl.Ex.new hD, g1.bh.trans (Evl.Ex.new hD), fun _ h => .inl h⟩, bD, upd_same, .nil⟩, ?_⟩
  rintro k m H' ⟨rfl, hk, B', xs, gr, b', h', al⟩
  by_cases hlt : k < L.length
  · refine .inr ⟨wk.go k H' (gr.b.trans gr.bh) (by rw [ll]; exact hlt), fun H2 => k + 1 ≤ L.length ∧ ∃ B2 ys, Grow B1 H1 B2 H2 ∧ B2 Dl = none ∧ H2 Dl = some (.lst ys) ∧ IsAll X.K B2 ys (((L.take (k + 1)).filter f).map g), fun H2 ⟨hk2, h2⟩ => ⟨L.length - (k + 1), by omega, rfl, hk2, h2⟩, fun x H2 hy => ?_⟩
    obtain ⟨d, B2, hd, g2, i2⟩ := wk.yld k B' H' x H2 gr.b gr.bh (by rw [ll]; exact hlt) hy
    obtain ⟨y, hy'⟩ : ∃ y, L[k]? = some y := ⟨_, List.getElem?_eq_getElem hlt⟩
    have ed : d = enc y := by
      rw [hl, List.getElem?_map, hy'] at hd
      exact (Option.some.inj hd).symm
    subst ed
    have ym : y ∈ L := List.mem_of_getElem? hy'
    have gr2 := gr.trans g2
    have s2 := (s1.grow gr2).wipe vs
    have h2 : H2 Dl = some (.lst xs) := g2.h _ _ h'
    have b2 : B2 Dl = none := g2.out b' h'
    refine Tg.runW (vv := vs) hv s2 i2 (ht y ym) fun σ3 sds3 we s3 kk => ⟨we.trans wipe_wipe, ?_⟩
    have al2 := IsAll.mono g2.b _ _ al
    refine hT B2 H2 σ3 sds3 (f y) s3 kk.1 _ fun B3 H3 g3 => ?_
    have gr3 := gr2.trans g3
    have h3 : H3 Dl = some (.lst xs) := g3.h _ _ h2
    have b3 : B3 Dl = none := g3.out b2 h2
    have al3 := IsAll.mono g3.b _ _ al2
    cases hf : f y with
    | true =>
      rw [if_pos rfl]
      intro X' bx
      have hk' : X'.K = X.K := by obtain ⟨_, _, _, _, _, rfl⟩ := bx; rfl
      have ex := kk.2 hf X' bx
      have s3' := s3.grow g3
      rw [← hk'] at s3'
      refine ex B3 H3 σ3 s3' _ fun w B4 H4 d4 g4 i4 e4 => ?_
      subst e4
      rw [hk'] at i4
      have gr4 := gr3.trans g4
      have h4 : H4 Dl = some (.lst xs) := g4.h _ _ h3
      have b4 : B4 Dl = none := g4.out b3 h3
      have al4 := IsAll.mono g4.b _ _ al3
      have len : xs.length ≤ 100000 := by
        rw [al4.len, List.length_map]
        refine Nat.le_trans (List.length_filter_le _ _) ?_
        rw [List.length_take]; omega
      refine ⟨xs, h4, Nat.lt_of_le_of_lt len (by decide), hlt, B4, xs ++ [w], ⟨gr4.b, gr4.h.mut hD, Evl.Ex.mut gr4.bh b4, gr4.fr⟩, b4, upd_same, ?_⟩
      rw [filter_take hy', if_pos hf]
      exact al4.app (.cons i4 .nil)
    | false =>
      rw [if_neg Bool.false_ne_true]
      refine ⟨hlt, B3, xs, gr3, b3, h3, ?_⟩
      rw [filter_take hy', if_neg (by rw [hf]; exact Bool.false_ne_true), List.append_nil]
      exact al3
  · have e : k = L.length := by omega
    subst e
    refine .inl ⟨wk.stop _ H' (gr.b.trans gr.bh) (by rw [ll]; exact Nat.le_refl _), ?_⟩
    rw [List.take_length] at al
    exact q Dl xs B' H' _ (g1.trans gr) (Evl.fresh_back g1.h hD) b' h' al hp
def LcOk0 (X : Cx) (scope : Scope) (B0 H0 : Hp) (sds : List SD) (os : List (Addr × OV)) (t : Tg) (vs : List Nat) (elt : Expr) (P : List D → Prop) (l : List D) : Prop :=
  ∃ (α : Type) (L : List α) (enc : α → D) (g : α → D), l = L.map enc ∧ L.length ≤ 100000 ∧ (∀ x ∈ L, t.put (enc x) (wipeS sds vs) fun s' => ∀ X', Blk X scope X' → EX X' B0 H0 s' os elt (· = g x)) ∧ P (L.map g)
def LcOk1 (X : Cx) (scope : Scope) (B0 H0 : Hp) (sds : List SD) (os : List (Addr × OV)) (t : Tg) (vs : List Nat) (cond elt : Expr) (P : List D → Prop) (l : List D) : Prop :=
  ∃ (α : Type) (L : List α) (enc : α → D) (f : α → Bool) (g : α → D), l = L.map enc ∧ L.length ≤ 100000 ∧ (∀ x ∈ L, t.put (enc x) (wipeS sds vs) fun s' => ∀ X', Blk X scope X' → TX X' B0 H0 s' os cond (· = f x) ∧ (f x = true → EX X' B0 H0 s' os elt (· = g x))) ∧ P ((L.filter f).map g)
theorem Tg.put_imp {t : Tg} {d : D} {s : List SD} {k k' : List SD → Prop} (h : t.put d s k) (i : ∀ s, k s → k' s) : t.put d s k' := by
  cases t with
  | nm j => exact i _ h
  | tp is => obtain ⟨us, e, l, q⟩ := h; exact ⟨us, e, l, i _ q⟩
theorem IX.imp {P P' : List D → Prop} (h : IX X B0 H0 sds os tg iter P) (i : ∀ l, P l → P' l) : IX X B0 H0 sds os tg iter P' := by
  obtain ⟨wi, hp, hw⟩ := h
  exact ⟨wi, hp, fun B H σ s R q => hw B H σ s R fun J B' H' l g p w => q J B' H' l g (i l p) w⟩
/-- [elt for tg in iter] -/
theorem el_lc0 (c : Ctx X N S) (own : List (PySem.Str × Nat)) (t : Tg) (hg : ∀ X', Blk X scope X' → PG X' tg (t.r X'.K))
    (hi : IX X B0 H0 sds os tg iter (LcOk0 X scope B0 H0 sds os t (own.map (·.2)) elt P))
    (hb : blkC N S scope own = true := by decide +kernel) (hv : (t.idx.all fun i => decide (i ∈ own.map (·.2))) = true := by decide) (hs : ∀ x, foldedSetIterable iter X.env x = pure x := by intro _; rfl) :
    EL X B0 H0 sds os (.ListComp elt [⟨tg, iter, [], 0⟩] scope pos) P := fun B H σ s Q q => by
  obtain ⟨wi, hpi, hw⟩ := hi.imp (P' := LcOk X scope B0 H0 sds os t (own.map (·.2)) (fun _ b => b = true) elt P) fun l ⟨α, L, enc, g, h1, h2, h3, h4⟩ =>
    ⟨α, L, enc, fun _ => true, g, h1, h2, fun x hx => Tg.put_imp (h3 x hx) fun s k => ⟨rfl, fun _ => k⟩, by rw [List.filter_eq_self.mpr (fun _ _ => rfl)]; exact h4⟩
  have hv' : ∀ i ∈ t.idx, i ∈ own.map (·.2) := fun i h => of_decide_eq_true (List.all_eq_true.mp hv i h)
  refine PE.to (pe_lc (g := t.r X.K) (tt := tYes) (te := fun σ H Q => ∀ X', Blk X scope X' → wE X' elt σ H Q) c.calm (by rw [c.hN]; exact c.nd) hpi (blkOk_by (by rw [c.hN, c.hS]; exact hb)) (fun s H C cl fp => hg _ ⟨s, H, C, cl, fp, rfl⟩) (fun _ _ _ _ _ => pts_nil) (fun s H C cl fp => ⟨fun pins sh σ' H' Q' I h => (h _ ⟨s, H, C, cl, fp, rfl⟩).run pins sh I⟩) hs) ?_
  refine lc_run hv' (fun B H σ sds' f s' hT Q q => ?_) hw s q
  subst hT
  exact q B H (Grow.refl s'.g.bh)
/-- [elt for tg in iter if cond] -/
theorem el_lc1 (c : Ctx X N S) (own : List (PySem.Str × Nat)) (t : Tg) (hg : ∀ X', Blk X scope X' → PG X' tg (t.r X'.K))
    (hi : IX X B0 H0 sds os tg iter (LcOk1 X scope B0 H0 sds os t (own.map (·.2)) cond elt P))
    (hb : blkC N S scope own = true := by decide +kernel) (hv : (t.idx.all fun i => decide (i ∈ own.map (·.2))) = true := by decide) (hs : ∀ x, foldedSetIterable iter X.env x = pure x := by intro _; rfl) :
    EL X B0 H0 sds os (.ListComp elt [⟨tg, iter, [cond], 0⟩] scope pos) P := fun B H σ s Q q => by
  obtain ⟨wi, hpi, hw⟩ := hi.imp (P' := LcOk X scope B0 H0 sds os t (own.map (·.2)) (fun s' b => ∀ X', Blk X scope X' → TX X' B0 H0 s' os cond (· = b)) elt P) fun l ⟨α, L, enc, f, g, h1, h2, h3, h4⟩ =>
    ⟨α, L, enc, f, g, h1, h2, fun x hx => Tg.put_imp (h3 x hx) fun s k => ⟨fun X' b => (k X' b).1, fun hf X' b => (k X' b).2 hf⟩, h4⟩
  have hv' : ∀ i ∈ t.idx, i ∈ own.map (·.2) := fun i h => of_decide_eq_true (List.all_eq_true.mp hv i h)
  refine PE.to (pe_lc (g := t.r X.K) (tt := fun σ H Q => ∀ X', Blk X scope X' → wT X' cond σ H Q) (te := fun σ H Q => ∀ X', Blk X scope X' → wE X' elt σ H Q) c.calm (by rw [c.hN]; exact c.nd) hpi (blkOk_by (by rw [c.hN, c.hS]; exact hb)) (fun s H C cl fp => hg _ ⟨s, H, C, cl, fp, rfl⟩)
    (fun s H C cl fp => pts_one ⟨fun pins sh σ' H' Q' I h => (h _ ⟨s, H, C, cl, fp, rfl⟩).run pins sh I⟩) (fun s H C cl fp => ⟨fun pins sh σ' H' Q' I h => (h _ ⟨s, H, C, cl, fp, rfl⟩).run pins sh I⟩) hs) ?_
  refine lc_run hv' (fun B H σ sds' f s' hT Q q => ?_) hw s q
  intro X' bx
  have hk' : X'.K = X.K := by obtain ⟨_, _, _, _, _, rfl⟩ := bx; rfl
  rw [← hk'] at s'
  exact hT X' bx B H σ s' Q fun b B' H' g e => by subst e; exact q B' H' g
end
end OB
set_option Elab.async false
set_option linter.all false
set_option maxRecDepth 100000
set_option maxHeartbeats 4000000
namespace OB
open PySem PySem.Spec PyProof.Rows L2
/-! ### functions of the text -/
abbrev SpD := List D → (D → Prop) → (Addr → List (PySem.Str × D) → Prop) → Prop
def toSp (K : PySem.W.Frag) (S : SpD) : Sp := fun vs H Q E => ∃ B ds P R, Ex B H ∧ IsAll K B vs ds ∧ S ds P R ∧ (∀ v B' H' d, Grow B H B' H' → Is K B' v d → P d → Q v H') ∧
  (∀ C fs dd ws B' H', Grow B H B' H' → H' dd = some (.xd ws) → IsFs K B' ws fs → R C fs → E (.ref C) (some dd) H')
structure FnD (P : Program) (w : World) (K : PySem.W.Frag) (mg : PySem.Str → Option Value) (base : Heap) (x : PySem.Str) (k : Nat) (S : SpD) : Prop where
  ex : ∃ (f : Addr) (fd : FuncData) (ps : List PySem.Str), mg x = some (.ref f) ∧ PySem.W.keepIn K (.ref f) = true ∧ Binds K fd ps [] ∧ FnOk P w K mg base (L2.CX P w) k f fd ps (toSp K S)
theorem FnD.mono {P : Program} {w : World} {K : PySem.W.Frag} {mg : PySem.Str → Option Value} {base : Heap} {x : PySem.Str} {k k' : Nat} {S : SpD} (h : FnD P w K mg base x k S) (l : k ≤ k') : FnD P w K mg base x k' S := by
  obtain ⟨f, fd, ps, h1, h2, h3, h4⟩ := h.ex
  exact ⟨f, fd, ps, h1, h2, h3, h4.mono l⟩
/-- what leaves the body as an exception is wished for -/
def Air (X : Cx) (B0 H0 : Hp) (R : Addr → List (PySem.Str × D) → Prop) : Prop := ∃ Ew : XK, Takes X (fun cls d _ H => Ew cls d H) ∧
  ∀ C fs dd ws B' H', Grow B0 H0 B' H' → H' dd = some (.xd ws) → IsFs X.K B' ws fs → R C fs → Ew (.ref C) (some dd) H'
section
variable {X : Cx} {N : List PySem.Str} {S : Scope} {B0 H0 : Hp} {sds : List SD} {os : List (Addr × OV)} {E : DE} {pos : Pos} {a b e elt tg iter cond : Expr} {es : List Expr} {P : D → Prop} {R : Addr → List (PySem.Str × D) → Prop}
theorem ex_call (c : Ctx X N S) {x : PySem.Str} {k : Nat} {p : Pos} {Sf : SpD} (F : FnD X.prog X.w X.K X.mg X.base x k Sf) (hr : Room k X.A) (h : EA X B0 H0 sds os (e :: es) fun ds => Sf ds P fun _ _ => False) (hg : glB S x = true := by decide +kernel)
    (hdb : (x == ("__debug__" : PySem.Str)) = false := by decide +kernel) (he : starEach (e :: es) X.env = (false, eval e X.env) :: starEach es X.env := by rfl) (hpl : (backTo pos (starEach es X.env)).any (·.1) = false := by rfl) : EX X B0 H0 sds os (.Call (.Name x p) (e :: es) [] pos) P := fun B H σ s Q q => by
  obtain ⟨f, fd, ps, h1, h2, h3, h4⟩ := F.ex
  refine PE.to (pe_call h4 hr (c.gl hg) h1 h2 h3 .nil passL pa_w hdb he hpl) ?_
  refine h B H σ s _ fun vs B1 H1 ds g1 i1 hs => ?_
  rw [List.append_nil]
  exact ⟨B1, ds, P, _, g1.bh, i1, hs, fun v B2 H2 d g2 i2 p => q v B2 H2 d (g1.trans g2) i2 p, fun _ _ _ _ _ _ _ _ _ z => z.elim⟩
/-- .. that may raise what we may -/
theorem ex_callX (c : Ctx X N S) {x : PySem.Str} {k : Nat} {p : Pos} {Sf : SpD} (F : FnD X.prog X.w X.K X.mg X.base x k Sf) (hr : Room k X.A) (air : Air X B0 H0 R) (h : EA X B0 H0 sds os (e :: es) fun ds => Sf ds P R) (hg : glB S x = true := by decide +kernel)
    (hdb : (x == ("__debug__" : PySem.Str)) = false := by decide +kernel) (he : starEach (e :: es) X.env = (false, eval e X.env) :: starEach es X.env := by rfl) (hpl : (backTo pos (starEach es X.env)).any (·.1) = false := by rfl) : EX X B0 H0 sds os (.Call (.Name x p) (e :: es) [] pos) P := fun B H σ s Q q => by
  obtain ⟨f, fd, ps, h1, h2, h3, h4⟩ := F.ex
  obtain ⟨Ew, tk, hE⟩ := air
  refine PE.to (pe_call h4 hr (c.gl hg) h1 h2 h3 .nil (E := Ew) (passes_call tk fun _ _ _ _ h => h) pa_w hdb he hpl) ?_
  refine h B H σ s _ fun vs B1 H1 ds g1 i1 hs => ?_
  rw [List.append_nil]
  exact ⟨B1, ds, P, _, g1.bh, i1, hs, fun v B2 H2 d g2 i2 p => q v B2 H2 d (g1.trans g2) i2 p, fun C fs dd ws B' H' g2 h1 h2 h3 => hE C fs dd ws B' H' ((s.g.trans g1).trans g2) h1 h2 h3⟩
/-- the slots at a def's entry -/
def ini (n : Nat) (ds : List D) : List SD := ds.map .d ++ List.replicate (n - ds.length) .un
theorem slots_ini {K : PySem.W.Frag} {B : Hp} {vs : List V} {ds : List D} {N : List PySem.Str} (h : IsAll K B vs ds) : Slots K B (L2.start N vs) (ini N.length ds) := by
  refine ⟨by simp [L2.start, ini, h.len], fun i sd q => ?_⟩
  unfold ini at q
  unfold L2.start
  have hl := h.len
  by_cases hi : i < ds.length
  · rw [List.getElem?_append_left (by simpa using hi), List.getElem?_map] at q
    cases e : ds[i]? with
    | none => rw [e] at q; cases q
    | some d =>
      rw [e] at q
      cases q
      obtain ⟨v, hv, iv⟩ := h.get e
      refine ⟨v, ?_, iv⟩
      rw [List.getElem?_append_left (by simpa [hl] using hi), List.getElem?_map, hv] <;> rfl
  · rw [List.getElem?_append_right (by simpa using hi), List.getElem?_replicate] at q
    split at q
    · cases q; trivial
    · cases q
/-- what a body is asked of -/
def BodyOk (X : Cx) (N : List PySem.Str) (Sf : SpD) (body : List Stmt) : Prop :=
  ∀ ds P R, Sf ds P R → ∀ B0 H0, Air X B0 H0 R → Go X B0 H0 (ini N.length ds) [] { rt := P, nx := fun _ _ => P .non } body
end
section
variable {P : Program} {w : World} {K : PySem.W.Frag} {mg : PySem.Str → Option Value} {base : Heap}
/-- THE RULE for a def -/
theorem fn_mk {x qual : PySem.Str} {st : Stmt} {f : Addr} {fd : FuncData} {N ps : List PySem.Str} {k : Nat} {Sf : SpD} (F : Fun K x qual st f fd) (Sc : FnScope N ps (defScope st)) (hm : mg x = some (.ref f)) (hb : Binds K fd ps []) (len : ∀ ds P R, Sf ds P R → ds.length = ps.length)
    (body : ∀ (cdv : Value) (A : Around) (outer : List Env) (s : Shared) (H : Hp) (E : XK), Room k (A.deeper (envOfC qual (defScope st) s.heap.objs.size f cdv)) →
      CtxD (cxOf (L2.CX P w) P w K mg base N qual (defScope st) f cdv A outer s H E) N (defScope st) →
      PassesOwn (model P w) (A.deeper (envOfC qual (defScope st) s.heap.objs.size f cdv)) (envOfC qual (defScope st) s.heap.objs.size f cdv) (cxOf (L2.CX P w) P w K mg base N qual (defScope st) f cdv A outer s H E).xe →
      BodyOk (cxOf (L2.CX P w) P w K mg base N qual (defScope st) f cdv A outer s H E) N Sf (defBody st)) : FnD P w K mg base x (k + 1) Sf := by
  refine ⟨f, fd, ps, hm, F.kp, hb, F.okX Sc (fun vs H Q E ⟨B, ds, P, R, _, h1, h2, _⟩ => by rw [h1.len]; exact len _ _ _ h2) fun cdv A outer s H vs Q E hr hsp => ⟨_, pss_w, ?_⟩⟩
  obtain ⟨B, ds, P', R, eb, h1, h2, h3, h4⟩ := hsp
  have go := body cdv A outer s H E hr ⟨⟨rfl, rfl, Sc.nd, rfl⟩, fun _ => rfl⟩ (passes_of rfl) ds P' R h2 B H ⟨E, takes_of rfl rfl rfl rfl, h4⟩
  refine wSs.imp (go B B H (L2.start N vs) (Evl.Ex.refl _) ⟨Grow.refl eb, slots_ini h1, (fun _ h => (nomatch h)), (fun _ h => (nomatch h)), List.nodup_nil⟩) (fun σ' H' ⟨B', sds', os', _, s', p⟩ => h3 _ _ _ _ s'.g .non p) (fun v H' ⟨B', d, _, g, i, p⟩ => h3 _ _ _ _ g i p) (fun σ' H' ⟨B', sds', os', _, s', p⟩ => p.elim) (fun σ' H' ⟨B', sds', os', _, s', p⟩ => p.elim)
end

/-! ### built-ins -/
/-- no module-level name hides a built-in -/
structure Bi (mg : PySem.Str → Option Value) : Prop where
  len : mg "len" = none
  range : mg "range" = none
  enumerate : mg "enumerate" = none
  sorted : mg "sorted" = none
  tuple : mg "tuple" = none
  list : mg "list" = none
  min : mg "min" = none
  max : mg "max" = none
  all : mg "all" = none
  any : mg "any" = none
  int : mg "int" = none
  isinstance : mg "isinstance" = none
  bool : mg "bool" = none
section
variable {X : Cx} {N : List PySem.Str} {S : Scope} {B0 H0 : Hp} {sds : List SD} {os : List (Addr × OV)} {E : DE} {pos p : Pos} {a b e elt tg iter cond : Expr} {es : List Expr} {P : D → Prop}
def CallD (K : PySem.W.Frag) (r : List V → Hp → VK → Prop) (ds : List D) (P : D → Prop) : Prop := ∀ B H vs, Ex B H → IsAll K B vs ds → ∀ Q : VK, (∀ u B' H' d, Grow B H B' H' → Is K B' u d → P d → Q u H') → r vs H Q
def CallL (K : PySem.W.Frag) (r : List V → Hp → VK → Prop) (ds : List D) (P : List D → Prop) : Prop := ∀ B H vs, Ex B H → IsAll K B vs ds → ∀ Q : VK, (∀ p xs B' H' l, Grow B H B' H' → H p = none → B' p = none → H' p = some (.lst xs) → IsAll K B' xs l → P l → Q (.ref p) H') → r vs H Q
theorem ex_callB (c : Ctx X N S) {x : PySem.Str} {id : String} {r : List V → Hp → VK → Prop} (hc : CallR X (.builtin id) r) (hm : X.mg x = none) (h : EA X B0 H0 sds os (e :: es) fun ds => CallD X.K r ds P) (hg : glB S x = true := by decide +kernel) (hv : bootBuiltins x = some (.builtin id) := by decide +kernel)
    (hn : x ≠ "__name__" := by decide +kernel) (hdb : (x == ("__debug__" : PySem.Str)) = false := by decide +kernel) (he : starEach (e :: es) X.env = (false, eval e X.env) :: starEach es X.env := by rfl) (hpl : (backTo pos (starEach es X.env)).any (·.1) = false := by rfl) : EX X B0 H0 sds os (.Call (.Name x p) (e :: es) [] pos) P := fun B H σ s Q q =>
  PE.to (pe_callB hc (c.gl hg) hm hv pa_w hn hdb he hpl) (h B H σ s _ fun vs B1 H1 ds g1 i1 k => k B1 H1 vs g1.bh i1 Q fun u B2 H2 d g2 i2 p => q u B2 H2 d (g1.trans g2) i2 p)
theorem ex_callTy (c : Ctx X N S) {x : PySem.Str} {T : String} {r : List V → Hp → VK → Prop} (hc : CallR X (.type T) r) (hm : X.mg x = none) (h : EA X B0 H0 sds os (e :: es) fun ds => CallD X.K r ds P) (hg : glB S x = true := by decide +kernel) (hv : bootBuiltins x = some (.type T) := by decide +kernel)
    (hn : x ≠ "__name__" := by decide +kernel) (hdb : (x == ("__debug__" : PySem.Str)) = false := by decide +kernel) (he : starEach (e :: es) X.env = (false, eval e X.env) :: starEach es X.env := by rfl) (hpl : (backTo pos (starEach es X.env)).any (·.1) = false := by rfl) : EX X B0 H0 sds os (.Call (.Name x p) (e :: es) [] pos) P := fun B H σ s Q q =>
  PE.to (pe_callTy hc (c.gl hg) hm hv pa_w hn hdb he hpl) (h B H σ s _ fun vs B1 H1 ds g1 i1 k => k B1 H1 vs g1.bh i1 Q fun u B2 H2 d g2 i2 p => q u B2 H2 d (g1.trans g2) i2 p)
theorem el_callB (c : Ctx X N S) {x : PySem.Str} {id : String} {r : List V → Hp → VK → Prop} {P : List D → Prop} (hc : CallR X (.builtin id) r) (hm : X.mg x = none) (h : EA X B0 H0 sds os (e :: es) fun ds => CallL X.K r ds P) (hg : glB S x = true := by decide +kernel) (hv : bootBuiltins x = some (.builtin id) := by decide +kernel)
    (hn : x ≠ "__name__" := by decide +kernel) (hdb : (x == ("__debug__" : PySem.Str)) = false := by decide +kernel) (he : starEach (e :: es) X.env = (false, eval e X.env) :: starEach es X.env := by rfl) (hpl : (backTo pos (starEach es X.env)).any (·.1) = false := by rfl) : EL X B0 H0 sds os (.Call (.Name x p) (e :: es) [] pos) P := fun B H σ s Q q =>
  PE.to (pe_callB hc (c.gl hg) hm hv pa_w hn hdb he hpl) (h B H σ s _ fun vs B1 H1 ds g1 i1 k => k B1 H1 vs g1.bh i1 Q fun u xs B2 H2 d g2 h1 h2 h3 i2 p => q u xs B2 H2 d (g1.trans g2) (Evl.fresh_back g1.h h1) h2 h3 i2 p)
theorem el_callTy (c : Ctx X N S) {x : PySem.Str} {T : String} {r : List V → Hp → VK → Prop} {P : List D → Prop} (hc : CallR X (.type T) r) (hm : X.mg x = none) (h : EA X B0 H0 sds os (e :: es) fun ds => CallL X.K r ds P) (hg : glB S x = true := by decide +kernel) (hv : bootBuiltins x = some (.type T) := by decide +kernel)
    (hn : x ≠ "__name__" := by decide +kernel) (hdb : (x == ("__debug__" : PySem.Str)) = false := by decide +kernel) (he : starEach (e :: es) X.env = (false, eval e X.env) :: starEach es X.env := by rfl) (hpl : (backTo pos (starEach es X.env)).any (·.1) = false := by rfl) : EL X B0 H0 sds os (.Call (.Name x p) (e :: es) [] pos) P := fun B H σ s Q q =>
  PE.to (pe_callTy hc (c.gl hg) hm hv pa_w hn hdb he hpl) (h B H σ s _ fun vs B1 H1 ds g1 i1 k => k B1 H1 vs g1.bh i1 Q fun u xs B2 H2 d g2 h1 h2 h3 i2 p => q u xs B2 H2 d (g1.trans g2) (Evl.fresh_back g1.h h1) h2 h3 i2 p)
def LenD : D → Nat → Prop
  | .lst l, n => n = l.length
  | .tup l, n => n = l.length
  | _, _ => False
theorem call1 {K : PySem.W.Frag} {B : Hp} {vs : List V} {d : D} (h : IsAll K B vs [d]) : ∃ v, vs = [v] ∧ Is K B v d := by
  cases h with
  | cons h1 h2 => cases h2; exact ⟨_, rfl, h1⟩
theorem call2 {K : PySem.W.Frag} {B : Hp} {vs : List V} {d d' : D} (h : IsAll K B vs [d, d']) : ∃ v v', vs = [v, v'] ∧ Is K B v d ∧ Is K B v' d' := by
  cases h with
  | cons h1 h2 => obtain ⟨v, rfl, h3⟩ := call1 h2; exact ⟨_, _, rfl, h1, h3⟩
theorem ex_len (c : Ctx X N S) (hm : X.mg "len" = none) (h : EX X B0 H0 sds os e fun d => ∃ n, LenD d n ∧ P (.int (n : Int))) (hg : glB S "len" = true := by decide +kernel) (he : starEach [e] X.env = [(false, eval e X.env)] := by rfl) : EX X B0 H0 sds os (.Call (.Name "len" p) [e] [] pos) P :=
  ex_callB c call_len hm (ea_cons (h.imp fun d ⟨n, hn, hp⟩ => ea_nil fun B H vs eb iv Q q => by
    obtain ⟨v, rfl, j⟩ := call1 iv
    refine ⟨v, n, rfl, ?_, q _ B H _ (Grow.refl eb) (.int _) hp⟩
    cases j with
    | lst hs ha => exact .inl ⟨_, SqL.of (eb _ _ hs), by rw [ha.len]; exact hn⟩
    | tup hs ha => exact .inr ⟨_, SqT.of (eb _ _ hs), by rw [ha.len]; exact hn⟩
    | non => exact hn.elim
    | bl _ => exact hn.elim
    | int _ => exact hn.elim
    | str _ => exact hn.elim
    | ins _ _ => exact hn.elim
    | drw _ => exact hn.elim) he) hg PySem.boot_len (by decide +kernel) (by decide +kernel) he rfl
/-- int(n) -/
theorem ex_int1 (c : Ctx X N S) (hm : X.mg "int" = none) (h : EX X B0 H0 sds os e fun d => ∃ n, d = .int n ∧ P (.int n)) (hg : glB S "int" = true := by decide +kernel) (he : starEach [e] X.env = [(false, eval e X.env)] := by rfl) : EX X B0 H0 sds os (.Call (.Name "int" p) [e] [] pos) P :=
  ex_callTy c call_int1 hm (ea_cons (h.imp fun d ⟨n, hn, hp⟩ => ea_nil fun B H vs eb iv Q q => by
    obtain ⟨v, rfl, j⟩ := call1 iv
    subst hn; cases j
    exact .inl ⟨n, rfl, q _ B H _ (Grow.refl eb) (.int _) hp⟩) he) hg PyProof.Rows.boot_int (by decide +kernel) (by decide +kernel) he rfl
theorem ex_min2 (c : Ctx X N S) (hm : X.mg "min" = none) (h : EX X B0 H0 sds os a fun d => ∃ n, d = .int n ∧ EX X B0 H0 sds os b fun d => ∃ m, d = .int m ∧ P (.int (if m < n then m else n))) (hg : glB S "min" = true := by decide +kernel) (he : starEach [a, b] X.env = [(false, eval a X.env), (false, eval b X.env)] := by rfl) (he2 : starEach [b] X.env = [(false, eval b X.env)] := by rfl) : EX X B0 H0 sds os (.Call (.Name "min" p) [a, b] [] pos) P :=
  ex_callB c (call_min2 c.calm) hm (ea_cons (h.imp fun d ⟨n, hn, k⟩ => ea_cons (k.imp fun d' ⟨m, hm', hp⟩ => ea_nil fun B H vs eb iv Q q => by
    obtain ⟨v, v', rfl, i1, i2⟩ := call2 iv
    subst hn; subst hm'; cases i1; cases i2
    exact ⟨n, m, rfl, q _ B H _ (Grow.refl eb) (.int _) hp⟩) he2) (by rw [he, he2])) hg (by decide +kernel) (by decide +kernel) (by decide +kernel) (by rw [he, he2]) (by rw [he2]; rfl)
theorem ex_max2 (c : Ctx X N S) (hm : X.mg "max" = none) (h : EX X B0 H0 sds os a fun d => ∃ n, d = .int n ∧ EX X B0 H0 sds os b fun d => ∃ m, d = .int m ∧ P (.int (if m > n then m else n))) (hg : glB S "max" = true := by decide +kernel) (he : starEach [a, b] X.env = [(false, eval a X.env), (false, eval b X.env)] := by rfl) (he2 : starEach [b] X.env = [(false, eval b X.env)] := by rfl) : EX X B0 H0 sds os (.Call (.Name "max" p) [a, b] [] pos) P :=
  ex_callB c (call_max2 c.calm) hm (ea_cons (h.imp fun d ⟨n, hn, k⟩ => ea_cons (k.imp fun d' ⟨m, hm', hp⟩ => ea_nil fun B H vs eb iv Q q => by
    obtain ⟨v, v', rfl, i1, i2⟩ := call2 iv
    subst hn; subst hm'; cases i1; cases i2
    exact ⟨n, m, rfl, q _ B H _ (Grow.refl eb) (.int _) hp⟩) he2) (by rw [he, he2])) hg (by decide +kernel) (by decide +kernel) (by decide +kernel) (by rw [he, he2]) (by rw [he2]; rfl)
/-- tuple(xs) -/
theorem ex_tupleOf (c : Ctx X N S) (hm : X.mg "tuple" = none) (h : EX X B0 H0 sds os e fun d => ∃ l, (d = .lst l ∨ d = .tup l) ∧ P (.tup l)) (hg : glB S "tuple" = true := by decide +kernel) (he : starEach [e] X.env = [(false, eval e X.env)] := by rfl) : EX X B0 H0 sds os (.Call (.Name "tuple" p) [e] [] pos) P :=
  ex_callTy c call_tuple_of hm (ea_cons (h.imp fun d ⟨l, hn, hp⟩ => ea_nil fun B H vs eb iv Q q => by
    obtain ⟨v, rfl, j⟩ := call1 iv
    rcases hn with e | e
    · subst e
      cases j with
      | @lst a xs _ hs ha =>
        refine ⟨_, _, rfl, .inl ⟨SqL.of (eb _ _ hs), fun t ht => ?_⟩⟩
        have g := Grow.new (o := .tup xs) eb ht
        exact q _ _ _ _ g (.tup upd_same (IsAll.mono g.b _ _ ha)) hp
    · subst e
      cases j with
      | tup hs ha => exact ⟨_, _, rfl, .inr ⟨SqT.of (eb _ _ hs), q _ B H _ (Grow.refl eb) (.tup hs ha) hp⟩⟩) he) hg (by decide +kernel) (by decide +kernel) (by decide +kernel) he rfl
/-- list(xs) -/
theorem el_listOf (c : Ctx X N S) {P : List D → Prop} (hm : X.mg "list" = none) (h : EX X B0 H0 sds os e fun d => ∃ l, (d = .lst l ∨ d = .tup l) ∧ P l) (hg : glB S "list" = true := by decide +kernel) (he : starEach [e] X.env = [(false, eval e X.env)] := by rfl) : EL X B0 H0 sds os (.Call (.Name "list" p) [e] [] pos) P :=
  el_callTy c call_list_of hm (ea_cons (h.imp fun d ⟨l, hn, hp⟩ => ea_nil fun B H vs eb iv Q q => by
    obtain ⟨v, rfl, j⟩ := call1 iv
    rcases hn with e | e
    · subst e
      cases j with
      | lst hs ha => exact ⟨_, _, rfl, .inl (SqL.of (eb _ _ hs)), fun t ht => q t _ B _ l (Grow.up eb (Evl.Ex.new ht)) ht (Evl.fresh_back eb ht) upd_same ha hp⟩
    · subst e
      cases j with
      | tup hs ha => exact ⟨_, _, rfl, .inr (SqT.of (eb _ _ hs)), fun t ht => q t _ B _ l (Grow.up eb (Evl.Ex.new ht)) ht (Evl.fresh_back eb ht) upd_same ha hp⟩) he) hg (by decide +kernel) (by decide +kernel) (by decide +kernel) he rfl
/-- all, any of a list of bools -/
theorem bools_of {K : PySem.W.Frag} {B : Hp} : ∀ {bs : List Bool} {xs : List V}, IsAll K B xs (bs.map .bl) → xs = bs.map V.bl
  | [], _, h => by cases h; rfl
  | b :: bs, _, h => by
    cases h with
    | cons h1 h2 => cases h1; rw [bools_of h2] <;> rfl
theorem ints_of {K : PySem.W.Frag} {B : Hp} : ∀ {bs : List Int} {xs : List V}, IsAll K B xs (bs.map .int) → xs = bs.map V.int
  | [], _, h => by cases h; rfl
  | b :: bs, _, h => by
    cases h with
    | cons h1 h2 => cases h1; rw [ints_of h2] <;> rfl
theorem of_ints {K : PySem.W.Frag} {B : Hp} : ∀ {bs : List Int}, IsAll K B (bs.map V.int) (bs.map .int)
  | [] => .nil
  | b :: bs => .cons (.int b) of_ints
end
end OB
set_option Elab.async false
set_option linter.all false
set_option maxRecDepth 100000
set_option maxHeartbeats 4000000
namespace OB
open PySem PySem.Spec PyProof.Rows L2
/-! ### lists of lists that we own -/
theorem Rows.get {K : PySem.W.Frag} {B H : Hp} : ∀ {rs : List Addr} {M : List (List D)} {i : Nat} {r : Addr}, Rows K B H rs M → rs[i]? = some r → ∃ xs l, M[i]? = some l ∧ H r = some (.lst xs) ∧ IsAll K B xs l
  | _, _, i, r, .nil, h => by simp at h
  | _, _, 0, r, .cons h1 h2 h3, h => by simp at h; subst h; exact ⟨_, _, rfl, h1, h2⟩
  | _, _, i + 1, r, .cons h1 h2 h3, h => by
    obtain ⟨xs, l, q1, q2, q3⟩ := Rows.get (i := i) h3 (by simpa using h)
    exact ⟨xs, l, by simpa using q1, q2, q3⟩
theorem Rows.len {K : PySem.W.Frag} {B H : Hp} : ∀ {rs : List Addr} {M : List (List D)}, Rows K B H rs M → rs.length = M.length
  | _, _, .nil => rfl
  | _, _, .cons h1 h2 h3 => by rw [List.length_cons, List.length_cons, h3.len]
theorem Rows.upd_ne {K : PySem.W.Frag} {B H : Hp} {p : Addr} {o : HO} : ∀ {rs : List Addr} {M : List (List D)}, Rows K B H rs M → p ∉ rs → Rows K B (upd H p o) rs M
  | _, _, .nil, _ => .nil
  | _, _, .cons h1 h2 h3, hn => .cons (by rw [L2.upd_ne (fun z => hn (by simp [z]))]; exact h1) h2 (h3.upd_ne fun z => hn (List.mem_cons_of_mem _ z))
theorem Rows.set {K : PySem.W.Frag} {B H : Hp} {ys : List V} {l' : List D} (ha : IsAll K B ys l') : ∀ {rs : List Addr} {M : List (List D)} {i : Nat} {r : Addr}, Rows K B H rs M → rs.Nodup → rs[i]? = some r → Rows K B (upd H r (.lst ys)) rs (M.set i l')
  | _, _, i, r, .nil, _, h => by simp at h
  | r0 :: rs, _, 0, r, .cons h1 h2 h3, nd, h => by
    simp at h; subst h
    exact .cons upd_same ha (h3.upd_ne (List.nodup_cons.mp nd).1)
  | r0 :: rs, _, i + 1, r, .cons h1 h2 h3, nd, h => by
    have h' : rs[i]? = some r := by simpa using h
    have ne : r0 ≠ r := fun z => (List.nodup_cons.mp nd).1 (z ▸ List.mem_of_getElem? h')
    exact .cons (by rw [L2.upd_ne ne]; exact h1) h2 (Rows.set ha h3 (List.nodup_cons.mp nd).2 h')
theorem Rows.app {K : PySem.W.Frag} {B H : Hp} {r : Addr} {xs : List V} {l : List D} (h1 : H r = some (.lst xs)) (h2 : IsAll K B xs l) : ∀ {rs : List Addr} {M : List (List D)}, Rows K B H rs M → Rows K B H (rs ++ [r]) (M ++ [l])
  | _, _, .nil => .cons h1 h2 .nil
  | _, _, .cons q1 q2 q3 => .cons q1 q2 (Rows.app h1 h2 q3)
theorem Rows.is {K : PySem.W.Frag} {B B' H : Hp} (e : Ex B B') : ∀ {rs : List Addr} {M : List (List D)}, Rows K B H rs M → (∀ r ∈ rs, B' r = H r) → IsAll K B' (rs.map V.ref) (M.map .lst)
  | _, _, .nil, _ => .nil
  | _, _, .cons h1 h2 h3, hb => .cons (.lst (by rw [hb _ (by simp)]; exact h1) (IsAll.mono e _ _ h2)) (h3.is e fun r hr => hb r (List.mem_cons_of_mem _ hr))
def adds (B H : Hp) (as : List Addr) : Hp := fun a => if a ∈ as then H a else B a
theorem adds_in {B H : Hp} {as : List Addr} {a : Addr} (h : a ∈ as) : adds B H as a = H a := if_pos h
theorem adds_out {B H : Hp} {as : List Addr} {a : Addr} (h : a ∉ as) : adds B H as a = B a := if_neg h
theorem adds_b {B H : Hp} {as : List Addr} (h : ∀ a ∈ as, B a = none) : Ex B (adds B H as) := fun a o e => by
  by_cases ha : a ∈ as
  · rw [h a ha] at e; cases e
  · rw [adds_out ha]; exact e
theorem adds_h {B H : Hp} {as : List Addr} (e : Ex B H) : Ex (adds B H as) H := fun a o q => by
  by_cases ha : a ∈ as
  · rw [adds_in ha] at q; exact q
  · rw [adds_out ha] at q; exact e _ _ q
/-- a new list of new lists -/
def EM (X : Cx) (B0 H0 : Hp) (sds : List SD) (os : List (Addr × OV)) (e : Expr) (P : List (List D) → Prop) : Prop := ∀ B H σ, St X.K B0 H0 B H σ sds os → ∀ Q : VK,
  (∀ p rs B' H' M, Grow B H B' H' → (∀ a ∈ p :: rs, H a = none ∧ B' a = none) → (p :: rs).Nodup → H' p = some (.lst (rs.map V.ref)) → Rows X.K B' H' rs M → P M → Q (.ref p) H') → wE X e σ H Q
section
variable {X : Cx} {N : List PySem.Str} {S scope : Scope} {B0 H0 : Hp} {sds : List SD} {os : List (Addr × OV)} {E : DE} {pos : Pos} {a b e elt tg iter : Expr} {es : List Expr} {P : D → Prop}
theorem EM.imp {P P' : List (List D) → Prop} (h : EM X B0 H0 sds os e P) (i : ∀ M, P M → P' M) : EM X B0 H0 sds os e P' := fun B H σ s Q q => h B H σ s Q fun p rs B' H' M g h1 h2 h3 h4 pm => q p rs B' H' M g h1 h2 h3 h4 (i M pm)
theorem ex_ofM (h : EM X B0 H0 sds os e fun M => P (.lst (M.map .lst))) : EX X B0 H0 sds os e P := fun B H σ s Q q => h B H σ s Q fun p rs B' H' M g h1 h2 h3 h4 pm => by
  have eb : Ex B' (adds B' H' (p :: rs)) := adds_b fun a ha => (h1 a ha).2
  refine q _ (adds B' H' (p :: rs)) H' _ ⟨g.b.trans eb, g.h, adds_h g.bh, fun a ha => ?_⟩ (.lst (by rw [adds_in (by simp)]; exact h3) (h4.is eb fun r hr => adds_in (List.mem_cons_of_mem _ hr))) pm
  by_cases hm : a ∈ p :: rs
  · exact .inr (h1 a hm).1
  · rw [adds_out hm] at ha; exact g.fr a ha
/-- x = a new matrix -/
theorem g1_asgM (c : CtxD X N S) (i : Nat) {x : PySem.Str} {pos' : Pos} (h : EM X B0 H0 sds os e fun M => ∀ p rs, E.nx (sds.set i (.v (.ref p))) ((p, .mat rs M) :: os)) (hN : N[i]? = some x := by rfl) (hv : locB S x = true := by decide +kernel)
    (hs : swapsWith e (some (.Name x pos')) pos.line X.env = pure false := by rfl) : Go1 X B0 H0 sds os E (.Assign [.Name x pos'] e pos) := fun A B H σ ea s =>
  PS.to (ps_set (i := i) (by rw [c.hN]; exact c.nd) (by rw [c.hN]; exact hN) (c.toCtx.loc hv) pe_w hs c.locf) (h B H σ s _ fun p rs B1 H1 M g1 h1 h2 h3 h4 k => by
    have s1 := s.grow g1
    refine ⟨B1, _, _, ea.trans g1.b, ⟨s1.g, s1.sl.set (sd := .v (.ref p)) rfl, fun e he => ?_, fun a ha => ?_, ?_⟩, k p rs⟩
    · rcases List.mem_cons.mp he with z | z
      · subst z; exact ⟨h3, h4⟩
      · exact s1.ow e z
    · rw [List.flatMap_cons] at ha
      rcases List.mem_append.mp ha with z | z
      · exact ⟨(h1 a z).2, Evl.fresh_back s.g.h (h1 a z).1⟩
      · exact s1.fr a z
    · rw [List.flatMap_cons]
      refine List.nodup_append.mpr ⟨h2, s1.nd, fun a ha b hb => ?_⟩
      rintro rfl
      exact s.notin (h1 a ha).1 hb)
/-- a matrix that we own becomes the base's -/
theorem go_freezeM (i j : Nat) {p : Addr} {rs : List Addr} {M : List (List D)} {sts : List Stmt} (h : Go X B0 H0 (sds.set i (.d (.lst (M.map .lst)))) (os.eraseIdx j) E sts) (hj : os[j]? = some (p, .mat rs M) := by rfl) (hi : sds[i]? = some (.v (.ref p)) := by rfl) : Go X B0 H0 sds os E sts := fun A B H σ ea s => by
  obtain ⟨h3, h4⟩ := s.ow _ (List.mem_of_getElem? hj)
  have nd := s.nd
  rw [split_at hj, List.flatMap_append, List.flatMap_cons] at nd
  have nd2 := List.nodup_append.mp nd
  have nd3 := List.nodup_append.mp nd2.2.1
  have fr : ∀ a ∈ p :: rs, B a = none ∧ H0 a = none := fun a ha => s.fr a (List.mem_flatMap.mpr ⟨_, List.mem_of_getElem? hj, ha⟩)
  have eb : Ex B (adds B H (p :: rs)) := adds_b fun a ha => (fr a ha).1
  have er : ∀ a, a ∈ (os.eraseIdx j).flatMap fpt → a ∈ os.flatMap fpt ∧ a ∉ p :: rs := fun a ha => by
    rw [erase_at, List.flatMap_append] at ha
    rw [split_at hj, List.flatMap_append, List.flatMap_cons]
    rcases List.mem_append.mp ha with z | z
    · exact ⟨List.mem_append_left _ z, fun w => nd2.2.2 a z a (List.mem_append_left _ w) rfl⟩
    · exact ⟨List.mem_append_right _ (List.mem_append_right _ z), fun w => nd3.2.2 a w a z rfl⟩
  refine h A (adds B H (p :: rs)) H σ (ea.trans eb) ⟨⟨s.g.b.trans eb, s.g.h, adds_h s.g.bh, fun a ha => ?_⟩, ⟨by rw [List.length_set]; exact s.sl.len, fun k sd q => ?_⟩, fun e he => ?_, fun a ha => ?_, ?_⟩
  · by_cases hm : a ∈ p :: rs
    · exact .inr (fr a hm).2
    · rw [adds_out hm] at ha; exact s.g.fr a ha
  · by_cases hk : i = k
    · subst hk
      have hl : i < sds.length := (List.getElem?_eq_some_iff.mp hi).1
      rw [List.getElem?_set_self hl] at q
      cases q
      exact ⟨.ref p, s.varV hi, .lst (by rw [adds_in (by simp)]; exact h3) (h4.is eb fun r hr => adds_in (List.mem_cons_of_mem _ hr))⟩
    · rw [List.getElem?_set_ne hk] at q
      exact (s.sl.at' k sd q).mono eb
  · have he' : e ∈ os := by
      rw [erase_at] at he
      rw [split_at hj]
      rcases List.mem_append.mp he with z | z
      · exact List.mem_append_left _ z
      · exact List.mem_append_right _ (List.mem_cons_of_mem _ z)
    exact (s.ow e he').mono eb (Evl.Ex.refl _)
  · obtain ⟨q1, q2⟩ := er a ha
    rw [adds_out q2]
    exact s.fr a q1
  · rw [erase_at, List.flatMap_append]
    exact List.nodup_append.mpr ⟨nd2.1, nd3.2.1, fun x hx y hy => nd2.2.2 x hx y (List.mem_append_right _ hy)⟩
/-- x[a][b] = e of an owned matrix -/
theorem g1_setM (c : Ctx X N S) (i j : Nat) {x : PySem.Str} {p : Addr} {rs : List Addr} {M : List (List D)} {px p1 p2 : Pos}
    (h : EX X B0 H0 sds os e fun d => EX X B0 H0 sds os a fun da => ∃ (u : Nat) (row : List D), da = .int (u : Int) ∧ M[u]? = some row ∧ EX X B0 H0 sds os b fun db => ∃ v : Nat, db = .int (v : Int) ∧ v < row.length ∧ E.nx sds (os.set j (p, .mat rs (M.set u (row.set v d)))))
    (hj : os[j]? = some (p, .mat rs M) := by rfl) (hi : sds[i]? = some (.v (.ref p)) := by rfl)
    (hN : N[i]? = some x := by rfl) (hv : visB S x = true := by decide +kernel) (hd : (x == ("__debug__" : PySem.Str)) = false := by decide +kernel) (hcd : (x == ("__classdict__" : PySem.Str)) = false := by decide +kernel)
    (hp : PlainIx a := by exact fun _ _ => rfl)
    (ha : ∀ v, assign (.Subscript (.Subscript (.Name x px) a p1) b p2) X.env v = (do
      let ov ← holding [v] (eval (.Subscript (.Name x px) a p1) X.env)
      let iv ← holding [v, ov] (eval b X.env)
      standAt p2
      holding [v, ov, iv] (setItem ov iv v)
      release [v, ov, iv] []) := by intro _; rfl)
    (hs : swapsWithSole [.Subscript (.Subscript (.Name x px) a p1) b p2] e pos.line X.env = pure false := by rfl) (hw : swappedStores [.Subscript (.Subscript (.Name x px) a p1) b p2] e X.env = pure none := by rfl)
    (h1 : (assignEach [.Subscript (.Subscript (.Name x px) a p1) b p2] X.env).map (·.2) = [assign (.Subscript (.Subscript (.Name x px) a p1) b p2) X.env] := by rfl) :
    Go1 X B0 H0 sds os E (.Assign [.Subscript (.Subscript (.Name x px) a p1) b p2] e pos) := fun A B H σ ea s => by
  refine PS.to (ps_asg pe_w (pg_sub (pe_ix L2.ix_list (pe_var (i := i) (by rw [c.hN]; exact hN) (c.vis hv) hd hcd) pe_w hp) pe_w set_list ha) hs hw h1) ?_
  have mem := List.mem_of_getElem? hj
  obtain ⟨h3, h4⟩ := s.ow _ mem
  refine h B H σ s _ fun v B1 H1 d g1 i1 k1 => ?_
  refine ⟨.ref p, s.varV hi, ?_⟩
  refine k1 B1 H1 σ (s.grow g1) _ fun va B2 H2 da g2 i2 ⟨u, row, e2, hu, k2⟩ => ?_
  subst e2; cases i2
  have s2 := (s.grow g1).grow g2
  obtain ⟨q3, q4⟩ := s2.ow _ mem
  have hl : u < rs.length := by rw [h4.len]; exact (List.getElem?_eq_some_iff.mp hu).1
  have hr : rs[u]? = some rs[u] := List.getElem?_eq_getElem hl
  refine ⟨p, _, (u : Int), .ref rs[u], rfl, rfl, SqL.of q3, atI_nat (by rw [List.getElem?_map, hr] <;> rfl), ?_⟩
  refine k2 B2 H2 σ s2 _ fun vb B3 H3 db g3 i3 ⟨v', e3, hv', kk⟩ => ?_
  subst e3; cases i3
  have s3 := s2.grow g3
  obtain ⟨w3, w4⟩ := s3.ow _ mem
  obtain ⟨xs, row', m1, m2, m3⟩ := w4.get hr
  have er : row' = row := by rw [hu] at m1; exact (Option.some.inj m1).symm
  subst er
  have iv3 : Is X.K B3 v d := (i1.mono g2.b).mono g3.b
  have hxl := m3.len
  refine ⟨rs[u], xs, (v' : Int), v', rfl, rfl, m2, Evl.ixN_nat (by rw [hxl]; exact hv'), ?_⟩
  have al : IsAll X.K B3 (xs.set v' v) (row'.set v' d) := m3.set iv3
  -- the rest stands
  have fr := fun a ha => s3.fr a (List.mem_flatMap.mpr ⟨_, mem, ha⟩)
  have rm : rs[u] ∈ rs := List.getElem_mem hl
  have nd := s3.nd
  rw [split_at hj, List.flatMap_append, List.flatMap_cons] at nd
  have nd2 := List.nodup_append.mp nd
  have nd3 := List.nodup_append.mp nd2.2.1
  have ndp : (p :: rs).Nodup := nd3.1
  have pr : p ≠ rs[u] := fun z => (List.nodup_cons.mp ndp).1 (by rw [z]; exact rm)
  have out : ∀ e' ∈ os.take j ++ os.drop (j + 1), rs[u] ∉ fpt e' := fun e' he hm => by
    rcases List.mem_append.mp he with z | z
    · exact nd2.2.2 _ (List.mem_flatMap.mpr ⟨e', z, hm⟩) _ (List.mem_append_left _ (List.mem_cons_of_mem _ rm)) rfl
    · exact nd3.2.2 _ (List.mem_cons_of_mem _ rm) _ (List.mem_flatMap.mpr ⟨e', z, hm⟩) rfl
  have other : ∀ e' ∈ os.take j ++ os.drop (j + 1), Own X.K B3 (upd H3 rs[u] (.lst (xs.set v' v))) e' := fun e' he => by
    have hn := out e' he
    have ho := s3.ow e' (by
      rw [split_at hj]
      rcases List.mem_append.mp he with z | z
      · exact List.mem_append_left _ z
      · exact List.mem_append_right _ (List.mem_cons_of_mem _ z))
    obtain ⟨q, ov⟩ := e'
    cases ov with
    | lst l => obtain ⟨ys, h1, h2⟩ := ho; exact ⟨ys, by rw [upd_ne (fun z => hn (by simp [fpt, z]))]; exact h1, h2⟩
    | ins C dx fs => obtain ⟨ys, h1, h2⟩ := ho; exact ⟨ys, by rw [upd_ne (fun z => hn (by simp [fpt, z]))]; exact h1, h2⟩
    | mat rs' M' => obtain ⟨h1, h2⟩ := ho; exact ⟨by rw [upd_ne (fun z => hn (by simp [fpt, z]))]; exact h1, h2.upd_ne fun z => hn (by simp [fpt, z])⟩
  have frr := fr _ (List.mem_cons_of_mem _ rm)
  have fl : (os.set j (p, OV.mat rs (M.set u (row'.set v' d)))).flatMap fpt = os.flatMap fpt := by
    rw [set_at hj]
    conv => rhs; rw [split_at hj]
    rw [List.flatMap_append, List.flatMap_append, List.flatMap_cons, List.flatMap_cons] <;> rfl
  refine ⟨B3, _, _, ((ea.trans g1.b).trans g2.b).trans g3.b, ⟨⟨s3.g.b, s3.g.h.mut frr.2, Evl.Ex.mut s3.g.bh frr.1, s3.g.fr⟩, s3.sl, fun e' he => ?_, fun a' ha' => s3.fr a' (fl ▸ ha'), fl ▸ s3.nd⟩, kk⟩
  rw [set_at hj] at he
  rcases List.mem_append.mp he with z | z
  · exact other e' (List.mem_append_left _ z)
  · rcases List.mem_cons.mp z with z | z
    · subst z
      exact ⟨by rw [upd_ne pr]; exact w3, Rows.set al w4 (List.nodup_cons.mp ndp).2 hr⟩
    · exact other e' (List.mem_append_right _ z)
abbrev MOk (X : Cx) (scope : Scope) (B0 H0 : Hp) (sds : List SD) (os : List (Addr × OV)) (t : Tg) (vs : List Nat) (elt : Expr) (P : List (List D) → Prop) (l : List D) : Prop := ∃ (α : Type) (L : List α) (enc : α → D) (g : α → List D), l = L.map enc ∧ L.length ≤ 100000 ∧ (∀ x ∈ L, t.put (enc x) (wipeS sds vs) fun s' => ∀ X', Blk X scope X' → EL X' B0 H0 s' os elt (· = g x)) ∧ P (L.map g)
theorem lcM_run {P : List (List D) → Prop} {vs : List Nat} {t : Tg} (hv' : ∀ i ∈ t.idx, i ∈ vs) {wi : TI} (hw : ∀ B H σ, St X.K B0 H0 B H σ sds os → ∀ R : L2.It → Hp → Prop, (∀ J B' H' l, Grow B H B' H' → MOk X scope B0 H0 sds os t vs elt P l → Walk X.K J B' l → R J H') → wi σ H R) {B H : Hp} {σ : L2.St} (s : St X.K B0 H0 B H σ sds os) {Q : VK}
    (q : ∀ p rs B' H' M, Grow B H B' H' → (∀ a ∈ p :: rs, H a = none ∧ B' a = none) → (p :: rs).Nodup → H' p = some (.lst (rs.map V.ref)) → Rows X.K B' H' rs M → P M → Q (.ref p) H') :
    tLc wi (t.r X.K) tYes (fun σ H Q => ∀ X', Blk X scope X' → wE X' elt σ H Q) vs σ H Q := by
  refine hw B H σ s _ fun J B1 H1 l g1 ⟨α, L, enc, g, hl, hz, ht, hp⟩ wk => ?_
  have s1 := s.grow g1
  intro Dl hD
  have bD : B1 Dl = none := Evl.fresh_back g1.bh hD
  have ll : l.length = L.length := by rw [hl, List.length_map]
  refine ⟨fun k m H' => m = L.length - k ∧ k ≤ L.length ∧ ∃ B' rs, Grow B1 H1 B' H' ∧ (∀ a ∈ Dl :: rs, H1 a = none ∧ B' a = none) ∧ (Dl :: rs).Nodup ∧ H' Dl = some (.lst (rs.map V.ref)) ∧ Rows X.K B' H' rs ((L.take k).map g), ⟨L.length, by simp, Nat.zero_le _, B1, [], ⟨Evl.Ex.refl _, Evl.Ex.new hD, g1.bh.trans (Evl.Ex.new hD), fun _ h => .inl h⟩, fun a ha => ?_, by simp, upd_same, .nil⟩, ?_⟩
  · have e : a = Dl := by simpa using ha
    subst e; exact ⟨hD, bD⟩
  rintro k m H' ⟨rfl, hk, B', rs, gr, fr, nd, h', al⟩
  by_cases hlt : k < L.length
  · refine .inr ⟨wk.go k H' (gr.b.trans gr.bh) (by rw [ll]; exact hlt), fun H2 => k + 1 ≤ L.length ∧ ∃ B2 rs2, Grow B1 H1 B2 H2 ∧ (∀ a ∈ Dl :: rs2, H1 a = none ∧ B2 a = none) ∧ (Dl :: rs2).Nodup ∧ H2 Dl = some (.lst (rs2.map V.ref)) ∧ Rows X.K B2 H2 rs2 ((L.take (k + 1)).map g), fun H2 ⟨hk2, h2⟩ => ⟨L.length - (k + 1), by omega, rfl, hk2, h2⟩, fun x H2 hy => ?_⟩
    obtain ⟨d, B2, hd, g2, i2⟩ := wk.yld k B' H' x H2 gr.b gr.bh (by rw [ll]; exact hlt) hy
    obtain ⟨y, hy'⟩ : ∃ y, L[k]? = some y := ⟨_, List.getElem?_eq_getElem hlt⟩
    have ed : d = enc y := by
      rw [hl, List.getElem?_map, hy'] at hd
      exact (Option.some.inj hd).symm
    subst ed
    have ym : y ∈ L := List.mem_of_getElem? hy'
    have gr2 := gr.trans g2
    have s2 := (s1.grow gr2).wipe vs
    refine Tg.runW (vv := vs) hv' s2 i2 (ht y ym) fun σ3 sds3 we s3 kk => ⟨we.trans wipe_wipe, ?_⟩
    simp only [tYes, if_true]
    intro X' bx
    have hk' : X'.K = X.K := by obtain ⟨_, _, _, _, _, rfl⟩ := bx; rfl
    have ex := kk X' bx
    have s3' := s3
    rw [← hk'] at s3'
    refine ex B2 H2 σ3 s3' _ fun r xs B4 H4 l4 g4 hr br h4 i4 e4 => ?_
    subst e4
    rw [hk'] at i4
    have gr4 := gr2.trans g4
    have gg := g2.trans g4
    have h5 : H4 Dl = some (.lst (rs.map V.ref)) := gg.h _ _ h'
    have stay : ∀ a ∈ Dl :: rs, B4 a = none := fun a ha => by
      rcases List.mem_cons.mp ha with z | z
      · subst z; exact gg.out (fr _ (by simp)).2 h'
      · obtain ⟨o, ho⟩ := al.at z
        exact gg.out (fr a ha).2 ho
    have rn : r ∉ Dl :: rs := fun hm => by
      have hH : ∃ o, H' r = some o := by
        rcases List.mem_cons.mp hm with z | z
        · subst z; exact ⟨_, h'⟩
        · exact al.at z
      obtain ⟨o, ho⟩ := hH
      rw [g2.h _ _ ho] at hr; cases hr
    have len : (rs.map V.ref).length ≤ 100000 := by
      rw [List.length_map, al.len, List.length_map, List.length_take]; omega
    have al4 := al.mono gg.b gg.h
    have rD : r ≠ Dl := fun z => rn (by simp [z])
    refine ⟨rs.map V.ref, h5, Nat.lt_of_le_of_lt len (by decide), hlt, B4, rs ++ [r], ⟨gr4.b, gr4.h.mut hD, Evl.Ex.mut gr4.bh (stay _ (by simp)), gr4.fr⟩, fun a ha => ?_, ?_, by rw [List.map_append]; exact upd_same, ?_⟩
    · have : a ∈ Dl :: rs ∨ a = r := by
        simp only [List.mem_cons, List.mem_append, List.not_mem_nil, or_false] at ha ⊢
        rcases ha with z | z | z
        · exact .inl (.inl z)
        · exact .inl (.inr z)
        · exact .inr z
      rcases this with z | z
      · exact ⟨(fr a z).1, stay a z⟩
      · subst z
        exact ⟨Evl.fresh_back gr2.h hr, br⟩
    · have e : Dl :: (rs ++ [r]) = (Dl :: rs) ++ [r] := rfl
      rw [e]
      refine List.nodup_append.mpr ⟨nd, by simp, fun a ha b hb => ?_⟩
      have hb' : b = r := by simpa using hb
      rintro rfl
      exact rn (hb' ▸ ha)
    · have et : (L.take (k + 1)).map g = (L.take k).map g ++ [g y] := by
        rw [List.take_succ, hy', List.map_append] <;> rfl
      rw [et]
      refine Rows.app (by rw [upd_ne rD]; exact h4) i4 (al4.upd_ne ?_)
      exact (List.nodup_cons.mp nd).1
  · have e : k = L.length := by omega
    subst e
    refine .inl ⟨wk.stop _ H' (gr.b.trans gr.bh) (by rw [ll]; exact Nat.le_refl _), ?_⟩
    rw [List.take_length] at al
    exact q Dl rs B' H' _ (g1.trans gr) (fun a ha => ⟨Evl.fresh_back g1.h (fr a ha).1, (fr a ha).2⟩) nd h' al hp
/-- [elt for ..], elt a new list at each turn -/
theorem em_lc0 {P : List (List D) → Prop} (c : Ctx X N S) (own : List (PySem.Str × Nat)) (t : Tg) (hg : ∀ X', Blk X scope X' → PG X' tg (t.r X'.K))
    (hi : IX X B0 H0 sds os tg iter (MOk X scope B0 H0 sds os t (own.map (·.2)) elt P))
    (hb : blkC N S scope own = true := by decide +kernel) (hv : (t.idx.all fun i => decide (i ∈ own.map (·.2))) = true := by decide) (hs : ∀ x, foldedSetIterable iter X.env x = pure x := by intro _; rfl) :
    EM X B0 H0 sds os (.ListComp elt [⟨tg, iter, [], 0⟩] scope pos) P := fun B H σ s Q q => by
  obtain ⟨wi, hpi, hw⟩ := hi
  have hv' : ∀ i ∈ t.idx, i ∈ own.map (·.2) := fun i h => of_decide_eq_true (List.all_eq_true.mp hv i h)
  exact PE.to (pe_lc (g := t.r X.K) (tt := tYes) (te := fun σ H Q => ∀ X', Blk X scope X' → wE X' elt σ H Q) c.calm (by rw [c.hN]; exact c.nd) hpi (blkOk_by (by rw [c.hN, c.hS]; exact hb)) (fun s H C cl fp => hg _ ⟨s, H, C, cl, fp, rfl⟩) (fun _ _ _ _ _ => pts_nil) (fun s H C cl fp => ⟨fun pins sh σ' H' Q' I h => (h _ ⟨s, H, C, cl, fp, rfl⟩).run pins sh I⟩) hs) (lcM_run hv' hw s q)
end
end OB
set_option Elab.async false
set_option linter.all false
set_option maxRecDepth 100000
set_option maxHeartbeats 4000000
namespace OB
open PySem PySem.Spec PyProof.Rows L2
section
variable {X : Cx} {N : List PySem.Str} {S scope : Scope} {B0 H0 : Hp} {sds : List SD} {os : List (Addr × OV)} {E : DE} {pos p : Pos} {a b e elt tg iter cond : Expr} {es : List Expr} {P : D → Prop}
/-! ### lists put together -/
def OpL (K : PySem.W.Frag) (r : R2) (a b : D) (P : List D → Prop) : Prop := ∀ B H v w, Ex B H → Is K B v a → Is K B w b → ∀ Q : VK, (∀ p xs B' H' l, Grow B H B' H' → H p = none → B' p = none → H' p = some (.lst xs) → IsAll K B' xs l → P l → Q (.ref p) H') → r v w H Q
theorem el_bin {op : Operator} {r : R2} {P : List D → Prop} (ho : OpR X (binaryOp op) r) (h : EX X B0 H0 sds os a fun da => EX X B0 H0 sds os b fun db => OpL X.K r da db P) : EL X B0 H0 sds os (.BinOp a op b pos) P := fun B H σ s Q q =>
  PE.to (pe_op ho pe_w pe_w) (h B H σ s _ fun v B1 H1 d g1 i1 k => k B1 H1 σ (s.grow g1) _ fun w B2 H2 d' g2 i2 k2 => k2 B2 H2 v w g2.bh (i1.mono g2.b) i2 Q fun u xs B3 H3 l g3 h1 h2 h3 i3 p3 => q u xs B3 H3 l ((g1.trans g2).trans g3) (Evl.fresh_back g1.h (Evl.fresh_back g2.h h1)) h2 h3 i3 p3)
theorem el_cat {P : List D → Prop} (h : EX X B0 H0 sds os a fun da => ∃ l, da = .lst l ∧ EX X B0 H0 sds os b fun db => ∃ m, db = .lst m ∧ l.length + m.length ≤ 100000 ∧ P (l ++ m)) : EL X B0 H0 sds os (.BinOp a .Add b pos) P :=
  el_bin op_cat (h.imp fun d ⟨l, e1, k⟩ => k.imp fun d' ⟨m, e2, hz, hp⟩ => fun B H v w ex i1 i2 Q q => by
    subst e1; subst e2
    cases i1 with
    | lst h1 a1 => cases i2 with
      | lst h2 a2 => exact ⟨_, _, _, _, rfl, rfl, ex _ _ h1, ex _ _ h2, by rw [a1.len, a2.len]; exact Nat.le_trans hz (by decide), fun p hp' => q p _ B _ _ (Grow.up ex (Evl.Ex.new hp')) hp' (Evl.fresh_back ex hp') upd_same (a1.app a2) hp⟩)
theorem ex_catT (h : EX X B0 H0 sds os a fun da => ∃ l, da = .tup l ∧ EX X B0 H0 sds os b fun db => ∃ m, db = .tup m ∧ l.length + m.length ≤ 100000 ∧ P (.tup (l ++ m))) : EX X B0 H0 sds os (.BinOp a .Add b pos) P :=
  ex_bin op_catA (h.imp fun d ⟨l, e1, k⟩ => k.imp fun d' ⟨m, e2, hz, hp⟩ => fun B H v w ex i1 i2 Q q => by
    subst e1; subst e2
    have z1 := i1; have z2 := i2
    cases i1 with
    | @tup a1' xs1 l1' h1 a1 => cases i2 with
      | @tup a2' xs2 l2' h2 a2 =>
        have l1 := a1.len; have l2 := a2.len
        refine ⟨_, _, _, _, rfl, rfl, SqT.of (ex _ _ h1), SqT.of (ex _ _ h2), by rw [a1.len, a2.len]; exact Nat.le_trans hz (by decide), fun en => ?_, fun _ en => ?_, fun _ _ t ht => ?_⟩
        · rw [en] at l1; have : l = [] := List.eq_nil_of_length_eq_zero l1.symm
          subst this; exact q _ B H _ (Grow.refl ex) z2 hp
        · rw [en] at l2; have : m = [] := List.eq_nil_of_length_eq_zero l2.symm
          subst this; rw [List.append_nil] at hp; exact q _ B H _ (Grow.refl ex) z1 hp
        · have g := Grow.new (o := .tup (xs1 ++ xs2)) ex ht
          exact q _ _ _ _ g (.tup upd_same (IsAll.mono g.b _ _ (a1.app a2))) hp)
theorem isall_rep {K : PySem.W.Frag} {B : Hp} {xs : List V} {l : List D} (h : IsAll K B xs l) : ∀ k : Nat, IsAll K B (List.replicate k xs).flatten (List.replicate k l).flatten
  | 0 => .nil
  | k + 1 => by rw [List.replicate_succ, List.flatten_cons, List.replicate_succ, List.flatten_cons]; exact h.app (isall_rep h k)
theorem rep1 {α : Type} {x : α} : ∀ m : Nat, (List.replicate m [x]).flatten = List.replicate m x
  | 0 => rfl
  | m + 1 => by rw [List.replicate_succ, List.flatten_cons, rep1 m, List.replicate_succ] <;> rfl
/-- [d] * n -/
theorem el_rep {P : List D → Prop} (h : EX X B0 H0 sds os a fun da => ∃ d, da = .lst [d] ∧ EX X B0 H0 sds os b fun db => ∃ n : Nat, db = .int (n : Int) ∧ n ≤ 100000 ∧ P (List.replicate n d)) : EL X B0 H0 sds os (.BinOp a .Mult b pos) P :=
  el_bin op_rep (h.imp fun d ⟨l, e1, k⟩ => k.imp fun d' ⟨m, e2, hz, hp⟩ => fun B H v w ex i1 i2 Q q => by
    subst e1; subst e2; cases i2
    cases i1 with
    | lst h1 a1 =>
      refine ⟨_, _, _, rfl, rfl, ex _ _ h1, by omega, by omega, ?_, fun p hp' => ?_⟩
      · rw [a1.len]
        have : (100000 : Nat) ≤ sizeLine := by decide
        simp; omega
      · refine q p _ B _ (List.replicate m l) (Grow.up ex (Evl.Ex.new hp')) hp' (Evl.fresh_back ex hp') upd_same ?_ hp
        have h := isall_rep a1 m
        rw [rep1] at h
        exact h)

/-! ### methods of lists -/
/-- xs.index(d), ints -/
theorem ex_indexI (c : Ctx X N S) {pa : Pos} {k : Nat} (hr : Room k X.A) (h : EX X B0 H0 sds os a fun da => ∃ ns : List Int, da = .lst (ns.map .int) ∧ EX X B0 H0 sds os b fun db => ∃ (i : Int) (j : Nat), db = .int i ∧ ns[j]? = some i ∧ (∀ m, m < j → ns[m]? ≠ some i) ∧ P (.int (j : Int)))
    (hbase : attributeBase a "index" X.env (eval a X.env) = eval a X.env := by rfl)
    (hfew : ((backTo pos (starEach [b] X.env)).all (fun x => !x.1) && (backToKw pos (keywordEach [] X.env)).all (fun x => x.1.isSome)
      && decide ([b].length + ([] : List Keyword).length + (if ([] : List Keyword).isEmpty then 0 else 1) < 30)) = true := by rfl)
    (hline : (pa.endLine == pos.line) = true := by rfl) (hst : starEach [b] X.env = [(false, eval b X.env)] := by rfl) : EX X B0 H0 sds os (.Call (.Attribute a "index" pa) [b] [] pos) P := fun B H σ s Q q => by
  refine PE.to (pe_bm PySem.F.plainAttrs_list PySem.F.slot_list_index PySem.F.type_list_index mt_index pe_w (pa_cons pe_w pa_nil hst) hbase hfew hline hst rfl) ?_
  refine h B H σ s _ fun v B1 H1 d g1 i1 ⟨ns, e1, k1⟩ => ?_
  subst e1
  cases i1 with
  | @lst ad xs l hs ha =>
    have hx := ints_of ha
    subst hx
    refine ⟨.inl ⟨rfl, _, SqL.of (g1.bh _ _ hs)⟩, ?_⟩
    refine k1 B1 H1 σ (s.grow g1) _ fun w B2 H2 d2 g2 i2 ⟨i, j, e2, hj, hno, hp⟩ => ?_
    subst e2; cases i2
    refine ⟨ad, _, .int i, j, .int i, rfl, rfl, SqL.of (g2.bh _ _ (g2.b _ _ hs)), rfl, ?_, ?_, ?_, ?_, q _ B2 H2 _ (g1.trans g2) (.int _) hp⟩
    · rw [List.all_eq_true]; intro y hy; obtain ⟨n, _, rfl⟩ := List.mem_map.mp hy; rfl
    · rw [List.getElem?_map, hj]; rfl
    · simp [eqV]
    · intro m z' hm hz
      rw [List.getElem?_map] at hz
      cases hn : ns[m]? with
      | none => rw [hn] at hz; cases hz
      | some n =>
        rw [hn] at hz
        cases hz
        have : n ≠ i := fun e => hno m hm (e ▸ hn)
        simp [eqV, this]
/-- n.bit_length() -/
theorem ex_bits {pa : Pos} (h : EX X B0 H0 sds os a fun da => ∃ i, da = .int i ∧ P (.int (Builtin.Int.intBits i : Nat)))
    (hbase : attributeBase a "bit_length" X.env (eval a X.env) = eval a X.env := by rfl) (hline : (pa.endLine == pos.line) = true := by rfl) : EX X B0 H0 sds os (.Call (.Attribute a "bit_length" pa) [] [] pos) P := fun B H σ s Q q =>
  PE.to (pe_bits pe_w hbase hline) (h B H σ s _ fun v B1 H1 d g1 i1 ⟨i, e1, hp⟩ => by
    subst e1; cases i1
    exact ⟨i, rfl, q _ B1 H1 _ g1 (.int _) hp⟩)
end
end OB
set_option Elab.async false
set_option linter.all false
set_option maxRecDepth 100000
set_option maxHeartbeats 4000000
namespace OB
open PySem PySem.Spec PyProof.Rows L2
/-! ### equality of data -/
mutual
def py : D → PyData
  | .non => .none
  | .bl b => .bool b
  | .int i => .int i
  | .str x => .str x
  | .lst l => .list (pyAll l)
  | .tup l => .tuple (pyAll l)
  | .ins _ _ => .none
  | .drw => .none
def pyAll : List D → List PyData
  | [] => []
  | d :: l => py d :: pyAll l
end
mutual
def pok : D → Bool
  | .non => true
  | .bl b => true
  | .int i => true
  | .str x => true
  | .lst l => pokAll l
  | .tup l => pokAll l
  | .ins _ _ => false
  | .drw => false
def pokAll : List D → Bool
  | [] => true
  | d :: l => pok d && pokAll l
end
section
variable {K : PySem.W.Frag} {B H : Hp}
mutual
theorem Is.dp (ex : Ex B H) : ∀ (d : D) (v : V), Is K B v d → pok d = true → Dp K H v (py d)
  | .non, _, h, _ => by cases h; exact .non
  | .bl b, _, h, _ => by cases h; exact .bl b
  | .int b, _, h, _ => by cases h; exact .int b
  | .str b, _, h, _ => by cases h; exact .str b
  | .lst l, _, h, q => by
    cases h with
    | lst hs ha => exact .lst (SqL.of (ex _ _ hs)) (IsAll.dp ex l _ ha q)
  | .tup l, _, h, q => by
    cases h with
    | tup hs ha => exact .tup (SqT.of (ex _ _ hs)) (IsAll.dp ex l _ ha q)
  | .ins C fs, _, h, q => by simp [pok] at q
  | .drw, _, h, q => by simp [pok] at q
theorem IsAll.dp (ex : Ex B H) : ∀ (ds : List D) (vs : List V), IsAll K B vs ds → pokAll ds = true → DpAll K H vs (pyAll ds)
  | [], _, h, _ => by cases h; exact .nil
  | d :: ds, _, h, q => by
    cases h with
    | cons h1 h2 =>
      rw [pokAll, Bool.and_eq_true] at q
      exact .cons (Is.dp ex d _ h1 q.1) (IsAll.dp ex ds _ h2 q.2)
end
end
def shp (d : D) : Bool := pok d && SeqAt.shaped (py d)
def eqd (a b : D) : Bool := PyData.eqv (py a) (py b)
section
variable {X : Cx} {N : List PySem.Str} {S scope : Scope} {B0 H0 : Hp} {sds : List SD} {os : List (Addr × OV)} {E : DE} {pos p : Pos} {a b e elt tg iter cond : Expr} {es : List Expr} {P : D → Prop} {k : Nat}
theorem cmp_eqD {K : PySem.W.Frag} {a b : D} {P : Bool → Prop} (ha : shp a = true) (hb : shp b = true) (p : P (eqd a b)) : CmpD K (rEqD K) a b P := fun B H v w e h1 h2 Q q => by
  rw [shp, Bool.and_eq_true] at ha hb
  exact ⟨_, _, Is.dp e _ _ h1 ha.1, Is.dp e _ _ h2 hb.1, ha.2, hb.2, q _ B H _ (Grow.refl e) (.bl _) ⟨_, rfl, p⟩⟩
theorem cmp_neD {K : PySem.W.Frag} {a b : D} {P : Bool → Prop} (ha : shp a = true) (hb : shp b = true) (p : P (!eqd a b)) : CmpD K (rNeD K) a b P := fun B H v w e h1 h2 Q q => by
  rw [shp, Bool.and_eq_true] at ha hb
  exact ⟨_, _, Is.dp e _ _ h1 ha.1, Is.dp e _ _ h2 hb.1, ha.2, hb.2, q _ B H _ (Grow.refl e) (.bl _) ⟨_, rfl, p⟩⟩
theorem cmp_inD {K : PySem.W.Frag} {a : D} {l : List D} {P : Bool → Prop} (ha : shp a = true) (hb : shp (.lst l) = true) (p : P (l.any fun z => eqd z a)) : CmpD K (rInD K) a (.lst l) P := fun B H v w e h1 h2 Q q => by
  rw [shp, Bool.and_eq_true] at ha hb
  have hl : ∀ l : List D, ((pyAll l).any fun z => PyData.eqv z (py a)) = l.any fun z => eqd z a := by
    intro l; induction l with
    | nil => rfl
    | cons x r ih => rw [pyAll, List.any_cons, List.any_cons, ih]; rfl
  refine ⟨_, pyAll l, Is.dp e _ _ h1 ha.1, Is.dp e _ _ h2 hb.1, ha.2, hb.2, q _ B H _ (Grow.refl e) (.bl _) ⟨_, rfl, ?_⟩⟩
  rw [hl]; exact p
theorem ex_eqD (hr : Room k X.A) (h : EX X B0 H0 sds os a fun da => EX X B0 H0 sds os b fun db => shp da = true ∧ shp db = true ∧ P (.bl (eqd da db))) (hm : behindInMarks .Eq b = false := by rfl) : EX X B0 H0 sds os (.Compare a [.Eq] [b] pos) P :=
  ex_cmpB (op_eqD (by have := hr.un; omega)) hm (h.imp fun d k => k.imp fun d' ⟨h1, h2, p⟩ => cmp_eqD h1 h2 p)
theorem ex_neD (hr : Room k X.A) (h : EX X B0 H0 sds os a fun da => EX X B0 H0 sds os b fun db => shp da = true ∧ shp db = true ∧ P (.bl (!eqd da db))) (hm : behindInMarks .NotEq b = false := by rfl) : EX X B0 H0 sds os (.Compare a [.NotEq] [b] pos) P :=
  ex_cmpB (op_neD (by have := hr.un; omega)) hm (h.imp fun d k => k.imp fun d' ⟨h1, h2, p⟩ => cmp_neD h1 h2 p)
theorem tx_eqD {P : Bool → Prop} (hr : Room k X.A) (h : EX X B0 H0 sds os a fun da => EX X B0 H0 sds os b fun db => shp da = true ∧ shp db = true ∧ P (eqd da db)) (hm : behindInMarks .Eq b = false := by rfl) : TX X B0 H0 sds os (.Compare a [.Eq] [b] pos) P :=
  tx_cmp (op_eqD (by have := hr.un; omega)) hm (h.imp fun d k => k.imp fun d' ⟨h1, h2, p⟩ => cmp_eqD h1 h2 p)
theorem tx_neD {P : Bool → Prop} (hr : Room k X.A) (h : EX X B0 H0 sds os a fun da => EX X B0 H0 sds os b fun db => shp da = true ∧ shp db = true ∧ P (!eqd da db)) (hm : behindInMarks .NotEq b = false := by rfl) : TX X B0 H0 sds os (.Compare a [.NotEq] [b] pos) P :=
  tx_cmp (op_neD (by have := hr.un; omega)) hm (h.imp fun d k => k.imp fun d' ⟨h1, h2, p⟩ => cmp_neD h1 h2 p)
theorem ex_inD (hr : Room k X.A) (h : EX X B0 H0 sds os a fun da => EX X B0 H0 sds os b fun db => ∃ l, db = .lst l ∧ shp da = true ∧ shp db = true ∧ P (.bl (l.any fun z => eqd z da))) (hm : behindInMarks .In b = false := by rfl) : EX X B0 H0 sds os (.Compare a [.In] [b] pos) P :=
  ex_cmpB (op_inD (by have := hr.un; omega)) hm (h.imp fun d k => k.imp fun d' ⟨l, e, h1, h2, p⟩ => by subst e; exact cmp_inD h1 h2 p)
theorem tx_inD {P : Bool → Prop} (hr : Room k X.A) (h : EX X B0 H0 sds os a fun da => EX X B0 H0 sds os b fun db => ∃ l, db = .lst l ∧ shp da = true ∧ shp db = true ∧ P (l.any fun z => eqd z da)) (hm : behindInMarks .In b = false := by rfl) : TX X B0 H0 sds os (.Compare a [.In] [b] pos) P :=
  tx_cmp (op_inD (by have := hr.un; omega)) hm (h.imp fun d k => k.imp fun d' ⟨l, e, h1, h2, p⟩ => by subst e; exact cmp_inD h1 h2 p)
/-- in a tuple -/
def rInT (K : PySem.W.Frag) : R2 := fun x y H Q => ∃ d ds, Dp K H x d ∧ Dp K H y (.tuple ds) ∧ SeqAt.shaped d = true ∧ SeqAt.shaped (.tuple ds) = true ∧ Q (.bl (ds.any fun z => PyData.eqv z d)) H
theorem op_inT (hu : X.A.units + 65 < cLine) : OpR X (compareOp .In) (rInT X.K) := by
  intro pins s σ H x y v u Q I rx ry h
  obtain ⟨d, ds, hd, he, sd, se, q⟩ := h
  obtain ⟨as, r1⟩ := Dp.reads I d x v hd rx
  obtain ⟨bs, r2⟩ := Dp.reads I (.tuple ds) y u he ry
  exact SeqAt.in_tuple_reads r2 r1 (SeqAt.canLay_of_shaped se) (SeqAt.canLay_of_shaped sd) (room_in_shaped sd hu) ⟨.bl _, H, I, rfl, q⟩
theorem cmp_inT {K : PySem.W.Frag} {a : D} {l : List D} {P : Bool → Prop} (ha : shp a = true) (hb : shp (.tup l) = true) (p : P (l.any fun z => eqd z a)) : CmpD K (rInT K) a (.tup l) P := fun B H v w e h1 h2 Q q => by
  rw [shp, Bool.and_eq_true] at ha hb
  have hl : ∀ l : List D, ((pyAll l).any fun z => PyData.eqv z (py a)) = l.any fun z => eqd z a := by
    intro l; induction l with
    | nil => rfl
    | cons x r ih => rw [pyAll, List.any_cons, List.any_cons, ih]; rfl
  refine ⟨_, pyAll l, Is.dp e _ _ h1 ha.1, Is.dp e _ _ h2 hb.1, ha.2, hb.2, q _ B H _ (Grow.refl e) (.bl _) ⟨_, rfl, ?_⟩⟩
  rw [hl]; exact p
theorem tx_inT {P : Bool → Prop} (hr : Room k X.A) (h : EX X B0 H0 sds os a fun da => EX X B0 H0 sds os b fun db => ∃ l, db = .tup l ∧ shp da = true ∧ shp db = true ∧ P (l.any fun z => eqd z da)) (hm : behindInMarks .In b = false := by rfl) : TX X B0 H0 sds os (.Compare a [.In] [b] pos) P :=
  tx_cmp (op_inT (by have := hr.un; omega)) hm (h.imp fun d k => k.imp fun d' ⟨l, e, h1, h2, p⟩ => by subst e; exact cmp_inT h1 h2 p)
/-! pairs of ints -/
def pr (p : Int × Int) : D := .tup [.int p.1, .int p.2]
theorem shp_pr (p : Int × Int) : shp (pr p) = true := by simp [shp, pr, pok, pokAll, py, pyAll, SeqAt.shaped, PyData.canLay0, PyData.canLayAll0, PyData.depth, PyData.depthAll]
theorem eqd_pr (p q : Int × Int) : eqd (pr p) (pr q) = decide (p = q) := by
  obtain ⟨a, b⟩ := p; obtain ⟨c, d⟩ := q
  have : eqd (pr (a, b)) (pr (c, d)) = (a == c && (b == d && true)) := by simp [eqd, pr, py, pyAll, PyData.eqv, PyData.eqvAll]
  rw [this]
  by_cases h1 : a = c <;> by_cases h2 : b = d <;> simp [h1, h2]
theorem shp_prs_aux (l : List (Int × Int)) : pokAll (l.map pr) = true ∧ PyData.canLayAll0 (pyAll (l.map pr)) = true ∧ PyData.depthAll (pyAll (l.map pr)) ≤ 1 := by
  induction l with
  | nil => simp [pokAll, pyAll, PyData.canLayAll0, PyData.depthAll]
  | cons p l ih =>
    rw [List.map_cons, pokAll, pyAll, PyData.canLayAll0, PyData.depthAll, ih.1, ih.2.1]
    refine ⟨by simp [pr, pok, pokAll], by simp [pr, py, pyAll, PyData.canLay0, PyData.canLayAll0], ?_⟩
    have : PyData.depth (py (pr p)) = 1 := by simp [pr, py, pyAll, PyData.depth, PyData.depthAll]
    omega
theorem shp_prs (l : List (Int × Int)) : shp (.lst (l.map pr)) = true := by
  obtain ⟨h1, h2, h3⟩ := shp_prs_aux l
  simp only [shp, pok, py, SeqAt.shaped, PyData.canLay0, PyData.depth, h1, h2, Bool.true_and, decide_eq_true_eq]; omega
theorem shp_prsT (l : List (Int × Int)) : shp (.tup (l.map pr)) = true := by
  obtain ⟨h1, h2, h3⟩ := shp_prs_aux l
  simp only [shp, pok, py, SeqAt.shaped, PyData.canLay0, PyData.depth, h1, h2, Bool.true_and, decide_eq_true_eq]; omega
theorem eqd_prs_aux : ∀ (l m : List (Int × Int)), PyData.eqvAll (pyAll (l.map pr)) (pyAll (m.map pr)) = decide (l = m)
  | [], [] => rfl
  | [], _ :: _ => rfl
  | _ :: _, [] => rfl
  | p :: l, q :: m => by
    have e := eqd_pr p q
    rw [eqd] at e
    rw [List.map_cons, List.map_cons, pyAll, pyAll, PyData.eqvAll, e, eqd_prs_aux l m]
    by_cases h1 : p = q <;> by_cases h2 : l = m <;> simp [h1, h2]
theorem eqd_prs (l m : List (Int × Int)) : eqd (.lst (l.map pr)) (.lst (m.map pr)) = decide (l = m) := by
  rw [eqd, py, py, PyData.eqv, eqd_prs_aux]
theorem eqd_prsT (l m : List (Int × Int)) : eqd (.tup (l.map pr)) (.tup (m.map pr)) = decide (l = m) := by
  rw [eqd, py, py, PyData.eqv, eqd_prs_aux]
theorem any_prs (l : List (Int × Int)) (p : Int × Int) : ((l.map pr).any fun z => eqd z (pr p)) = decide (p ∈ l) := by
  induction l with
  | nil => rfl
  | cons q l ih => rw [List.map_cons, List.any_cons, ih, eqd_pr, ← Bool.decide_or]; exact decide_eq_decide.mpr (by rw [List.mem_cons, eq_comm])
end
end OB
set_option Elab.async false
set_option linter.all false
set_option maxRecDepth 100000
set_option maxHeartbeats 4000000
namespace OB
open PySem PySem.Spec PyProof.Rows L2
/-! ### the list of draws -/
section
variable {X : Cx} {pins : List (Addr × Obj)} {σ : L2.St} {H : Hp} {s : Shared} {a : Addr}
theorem view_in (I : Inv X pins σ H s) (h : H a = some (drawsHO a)) : ∃ ns : List Int, Inv X pins σ (upd H a (.lst (ns.map V.int))) s := by
  obtain ⟨⟨ns, its, n, h1, h2, h3⟩, _, _⟩ := I.hok a _ h
  refine ⟨ns, ?_⟩
  have w := I.write (x := a) (e := a) (o := .lst (ns.map V.int)) (h' := s.heap) (t' := s.toks) (by rw [h]; trivial) (.inl rfl) (fun _ _ _ q => q) ⟨_, h3⟩ ⟨by rw [List.length_map]; exact h2, its, n, h1, h3⟩
  exact w
theorem view_out {ns : List Int} (I : Inv X pins σ H s) (h : H a = some (.lst (ns.map V.int))) : Inv X pins σ (upd H a (drawsHO a)) s := by
  obtain ⟨h2, its, n, h1, h3⟩ := I.hok a _ h
  have w := I.write (x := a) (e := a) (o := drawsHO a) (h' := s.heap) (t' := s.toks) (by rw [h]; trivial) (.inl rfl) (fun _ _ _ q => q) ⟨_, h3⟩
    ⟨⟨ns, its, n, h1, by rw [List.length_map] at h2; exact h2, h3⟩, ⟨_, h3⟩, fun h1 h2 ⟨ns, its, n, q1, q2, q3⟩ k => ⟨ns, its, n, q1, q2, k _ q3⟩⟩
  exact w
/-- seen as a list meanwhile -/
theorem wSs_view {sts : List Stmt} {Dn : Ends} (h : H a = some (drawsHO a))
    (k : ∀ ns : List Int, wSs X sts { nx := fun σ H' => ∃ ms : List Int, H' a = some (.lst (ms.map V.int)) ∧ Dn.nx σ (upd H' a (drawsHO a)), rt := fun v H' => ∃ ms : List Int, H' a = some (.lst (ms.map V.int)) ∧ Dn.rt v (upd H' a (drawsHO a)), bk := fun _ _ => False, ct := fun _ _ => False } σ (upd H a (.lst (ns.map V.int)))) : wSs X sts Dn σ H := by
  refine ⟨fun pins s I => ?_⟩
  obtain ⟨ns, I1⟩ := view_in I h
  refine thn ((k ns).run pins s I1) fun f s' q => ?_
  cases f with
  | next => obtain ⟨σ', H', I', ms, e, q⟩ := q; exact ⟨σ', _, view_out I' e, q⟩
  | brk => obtain ⟨σ', H', I', q⟩ := q; exact q.elim
  | cont => obtain ⟨σ', H', I', q⟩ := q; exact q.elim
  | ret u => obtain ⟨v, σ', H', I', r, ms, e, q⟩ := q; exact ⟨v, σ', _, view_out I' e, r, q⟩
end
section
variable {X : Cx} {N : List PySem.Str} {S : Scope} {B0 H0 : Hp} {sds : List SD} {os : List (Addr × OV)} {E : DE} {pos : Pos}
/-- return x: an owned list of ints becomes the draws -/
theorem g1_retDrw (c : Ctx X N S) (i : Nat) {x : PySem.Str} {px : Pos} {p : Addr} {ns : List Int} (h : E.rt .drw) (hi : sds[i]? = some (.v (.ref p)) := by rfl) (ho : os = [(p, .lst (ns.map .int))] := by rfl)
    (hN : N[i]? = some x := by rfl) (hv : visB S x = true := by decide +kernel) (hd : (x == ("__debug__" : PySem.Str)) = false := by decide +kernel) (hcd : (x == ("__classdict__" : PySem.Str)) = false := by decide +kernel) :
    Go1 X B0 H0 sds os E (.Return (some (.Name x px)) pos) := fun A B H σ ea s => by
  refine ⟨?_⟩
  intro pins s' I
  have hw := PS.to (X := X) (st := .Return (some (.Name x px)) pos) (D := { rt := fun v H' => v = .ref p ∧ H' = H, nx := fun _ _ => False, bk := fun _ _ => False, ct := fun _ _ => False }) (σ := σ) (H := H)
    (ps_ret (pe_var (i := i) (by rw [c.hN]; exact hN) (c.vis hv) hd hcd)) ⟨_, s.varV hi, rfl, rfl⟩
  refine thn (hw.run pins s' I) fun f s1 q => ?_
  cases f with
  | next => obtain ⟨σ', H', I', q⟩ := q; exact q.elim
  | brk => obtain ⟨σ', H', I', q⟩ := q; exact q.elim
  | cont => obtain ⟨σ', H', I', q⟩ := q; exact q.elim
  | ret u =>
    obtain ⟨v, σ', H', I', r, rfl, rfl⟩ := q
    subst ho
    obtain ⟨xs, h1, h2⟩ := s.ow _ (List.mem_singleton.mpr rfl)
    have hx := ints_of h2
    subst hx
    obtain ⟨bp, hp⟩ := s.fr p (by simp [fpt])
    refine ⟨_, σ', _, view_out I' h1, r, upd B p (drawsHO p), .drw, ea.trans (Evl.Ex.new bp), ⟨s.g.b.trans (Evl.Ex.new bp), fun b o q => ?_, fun b o q => ?_, fun b q => ?_⟩, .drw upd_same, h⟩
    · by_cases hb : b = p
      · subst hb; rw [hp] at q; cases q
      · rw [upd_ne hb]; exact s.g.h _ _ q
    · by_cases hb : b = p
      · subst hb; rw [upd_same] at q ⊢; exact q
      · rw [upd_ne hb] at q ⊢; exact s.g.bh _ _ q
    · by_cases hb : b = p
      · subst hb; exact .inr hp
      · rw [upd_ne hb] at q; exact s.g.fr b q
end
end OB
set_option Elab.async false
set_option linter.all false
set_option maxRecDepth 100000
set_option maxHeartbeats 4000000
namespace OB
open PySem PySem.Spec PyProof.Rows L2
theorem lenL {l : List D} : LenD (.lst l) l.length := rfl
theorem lenT {l : List D} : LenD (.tup l) l.length := rfl
section
variable {X : Cx} {N : List PySem.Str} {S scope : Scope} {B0 H0 : Hp} {sds : List SD} {os : List (Addr × OV)} {E : DE} {pos spos p : Pos} {a b e elt tg iter cond : Expr} {es : List Expr} {P : D → Prop} {k : Nat}
theorem gr_new {B H : Hp} {p : Addr} {xs : List V} {B' H' : Hp} (g : Grow B H B' H') (h1 : H p = none) (h2 : B' p = none) (h3 : H' p = some (.lst xs)) : Grow B H (upd B' p (.lst xs)) H' := by
  refine ⟨g.b.trans (Evl.Ex.new h2), g.h, ex_join g.bh h3, fun a q => ?_⟩
  by_cases ha : a = p
  · subst ha; exact .inr h1
  · rw [upd_ne ha] at q; exact g.fr a q
/-- x = [elt for ..] on one line -/
theorem g1_setLc0 (c : CtxD X N S) (i : Nat) {y : PySem.Str} {py : Pos} (own : List (PySem.Str × Nat)) (t : Tg) (hg : ∀ X', Blk X scope X' → PG X' tg (t.r X'.K))
    (hi : IX X B0 H0 sds os tg iter (LcOk0 X scope B0 H0 sds os t (own.map (·.2)) elt fun l => E.nx (sds.set i (.d (.lst l))) os)) (hy : N[i]? = some y := by rfl) (hyl : S.names.lookup y = some .local := by decide +kernel)
    (hb : blkC N S scope own = true := by decide +kernel) (hv : (t.idx.all fun i => decide (i ∈ own.map (·.2))) = true := by decide) (hs : ∀ x, foldedSetIterable iter X.env x = pure x := by intro _; rfl)
    (hbk : S.kind = .function := by rfl) (hln : (py.line == pos.line) = true := by rfl) (hna : (scope.names.any fun (n, k) => n == y && (k == .local || k == .cell)) = false := by decide +kernel) :
    Go1 X B0 H0 sds os E (.Assign [.Name y py] (.ListComp elt [⟨tg, iter, [], 0⟩] scope pos) spos) := fun A B H σ ea s => by
  obtain ⟨wi, hpi, hw⟩ := hi.imp (P' := LcOk X scope B0 H0 sds os t (own.map (·.2)) (fun _ b => b = true) elt fun l => E.nx (sds.set i (.d (.lst l))) os) fun l ⟨α, L, enc, g, h1, h2, h3, h4⟩ =>
    ⟨α, L, enc, fun _ => true, g, h1, h2, fun x hx => Tg.put_imp (h3 x hx) fun s k => ⟨rfl, fun _ => k⟩, by rw [List.filter_eq_self.mpr (fun _ _ => rfl)]; exact h4⟩
  have hv' : ∀ i ∈ t.idx, i ∈ own.map (·.2) := fun i h => of_decide_eq_true (List.all_eq_true.mp hv i h)
  refine PS.to (ps_setLc (i := i) (g := t.r X.K) (tt := tYes) (te := fun σ H Q => ∀ X', Blk X scope X' → wE X' elt σ H Q) c.calm (by rw [c.hN]; exact c.nd) (by rw [c.hN]; exact hy) (by rw [c.hS]; exact hyl) (sw_true (by rw [c.hS]; exact hbk) (by rw [c.hS]; exact hyl) hln hna) hpi (blkOk_by (by rw [c.hN, c.hS]; exact hb)) (fun s H C cl fp => hg _ ⟨s, H, C, cl, fp, rfl⟩) (fun _ _ _ _ _ => pts_nil) (fun s H C cl fp => ⟨fun pins sh σ' H' Q' I h => (h _ ⟨s, H, C, cl, fp, rfl⟩).run pins sh I⟩) hs) ?_
  refine lc_run hv' (fun B H σ sds' f s' hT Q q => ?_) hw s fun p xs B' H' l g h1 h2 h3 i1 pl => ?_
  · subst hT
    exact q B H (Grow.refl s'.g.bh)
  · have g' := gr_new g h1 h2 h3
    exact ⟨_, _, _, ea.trans g'.b, (s.grow g').set (.lst upd_same (IsAll.mono (Evl.Ex.new h2) _ _ i1)), pl⟩
theorem g1_setLc1 (c : CtxD X N S) (i : Nat) {y : PySem.Str} {py : Pos} (own : List (PySem.Str × Nat)) (t : Tg) (hg : ∀ X', Blk X scope X' → PG X' tg (t.r X'.K))
    (hi : IX X B0 H0 sds os tg iter (LcOk1 X scope B0 H0 sds os t (own.map (·.2)) cond elt fun l => E.nx (sds.set i (.d (.lst l))) os)) (hy : N[i]? = some y := by rfl) (hyl : S.names.lookup y = some .local := by decide +kernel)
    (hb : blkC N S scope own = true := by decide +kernel) (hv : (t.idx.all fun i => decide (i ∈ own.map (·.2))) = true := by decide) (hs : ∀ x, foldedSetIterable iter X.env x = pure x := by intro _; rfl)
    (hbk : S.kind = .function := by rfl) (hln : (py.line == pos.line) = true := by rfl) (hna : (scope.names.any fun (n, k) => n == y && (k == .local || k == .cell)) = false := by decide +kernel) :
    Go1 X B0 H0 sds os E (.Assign [.Name y py] (.ListComp elt [⟨tg, iter, [cond], 0⟩] scope pos) spos) := fun A B H σ ea s => by
  obtain ⟨wi, hpi, hw⟩ := hi.imp (P' := LcOk X scope B0 H0 sds os t (own.map (·.2)) (fun s' b => ∀ X', Blk X scope X' → TX X' B0 H0 s' os cond (· = b)) elt fun l => E.nx (sds.set i (.d (.lst l))) os) fun l ⟨α, L, enc, f, g, h1, h2, h3, h4⟩ =>
    ⟨α, L, enc, f, g, h1, h2, fun x hx => Tg.put_imp (h3 x hx) fun s k => ⟨fun X' b => (k X' b).1, fun hf X' b => (k X' b).2 hf⟩, h4⟩
  have hv' : ∀ i ∈ t.idx, i ∈ own.map (·.2) := fun i h => of_decide_eq_true (List.all_eq_true.mp hv i h)
  refine PS.to (ps_setLc (i := i) (g := t.r X.K) (tt := fun σ H Q => ∀ X', Blk X scope X' → wT X' cond σ H Q) (te := fun σ H Q => ∀ X', Blk X scope X' → wE X' elt σ H Q) c.calm (by rw [c.hN]; exact c.nd) (by rw [c.hN]; exact hy) (by rw [c.hS]; exact hyl) (sw_true (by rw [c.hS]; exact hbk) (by rw [c.hS]; exact hyl) hln hna) hpi (blkOk_by (by rw [c.hN, c.hS]; exact hb)) (fun s H C cl fp => hg _ ⟨s, H, C, cl, fp, rfl⟩)
    (fun s H C cl fp => pts_one ⟨fun pins sh σ' H' Q' I h => (h _ ⟨s, H, C, cl, fp, rfl⟩).run pins sh I⟩) (fun s H C cl fp => ⟨fun pins sh σ' H' Q' I h => (h _ ⟨s, H, C, cl, fp, rfl⟩).run pins sh I⟩) hs) ?_
  refine lc_run hv' (fun B H σ sds' f s' hT Q q => ?_) hw s fun p xs B' H' l g h1 h2 h3 i1 pl => ?_
  · intro X' bx
    have hk' : X'.K = X.K := by obtain ⟨_, _, _, _, _, rfl⟩ := bx; rfl
    rw [← hk'] at s'
    exact hT X' bx B H σ s' Q fun b B' H' g e => by subst e; exact q B' H' g
  · have g' := gr_new g h1 h2 h3
    exact ⟨_, _, _, ea.trans g'.b, (s.grow g').set (.lst upd_same (IsAll.mono (Evl.Ex.new h2) _ _ i1)), pl⟩
/-! ### built-ins on lists -/
theorem ex_allB (c : Ctx X N S) (hm : X.mg "all" = none) (h : EX X B0 H0 sds os e fun d => ∃ bs : List Bool, d = .lst (bs.map .bl) ∧ P (.bl (bs.all id))) (hg : glB S "all" = true := by decide +kernel) (he : starEach [e] X.env = [(false, eval e X.env)] := by rfl) : EX X B0 H0 sds os (.Call (.Name "all" p) [e] [] pos) P :=
  ex_callB c (cr_all c.calm) hm (ea_cons (h.imp fun d ⟨bs, hn, hp⟩ => ea_nil fun B H vs eb iv Q q => by
    obtain ⟨v, rfl, j⟩ := call1 iv
    subst hn
    cases j with
    | lst hs ha =>
      have := bools_of ha
      subst this
      exact ⟨_, bs, rfl, SqL.of (eb _ _ hs), q _ B H _ (Grow.refl eb) (.bl _) hp⟩) he) hg (by decide +kernel) (by decide +kernel) (by decide +kernel) he rfl
theorem ex_anyB (c : Ctx X N S) (hm : X.mg "any" = none) (h : EX X B0 H0 sds os e fun d => ∃ bs : List Bool, d = .lst (bs.map .bl) ∧ P (.bl (bs.any id))) (hg : glB S "any" = true := by decide +kernel) (he : starEach [e] X.env = [(false, eval e X.env)] := by rfl) : EX X B0 H0 sds os (.Call (.Name "any" p) [e] [] pos) P :=
  ex_callB c (cr_any c.calm) hm (ea_cons (h.imp fun d ⟨bs, hn, hp⟩ => ea_nil fun B H vs eb iv Q q => by
    obtain ⟨v, rfl, j⟩ := call1 iv
    subst hn
    cases j with
    | lst hs ha =>
      have := bools_of ha
      subst this
      exact ⟨_, bs, rfl, SqL.of (eb _ _ hs), q _ B H _ (Grow.refl eb) (.bl _) hp⟩) he) hg (by decide +kernel) (by decide +kernel) (by decide +kernel) he rfl
/-- list(range(n)) -/
theorem el_listRng (c : Ctx X N S) {p2 pos2 : Pos} {P : List D → Prop} (hm : X.mg "list" = none) (hm2 : X.mg "range" = none) (h : EX X B0 H0 sds os e fun d => ∃ n : Nat, d = .int (n : Int) ∧ n ≤ 100000 ∧ P (rngD 0 n)) (hg : glB S "list" = true := by decide +kernel) (hg2 : glB S "range" = true := by decide +kernel) (hs : starEach [e] X.env = [(false, eval e X.env)] := by rfl)
    (na : starEach [.Call (.Name "range" p2) [e] [] pos2] X.env = (false, eval (.Call (.Name "range" p2) [e] [] pos2) X.env) :: starEach [] X.env := by rfl) : EL X B0 H0 sds os (.Call (.Name "list" p) [.Call (.Name "range" p2) [e] [] pos2] [] pos) P := fun B H σ s Q q => by
  refine PE.to (pe_listRg c.calm (c.gl hg) hm (prg_1 (c.gl hg2) hm2 pe_w hs) na) ?_
  refine h B H σ s _ fun v B1 H1 d g1 i1 ⟨n, e1, hn, hp⟩ => ?_
  subst e1; cases i1
  refine ⟨(n : Int), rfl, RgOk.of_le (by omega) (by omega) (by omega) (by omega), fun q' hq => ?_⟩
  refine q q' _ B1 _ (rngD 0 n) ⟨g1.b, g1.h.trans (Evl.Ex.new hq), g1.bh.trans (Evl.Ex.new hq), g1.fr⟩ (Evl.fresh_back g1.h hq) (Evl.fresh_back g1.bh hq) upd_same ?_ hp
  have e : rgV 0 (n : Int) = ((List.range n).map fun (i : Nat) => (0 + (i : Int) : Int)).map V.int := by
    unfold rgV
    rw [List.map_map, Int.sub_zero, Int.toNat_natCast] <;> rfl
  have e2 : rngD 0 n = ((List.range n).map fun (i : Nat) => (0 + (i : Int) : Int)).map D.int := by
    unfold rngD
    rw [List.map_map] <;> rfl
  rw [e, e2]
  exact of_ints
end
end OB
set_option Elab.async false
set_option linter.all false
set_option maxRecDepth 100000
set_option maxHeartbeats 4000000
namespace OB
open PySem PySem.Spec PyProof.Rows L2
/-! ### sorted, pairs of ints -/
def leP (a b : Int × Int) : Bool := !SrtO.lexB b a
def srt (l : List (Int × Int)) : List (Int × Int) := l.mergeSort leP
theorem leP_iff {a b : Int × Int} : leP a b = true ↔ (a.1 < b.1 ∨ (a.1 = b.1 ∧ a.2 ≤ b.2)) := by
  unfold leP
  rw [Bool.not_eq_true', SrtO.lexB_no]
  omega
theorem leP_anti {a b : Int × Int} (h1 : leP a b = true) (h2 : leP b a = true) : a = b := by
  rw [leP_iff] at h1 h2
  have e1 : a.1 = b.1 := by omega
  have e2 : a.2 = b.2 := by omega
  exact Prod.ext e1 e2
theorem srt_uniq : ∀ {l m : List (Int × Int)}, l.Pairwise (leP · ·) → m.Pairwise (leP · ·) → l.Perm m → l = m
  | [], m, _, _, h => (List.Perm.eq_nil h.symm).symm
  | x :: l, [], _, _, h => absurd h.length_eq (by simp)
  | x :: l, y :: m, h1, h2, h => by
    have hx : x = y ∨ leP y x = true := by
      rcases List.mem_cons.mp (h.mem_iff.mp (List.mem_cons_self (a := x) (l := l))) with e | q
      · exact .inl e
      · exact .inr ((List.pairwise_cons.mp h2).1 x q)
    have hy : y = x ∨ leP x y = true := by
      rcases List.mem_cons.mp (h.mem_iff.mpr (List.mem_cons_self (a := y) (l := m))) with e | q
      · exact .inl e
      · exact .inr ((List.pairwise_cons.mp h1).1 y q)
    have e : x = y := by
      rcases hx with e | a
      · exact e
      · rcases hy with e | b
        · exact e.symm
        · exact leP_anti b a
    subst e
    rw [srt_uniq (List.pairwise_cons.mp h1).2 (List.pairwise_cons.mp h2).2 h.cons_inv]
theorem srt_perm (l : List (Int × Int)) : (srt l).Perm l := List.mergeSort_perm l leP
theorem srt_sorted (l : List (Int × Int)) : (srt l).Pairwise (leP · ·) := List.pairwise_mergeSort (fun a b c h1 h2 => by rw [leP_iff] at *; omega) (fun a b => by
  rw [Bool.or_eq_true, leP_iff, leP_iff]; omega) l
theorem srt_eq {l m : List (Int × Int)} (h1 : m.Perm l) (h2 : m.Pairwise (leP · ·)) : m = srt l := srt_uniq h2 (srt_sorted l) (h1.trans (srt_perm l).symm)
theorem srt_of_perm {l m : List (Int × Int)} (h : l.Perm m) : srt l = srt m := srt_eq ((srt_perm l).trans h) (srt_sorted l)
def keyP (B : Hp) : V → Int × Int
  | .ref t => match B t with
    | some (.tup [.int i, .int j]) => (i, j)
    | _ => (0, 0)
  | _ => (0, 0)
theorem isall_keys {K : PySem.W.Frag} {B : Hp} : ∀ {l : List (Int × Int)} {xs : List V}, IsAll K B xs (l.map pr) → l = xs.map (keyP B) ∧ ∀ x ∈ xs, ∃ t, x = V.ref t ∧ B t = some (.tup [.int (keyP B x).1, .int (keyP B x).2])
  | [], _, h => by cases h; exact ⟨rfl, fun _ h => (nomatch h)⟩
  | p :: l, _, h => by
    cases h with
    | @cons v vs d ds h1 h2 =>
      obtain ⟨q1, q2⟩ := isall_keys h2
      cases h1 with
      | @tup a xs l' hs ha =>
        obtain ⟨v1, v2, rfl, i1, i2⟩ := call2 ha
        cases i1; cases i2
        have e : keyP B (.ref a) = p := by simp [keyP, hs]
        refine ⟨by rw [List.map_cons, e, ← q1], fun x hx => ?_⟩
        rcases List.mem_cons.mp hx with z | z
        · subst z; exact ⟨a, rfl, by rw [e]; exact hs⟩
        · exact q2 x z
theorem isall_of_keys {K : PySem.W.Frag} {B : Hp} : ∀ {xs : List V}, (∀ x ∈ xs, ∃ t, x = V.ref t ∧ B t = some (.tup [.int (keyP B x).1, .int (keyP B x).2])) → IsAll K B xs ((xs.map (keyP B)).map pr)
  | [], _ => .nil
  | x :: xs, h => by
    obtain ⟨t, e, hb⟩ := h x (by simp)
    refine .cons ?_ (isall_of_keys fun y hy => h y (List.mem_cons_of_mem _ hy))
    rw [e] at hb ⊢
    exact .tup hb (.cons (.int _) (.cons (.int _) .nil))
section
variable {X : Cx} {N : List PySem.Str} {S scope : Scope} {B0 H0 : Hp} {sds : List SD} {os : List (Addr × OV)} {E : DE} {pos spos p : Pos} {a b e elt tg iter cond : Expr} {es : List Expr} {P : D → Prop} {k : Nat}
theorem el_sortP (c : Ctx X N S) {P : List D → Prop} (hm : X.mg "sorted" = none) (h : EX X B0 H0 sds os e fun d => ∃ l : List (Int × Int), d = .lst (l.map pr) ∧ P ((srt l).map pr)) (hg : glB S "sorted" = true := by decide +kernel) (he : starEach [e] X.env = [(false, eval e X.env)] := by rfl) : EL X B0 H0 sds os (.Call (.Name "sorted" p) [e] [] pos) P :=
  el_callB c cr_sortedPO hm (ea_cons (h.imp fun d ⟨l, hn, hp⟩ => ea_nil fun B H vs eb iv Q q => by
    obtain ⟨v, rfl, j⟩ := call1 iv
    subst hn
    cases j with
    | @lst ad xs l' hs ha =>
      obtain ⟨e1, e2⟩ := isall_keys ha
      refine ⟨ad, xs, keyP B, rfl, SqL.of (eb _ _ hs), fun x hx => ?_, fun ys p hsr hst hp' => ?_⟩
      · obtain ⟨t, e, hb⟩ := e2 x hx
        exact ⟨t, e, eb _ _ hb⟩
      · have hperm : ys.Perm xs := hst.perm
        have es : ys.map (keyP B) = srt l := srt_eq (by rw [e1]; exact hperm.map _) (List.pairwise_map.mpr (hsr.imp fun {x y} h => by
          show (!SrtO.lexB (keyP B y) (keyP B x)) = true
          rw [Bool.not_eq_true']; exact h))
        have al : IsAll X.K B ys ((srt l).map pr) := by
          rw [← es]
          exact isall_of_keys fun x hx => e2 x (hperm.mem_iff.mp hx)
        exact q p ys B _ _ (Grow.up eb (Evl.Ex.new hp')) hp' (Evl.fresh_back eb hp') upd_same al hp) he) hg (by decide +kernel) (by decide +kernel) (by decide +kernel) he rfl
end
end OB
set_option Elab.async false
set_option linter.all false
set_option maxRecDepth 100000
set_option maxHeartbeats 4000000
namespace OB
open PySem PySem.Spec PyProof.Rows L2
/-! ### isinstance of built-in types -/
def tyN : D → Option String
  | .non => some "NoneType"
  | .bl _ => some "bool"
  | .int _ => some "int"
  | .str _ => some "str"
  | .lst _ => some "list"
  | .tup _ => some "tuple"
  | _ => none
theorem Is.tyOf {K : PySem.W.Frag} {B H : Hp} {v : V} {d : D} (e : Ex B H) (h : Is K B v d) {t : String} (q : tyN d = some t) : TyOf K H v (.type t) := by
  cases h with
  | non => cases q; exact .non
  | bl b => cases q; exact .bl b
  | int b => cases q; exact .int b
  | str b => cases q; exact .str b
  | lst hs ha => cases q; exact .lst (e _ _ hs)
  | tup hs ha => cases q; exact .tup (e _ _ hs)
  | ins _ _ => cases q
  | drw _ => cases q
section
variable {X : Cx} {N : List PySem.Str} {S scope : Scope} {B0 H0 : Hp} {sds : List SD} {os : List (Addr × OV)} {E : DE} {pos spos p p2 p3 p4 : Pos} {a b e elt tg iter cond : Expr} {es : List Expr} {P : D → Prop} {k : Nat}
theorem ex_isi (c : Ctx X N S) {T : PySem.Str} {tn : String} (hm : X.mg "isinstance" = none) (hT : X.mg T = none) (h : EX X B0 H0 sds os e fun d => ∃ t r, tyN d = some t ∧ kitB t tn = some r ∧ P (.bl r)) (hg : glB S "isinstance" = true := by decide +kernel) (hgT : glB S T = true := by decide +kernel)
    (hv : bootBuiltins T = some (.type tn) := by decide +kernel) (hn : T ≠ "__name__" := by decide +kernel) (hd : (T == ("__debug__" : PySem.Str)) = false := by decide +kernel)
    (he : starEach [e, .Name T p2] X.env = [(false, eval e X.env), (false, eval (.Name T p2) X.env)] := by rfl) (he2 : starEach [.Name T p2] X.env = [(false, eval (.Name T p2) X.env)] := by rfl) :
    EX X B0 H0 sds os (.Call (.Name "isinstance" p) [e, .Name T p2] [] pos) P := fun B H σ s Q q => by
  refine PE.to (pe_callB call_isi (c.gl hg) hm (by decide +kernel) (pa_cons pe_w (pa_cons (pe_bltn (v := .ty tn) (c.gl hgT) hT hv rfl hn hd) pa_nil he2) (by rw [he, he2])) (by decide +kernel) (by decide +kernel) (by rw [he, he2]) (by rw [he2]; rfl)) ?_
  refine h B H σ s _ fun v B1 H1 d g1 i1 ⟨t, r, h1, h2, hp⟩ => ?_
  exact ⟨v, .ty tn, .type t, .type tn, r, rfl, .ty tn, .base (i1.tyOf g1.bh h1), h2, q _ B1 H1 _ g1 (.bl r) hp⟩
/-- isinstance(e, (T, U)) -/
theorem ex_isi2 (c : Ctx X N S) {T U : PySem.Str} {tn un : String} {kk : Nat} (hm : X.mg "isinstance" = none) (hT : X.mg T = none) (hU : X.mg U = none) (h : EX X B0 H0 sds os e fun d => ∃ t r, tyN d = some t ∧ (kitB t tn = some r ∧ r = true ∨ kitB t tn = some false ∧ kitB t un = some r) ∧ P (.bl r)) (hg : glB S "isinstance" = true := by decide +kernel) (hgT : glB S T = true := by decide +kernel) (hgU : glB S U = true := by decide +kernel)
    (hv : bootBuiltins T = some (.type tn) := by decide +kernel) (hvU : bootBuiltins U = some (.type un) := by decide +kernel) (hn : T ≠ "__name__" := by decide +kernel) (hnU : U ≠ "__name__" := by decide +kernel) (hd : (T == ("__debug__" : PySem.Str)) = false := by decide +kernel) (hdU : (U == ("__debug__" : PySem.Str)) = false := by decide +kernel)
    (he : starEach [e, .Tuple [.Name T p2, .Name U p3] kk p4] X.env = [(false, eval e X.env), (false, eval (.Tuple [.Name T p2, .Name U p3] kk p4) X.env)] := by rfl) (he2 : starEach [.Tuple [.Name T p2, .Name U p3] kk p4] X.env = [(false, eval (.Tuple [.Name T p2, .Name U p3] kk p4) X.env)] := by rfl)
    (he3 : starEach [.Name T p2, .Name U p3] X.env = [(false, eval (.Name T p2) X.env), (false, eval (.Name U p3) X.env)] := by rfl) (he4 : starEach [.Name U p3] X.env = [(false, eval (.Name U p3) X.env)] := by rfl) :
    EX X B0 H0 sds os (.Call (.Name "isinstance" p) [e, .Tuple [.Name T p2, .Name U p3] kk p4] [] pos) P := fun B H σ s Q q => by
  refine PE.to (pe_callB call_isiT (c.gl hg) hm (by decide +kernel) (pa_cons pe_w (pa_cons (pe_tup (pa_cons (pe_bltn (v := .ty tn) (c.gl hgT) hT hv rfl hn hd) (pa_cons (pe_bltn (v := .ty un) (c.gl hgU) hU hvU rfl hnU hdU) pa_nil he4) (by rw [he3, he4]))) pa_nil he2) (by rw [he, he2])) (by decide +kernel) (by decide +kernel) (by rw [he, he2]) (by rw [he2]; rfl)) ?_
  refine h B H σ s _ fun v B1 H1 d g1 i1 ⟨t, r, h1, h2, hp⟩ => ⟨show 2 ≤ sizeLine from by decide, fun tp htp => ?_⟩
  have g2 : Grow B1 H1 B1 (upd H1 tp (.tup [.ty tn, .ty un])) := Grow.up g1.bh (Evl.Ex.new htp)
  refine ⟨v, tp, [.ty tn, .ty un], .type t, [.type tn, .type un], r, rfl, upd_same, .cons (.ty tn) (.cons (.ty un) .nil), .base (i1.tyOf g2.bh h1), ?_, q _ B1 _ _ (g1.trans g2) (.bl r) hp⟩
  rcases h2 with ⟨h2, rfl⟩ | ⟨h2, h3⟩
  · exact kitAny_cons (kit_ty h2) (fun z => nomatch z) fun _ => rfl
  · refine kitAny_cons (kit_ty h2) (fun _ => ?_) (fun z => nomatch z)
    exact kitAny_cons (kit_ty h3) (fun z => by rw [z]; exact kitAny_nil) (fun z => z)
/-! ### tuple < tuple -/
theorem lex_pr (p q : Int × Int) : HT.lexLt [p.1, p.2] [q.1, q.2] = SrtO.lexB p q := by
  unfold SrtO.lexB
  simp only [HT.lexLt]
  by_cases e : p.1 = q.1
  · simp [e]; omega
  · simp [e]
theorem tx_ltP {P : Bool → Prop} (hr : Room k X.A) (h : EX X B0 H0 sds os a fun da => ∃ x : Int × Int, da = pr x ∧ EX X B0 H0 sds os b fun db => ∃ y : Int × Int, db = pr y ∧ P (SrtO.lexB x y)) (hm : behindInMarks .Lt b = false := by rfl) : TX X B0 H0 sds os (.Compare a [.Lt] [b] pos) P :=
  tx_cmp (op_ltT hr.units0) hm (h.imp fun d ⟨x, e1, k⟩ => k.imp fun d' ⟨y, e2, hp⟩ => fun B H v w ex i1 i2 Q q => by
    subst e1; subst e2
    cases i1 with
    | tup h1 a1 => cases i2 with
      | tup h2 a2 =>
        obtain ⟨v1, v2, rfl, j1, j2⟩ := call2 a1
        obtain ⟨w1, w2, rfl, k1, k2⟩ := call2 a2
        cases j1; cases j2; cases k1; cases k2
        refine ⟨_, _, [x.1, x.2], [y.1, y.2], rfl, rfl, SqT.of (ex _ _ h1), SqT.of (ex _ _ h2), ?_⟩
        rw [lex_pr]
        exact q _ B H _ (Grow.refl ex) (.bl _) ⟨_, rfl, hp⟩)
end
end OB
set_option Elab.async false
set_option linter.all false
set_option maxRecDepth 100000
set_option maxHeartbeats 4000000
namespace OB
open PySem PySem.Spec PyProof.Rows L2
/-! ### try with several clauses, each with a name -/
abbrev SuT := Addr → Value → Option Addr → TS
def gone (D : Ends) (i : Nat) : Ends := ⟨fun s h => D.nx (s.set i none) h, D.rt, fun s h => D.bk (s.set i none) h, fun s h => D.ct (s.set i none) h⟩
def wCl (K : PySem.W.Frag) (i : Nat) (Wo : L2.WX) (D : Ends) : List (Value × SuT) → L2.WX
  | [] => Wo
  | (c, ts) :: r => fun cls d s h => ∃ b, PySem.W.exmOne K cls c = some b ∧ (b = true → ∀ a, h a = none → ts a cls d (gone D i) (s.set i (some (.ref a))) h) ∧ (b = false → wCl K i Wo D r cls d s h)
inductive ClOk (X : Cx) (n : PySem.Str) : List ExceptHandler → List (Value × SuT) → Prop
  | nil : ClOk X n [] []
  | cons {x : PySem.Str} {c : Value} {ts : SuT} {st : Stmt} {sts : List Stmt} {np ps : Pos} {hs : List ExceptHandler} {l : List (Value × SuT)} : Names X x c →
      (∀ a oe cls d pn, Zc cls d oe → (∃ vs, oe.data = .fields vs) → PSs (X.suite a ((a, oe) :: pn)) (st :: sts) (ts a cls d)) → ClOk X n hs l → ClOk X n (.ExceptHandler (some (.Name x np)) (some n) (st :: sts) ps :: hs) ((c, ts) :: l)
theorem ps_try_cl {X : Cx} {n : PySem.Str} {i : Nat} {body : List Stmt} {hd : ExceptHandler} {hds : List ExceptHandler} {l : List (Value × SuT)} {tp : Pos} {tb : L2.WX → TS} {Wo : L2.WX} (e1 : X.stack = X.env :: X.outer) (e2 : X.env.frame = some X.env.locals) (nd : X.N.Nodup) (hi : X.N[i]? = some n) (hl : X.env.kindOf n = some .local) (tk : Takes X Wo)
    (hb : ∀ (W : L2.WX) (pn : List (Addr × Obj)) (xe : Value → Shared → Prop), Takes (X.tr pn xe) W → PassesOwn (model X.prog X.w) X.A X.env xe → PSs (X.tr pn xe) body (tb W)) (cl : ClOk X n (hd :: hds) l) : PS X (.Try body (hd :: hds) [] [] tp) (fun D σ H => tb (wCl X.K i Wo D l) D σ H) := by
  refine ⟨fun pins s σ H D I hw => ?_⟩
  have kk := I.ok
  have fr : X.A.frames = some (X.env :: X.outer) := e1 ▸ kk.frames
  refine wpAny_Try_except (wpAny_mono ((hb (wCl X.K i Wo D l) (X.pn ++ pins) (fun u z => wpAny (model X.prog X.w) X.A (noteFrame u X.env) (fun _ z2 => wpAny (model X.prog X.w) X.A (setFlight u none) (fun _ z3 => wpAny (model X.prog X.w) X.A (handleBy u X.env (hd :: hds)) (SP X pins D) X.xe z3) X.xe z2) X.xe z) (fun u s' q => ?_) PassesOwn.looking).run [] s σ H D (I.toTry _) hw) (fun f s1 q => ?_) fun _ _ q => q)
  · obtain ⟨a, B, z0, pins', σ', H', cls, d, rfl, J0, nb, up, sky, na, hos, bare, w⟩ := q
    have J : Inv X pins σ' H' z0 := J0.ofTry kk
    show wpAny (model X.prog X.w) X.A (noteFrame (.ref a) X.env) _ _ _
    refine Sky.land Zc.steady fr e2 (e1 ▸ sky : Sky B (X.env :: X.outer) a (Zc cls d) X.env.locals s'.heap) fun h3 fl up3 => ?_
    have J3 : Inv X pins σ' H' { s' with heap := h3 } := J.landed nb fl.1 (up.trans up3) hos bare
    obtain ⟨o3, v3, g3, z3, d3⟩ := fl.there
    have nfr : a ∉ frs (X.env :: X.outer) := fun hm => by
      obtain ⟨_, o', g', no⟩ := fl.2.2.1.mem hm
      exact no v3 (by rw [g3] at g'; cases g'; exact d3)
    have nL : a ≠ X.env.locals := fun z => nfr (List.mem_filterMap.mpr ⟨X.env, by simp, by rw [e2, z]⟩)
    have nF : a ∉ X.fs := fun hm => by
      obtain ⟨e, he, q⟩ := List.mem_filterMap.mp hm
      exact nfr (List.mem_filterMap.mpr ⟨e, by simp [he], q⟩)
    have S3 := J3.suite g3 d3 na nL nF
    have walk : ∀ {hs l}, ClOk X n hs l → wCl X.K i Wo D l cls d σ' H' → wpAny (model X.prog X.w) X.A (handleBy (.ref a) X.env hs) (SP X pins D) X.xe { s' with heap := h3 } := by
      intro hs l c
      induction c with
      | nil =>
        intro w
        obtain ⟨k1, k2, k3, o, vs, T, oT, tx, he, hz, hdt, h1, hr⟩ := id fl
        refine wpAny_handleBy_nil ?_
        unfold PySem.passOn
        refine wpAny_bind (wpAny_field he hdt h1 ?_)
        rw [if_neg (by simp : ¬ ((Value.ref T == Value.none) = true))]
        have last : wpAny (model X.prog X.w) X.A (setFlight (.ref a) X.env.frame) (fun _ y => wpAny (model X.prog X.w) X.A (throw (.ref a) : Sem Flow) (SP X pins D) X.xe y) X.xe { s' with heap := h3 } := by
          rw [e2]
          exact HandSPX.setFlight_upZ fl fun h4 q4 up4 => wpAny_throw (tk _ _ ⟨a, B, z0, pins, σ', H', cls, d, rfl, J, nb, (up.trans up3).trans up4, .inr (.inr (by rw [e1]; exact q4)), na, hos, bare, w⟩)
        first
          | exact wpAny_bind (wpAny_pure (wpAny_bind last))
          | exact wpAny_bind last
      | @cons x c ts st sts np ps hs l nm hsu r ih =>
        intro w
        obtain ⟨b, eb, wy, wn⟩ := w
        refine wpAny_handleBy_cons (codeAny_handlers_test ?_) (by intro z; cases z)
        have lk : PySem.W.Looks (model X.prog X.w) h3 (typeOf (.ref a)) cls := fun A Q E s k q => wpAny_typeOf_ref (k _ _ g3) (z3.1.symm ▸ q)
        have lm := PySem.W.exm_one (M := model X.prog X.w) J3.kIn lk eb
        have ask : ∀ {Q E : Value → Shared → Prop}, Q c { s' with heap := h3 } → wpAny (model X.prog X.w) (X.A.mark (some (.ref a))) (eval (.Name x np) X.env) Q E { s' with heap := h3 } := fun {Q E} q => by
          obtain ⟨y1, y2, y3 | ⟨y3, y4, y5⟩⟩ := nm
          · exact ld_glob (X := X.suite a ((a, o3) :: (X.pn ++ pins))) S3 y1 y3 q y2
          · exact ld_blt (X := X.suite a ((a, o3) :: (X.pn ++ pins))) S3 y1 y3 y4 q y5 y2
        refine ask (lm.here ?_)
        cases b with
        | false => exact ih (wn rfl)
        | true =>
          refine codeAny_handlers_suite_as (HandSPX.lands_againZ fl fun h4 fl4 up4 => ?_)
          have J4 : Inv X pins σ' H' { s' with heap := h4 } := J.landed nb fl4.1 ((up.trans up3).trans up4) hos bare
          obtain ⟨o4, v4, g4, z4, d4⟩ := fl4.there
          refine store_ok (X := X.suite a ((a, o4) :: (X.pn ++ pins))) (v := .ref a) (J4.suite g4 d4 na nL nF) nd hi (.inl hl) rfl (fun s5 S5 => ?_) (.inr hl)
          refine wpAny_mono ((hsu a o4 cls d (X.pn ++ pins) z4 ⟨_, d4⟩).run [] s5 _ H' _ S5 (wy rfl a na)) (fun f s6 q => ?_) fun _ _ z => z.elim
          have fin : ∀ {σ6 : L2.St} {H6 : Hp} {Q : Shared → Prop}, Inv (X.suite a ((a, o4) :: (X.pn ++ pins))) [] σ6 H6 s6 → (∀ s7, Inv X pins (σ6.set i none) H6 s7 → Q s7) → wpAny (model X.prog X.w) X.A (do bindName X.env n .none; unbindBehindTheSuite X.env n ps) (fun _ s7 => Q s7) X.xe s6 := fun z hq => gone_ok (z.unsuite kk) nd hi hl hq
          cases f with
          | ret u => obtain ⟨v, σ6, H6, S6, r6, q6⟩ := q; exact fin S6 fun _ J7 => ⟨v, _, H6, J7, r6, q6⟩
          | next => obtain ⟨σ6, H6, S6, q6⟩ := q; exact fin S6 fun _ J7 => ⟨_, H6, J7, q6⟩
          | brk => obtain ⟨σ6, H6, S6, q6⟩ := q; exact fin S6 fun _ J7 => ⟨_, H6, J7, q6⟩
          | cont => obtain ⟨σ6, H6, S6, q6⟩ := q; exact fin S6 fun _ J7 => ⟨_, H6, J7, q6⟩
    exact walk cl w
  · cases f with
    | ret u => obtain ⟨v, σ', H', J, r, q⟩ := q; exact ⟨v, σ', H', J.ofTry kk, r, q⟩
    | next => obtain ⟨σ', H', J, q⟩ := q; exact wpAny_execs_nil ⟨σ', H', J.ofTry kk, q⟩
    | brk => obtain ⟨σ', H', J, q⟩ := q; exact ⟨σ', H', J.ofTry kk, q⟩
    | cont => obtain ⟨σ', H', J, q⟩ := q; exact ⟨σ', H', J.ofTry kk, q⟩
end OB
set_option Elab.async false
set_option linter.all false
set_option maxRecDepth 100000
set_option maxHeartbeats 4000000
namespace OB
open PySem PySem.Spec PyProof.Rows L2
/-! ### own exceptions -/
theorem IsFs.app {K : PySem.W.Frag} {B : Hp} : ∀ {ds es : List (PySem.Str × D)} {vs ws : List (PySem.Str × V)}, IsFs K B vs ds → IsFs K B ws es → IsFs K B (vs ++ ws) (ds ++ es)
  | [], _, _, _, h, h' => by cases h; exact h'
  | d :: ds, _, _, _, h, h' => by
    cases h with
    | cons h1 h2 => exact .cons h1 (IsFs.app h2 h')
theorem isfs_zip {K : PySem.W.Frag} {B : Hp} : ∀ {fl : List PySem.Str} {ds : List D} {vs : List V}, IsAll K B vs ds → IsFs K B (fl.zip vs).reverse (fl.zip ds).reverse
  | [], _, _, _ => .nil
  | f :: fl, [], _, h => by cases h; exact .nil
  | f :: fl, d :: ds, _, h => by
    cases h with
    | cons h1 h2 =>
      rw [List.zip_cons_cons, List.zip_cons_cons, List.reverse_cons, List.reverse_cons]
      exact (isfs_zip h2).app (.cons h1 .nil)
def spXi (K : PySem.W.Frag) (C : Addr) (fl : List PySem.Str) : Sp := fun vs H Q _ => ∃ (a : Addr) (ws : List V), vs = .ref a :: ws ∧ ws.length = fl.length ∧ H a = some (exo a C none) ∧
  ∀ d H2, H d = none → d ≠ a → H2 a = some (exo a C (some d)) → H2 d = some (exd d (fl.zip ws).reverse) → (∀ b, b ≠ a → b ≠ d → H2 b = H b) → Q .non H2
/-- what is known of an exception class of the text -/
structure ExcD (P : Program) (w : World) (K : PySem.W.Frag) (mg : PySem.Str → Option Value) (base : Heap) (x : PySem.Str) (C : Addr) (k : Nat) (fl : List PySem.Str) : Prop where
  at' : mg x = some (.ref C)
  cls : OexC K C
  init : ∃ fI fd ps, PySem.W.findIn K (.ref C) "__init__" = some (some (.ref fI)) ∧ PySem.W.typeIn K (.ref fI) = some (.type "function") ∧ FnOk P w K mg base (L2.CX P w) k fI fd ps (spXi K C fl) ∧ Binds K fd ps []
section
variable {X : Cx} {N : List PySem.Str} {S scope : Scope} {B0 H0 : Hp} {sds : List SD} {os : List (Addr × OV)} {E : DE} {pos spos p : Pos} {a b e elt tg iter cond : Expr} {es : List Expr} {P : D → Prop} {R : Addr → List (PySem.Str × D) → Prop} {k : Nat}
theorem g1_raise (c : Ctx X N S) {x : PySem.Str} {C : Addr} {fl : List PySem.Str} (xc : ExcD X.prog X.w X.K X.mg X.base x C k fl) (hr : Room (k + 1) X.A) (air : Air X B0 H0 R) (h : EA X B0 H0 sds os (e :: es) fun ds => ds.length = fl.length ∧ fl.length ≤ 100 ∧ R C (fl.zip ds).reverse) (hg : glB S x = true := by decide +kernel)
    (hdb : (x == ("__debug__" : PySem.Str)) = false := by decide +kernel) (he : starEach (e :: es) X.env = (false, eval e X.env) :: starEach es X.env := by rfl) (hpl : (backTo pos (starEach es X.env)).any (·.1) = false := by rfl) : Go1 X B0 H0 sds os E (.Raise (some (.Call (.Name x p) (e :: es) [] pos)) none spos) := fun A B H σ ea s => by
  obtain ⟨fI, fd, ps, h1, h2, h3, h4⟩ := xc.init
  obtain ⟨Ew, tk, hE⟩ := air
  refine PS.to (ps_raise c.calm tk (pmk_oex xc.cls h1 h2 h3 hr h4 .nil (passes_call tk fun _ _ _ _ z => z.elim) (c.gl hg) xc.at' pa_w hdb he hpl)) ?_
  refine h B H σ s _ fun vs B1 H1 ds g1 i1 ⟨hl, hz, hR⟩ => ⟨by rw [i1.len, hl]; omega, fun x hx => ⟨x, vs ++ [], rfl, by rw [List.append_nil, i1.len, hl], upd_same, fun d H2 hd hda e1 e2 e3 => ⟨rfl, d, _, e1, e2, ?_, ?_⟩⟩⟩
  · rw [upd_ne hda] at hd; exact hd
  · rw [upd_ne hda] at hd
    have eh : Ex H1 (upd (L2.del H2 x) d (.xd (fl.zip (vs ++ [])).reverse)) := fun b o q => by
      have hb1 : b ≠ x := fun z => by rw [z, hx] at q; cases q
      have hb2 : b ≠ d := fun z => by rw [z, hd] at q; cases q
      rw [upd_ne hb2, del_ne hb1, e3 b hb1 hb2, upd_ne hb1]
      exact q
    have g2 := Grow.up g1.bh eh
    refine hE C _ d _ B1 _ ((s.g.trans g1).trans g2) upd_same ?_ hR
    rw [List.append_nil]
    exact isfs_zip i1
end
section
variable {P : Program} {w : World} {K : PySem.W.Frag} {mg : PySem.Str → Option Value} {base : Heap} {C : Addr}
theorem exc_init1 {x qual s n fld : PySem.Str} {st : Stmt} {f : Addr} {fd : FuncData} {p1 p2 p3 p4 : Pos} {k : Nat} (F : Fun K x qual st f fd) (Sc : FnScope [s, n] [s, n] (defScope st)) (T : OexC K C) (hno : PySem.W.findIn K (.ref C) fld = some none)
    (hbd : defBody st = [.Assign [.Attribute (.Name s p1) fld p2] (.Name n p3) p4] := by rfl) (v1 : visB (defScope st) s = true := by decide +kernel) (v2 : visB (defScope st) n = true := by decide +kernel) (d1 : (s == ("__debug__" : PySem.Str)) = false := by decide +kernel) (d2 : (n == ("__debug__" : PySem.Str)) = false := by decide +kernel)
    (c1 : (s == ("__classdict__" : PySem.Str)) = false := by decide +kernel) (c2 : (n == ("__classdict__" : PySem.Str)) = false := by decide +kernel) : FnOk P w K mg base (L2.CX P w) (k + 1) f fd [s, n] (spXi K C [fld]) := by
  refine F.okX Sc (fun vs H Q E ⟨a, ws, e, l, _⟩ => by rw [e, List.length_cons, l] <;> rfl) fun cdv A outer sh H vs Q E hr ⟨a, ws, e, l, ha, hq⟩ => ?_
  have c : Ctx (cxOf (L2.CX P w) P w K mg base [s, n] qual (defScope st) f cdv A outer sh H E) [s, n] (defScope st) := ⟨rfl, rfl, Sc.nd, rfl⟩
  match ws, l with
  | [y], _ =>
    subst e
    refine ⟨_, by rw [hbd]; exact pss_cons (ps_ost (pe_var (i := 0) rfl (c.vis v1) d1 c1) (pe_var (i := 1) rfl (c.vis v2) d2 c2)) pss_nil, ?_⟩
    refine ⟨y, rfl, .ref a, rfl, a, C, rfl, T, hno, .inl ⟨ha, fun d hd hda => ?_⟩⟩
    refine hq d _ hd hda upd_same (by rw [upd_ne hda]; exact upd_same) fun b h1 h2 => by rw [upd_ne h1, upd_ne h2]
theorem exc_init2 {x qual s n n2 fld fld2 : PySem.Str} {st : Stmt} {f : Addr} {fd : FuncData} {p1 p2 p3 p4 q1 q2 q3 q4 : Pos} {k : Nat} (F : Fun K x qual st f fd) (Sc : FnScope [s, n, n2] [s, n, n2] (defScope st)) (T : OexC K C) (hno : PySem.W.findIn K (.ref C) fld = some none) (hno2 : PySem.W.findIn K (.ref C) fld2 = some none)
    (hbd : defBody st = [.Assign [.Attribute (.Name s p1) fld p2] (.Name n p3) p4, .Assign [.Attribute (.Name s q1) fld2 q2] (.Name n2 q3) q4] := by rfl) (v1 : visB (defScope st) s = true := by decide +kernel) (v2 : visB (defScope st) n = true := by decide +kernel) (v3 : visB (defScope st) n2 = true := by decide +kernel) (d1 : (s == ("__debug__" : PySem.Str)) = false := by decide +kernel) (d2 : (n == ("__debug__" : PySem.Str)) = false := by decide +kernel) (d3 : (n2 == ("__debug__" : PySem.Str)) = false := by decide +kernel)
    (c1 : (s == ("__classdict__" : PySem.Str)) = false := by decide +kernel) (c2 : (n == ("__classdict__" : PySem.Str)) = false := by decide +kernel) (c3 : (n2 == ("__classdict__" : PySem.Str)) = false := by decide +kernel) : FnOk P w K mg base (L2.CX P w) (k + 1) f fd [s, n, n2] (spXi K C [fld, fld2]) := by
  refine F.okX Sc (fun vs H Q E ⟨a, ws, e, l, _⟩ => by rw [e, List.length_cons, l] <;> rfl) fun cdv A outer sh H vs Q E hr ⟨a, ws, e, l, ha, hq⟩ => ?_
  have c : Ctx (cxOf (L2.CX P w) P w K mg base [s, n, n2] qual (defScope st) f cdv A outer sh H E) [s, n, n2] (defScope st) := ⟨rfl, rfl, Sc.nd, rfl⟩
  match ws, l with
  | [y, z], _ =>
    subst e
    refine ⟨_, by rw [hbd]; exact pss_cons (ps_ost (pe_var (i := 0) rfl (c.vis v1) d1 c1) (pe_var (i := 1) rfl (c.vis v2) d2 c2)) (pss_cons (ps_ost (pe_var (i := 0) rfl (c.vis v1) d1 c1) (pe_var (i := 2) rfl (c.vis v3) d3 c3)) pss_nil), ?_⟩
    refine ⟨y, rfl, .ref a, rfl, a, C, rfl, T, hno, .inl ⟨ha, fun d hd hda => ?_⟩⟩
    refine ⟨z, rfl, .ref a, rfl, a, C, rfl, T, hno2, .inr ⟨d, [(fld, y)], upd_same, by rw [upd_ne hda]; exact upd_same, show 1 ≤ 900 from by decide, ?_⟩⟩
    refine hq d _ hd hda (by rw [upd_ne (Ne.symm hda)]; exact upd_same) upd_same fun b h1 h2 => by rw [upd_ne h2, upd_ne h1, upd_ne h2]
end
end OB
set_option Elab.async false
set_option linter.all false
set_option maxRecDepth 100000
set_option maxHeartbeats 4000000
namespace OB
open PySem PySem.Spec PyProof.Rows L2
/-! ### try, by data -/
structure CtxB (X : Cx) (N : List PySem.Str) (S : Scope) : Prop where
  hN : X.N = N
  hS : X.env.scope = S
  nd : N.Nodup
  fn : ∀ x, X.fn x = true
structure CtxT (X : Cx) (N : List PySem.Str) (S : Scope) : Prop extends CtxD X N S where
  stk : X.stack = X.env :: X.outer
  frm : X.env.frame = some X.env.locals
  own : PassesOwn (model X.prog X.w) X.A X.env X.xe
theorem takes_impI {X : Cx} {W W' : L2.WX} (t : Takes X W) (h : ∀ c d σ H, σ.length = X.N.length → W' c d σ H → W c d σ H) : Takes X W' := fun u s' ⟨a, B, sI, pins, σ, H, cls, d, e, I, nb, up, sky, na, os, ag, w⟩ =>
  t u s' ⟨a, B, sI, pins, σ, H, cls, d, e, I, nb, up, sky, na, os, ag, h _ _ _ _ I.len w⟩
/-- a clause: the class named, the suite -/
abbrev Cl := Value × List Stmt
section
variable {X : Cx} {N : List PySem.Str} {S scope : Scope} {B0 H0 : Hp} {sds : List SD} {os : List (Addr × OV)} {E : DE} {pos spos p : Pos} {a b e elt tg iter cond : Expr} {es : List Expr} {P : D → Prop} {R : Addr → List (PySem.Str × D) → Prop} {k : Nat} {body : List Stmt} {a' : Addr} {oe : Obj} {pn : List (Addr × Obj)}
/-- what the suite is asked of -/
def SuOk (X : Cx) (N : List PySem.Str) (i : Nat) (B0 H0 : Hp) (E : DE) (C : Addr) (fs : List (PySem.Str × D)) (sts : List Stmt) : Prop :=
  ∀ (a d : Addr) (ws : List (PySem.Str × V)) (oe : Obj) (pn : List (Addr × Obj)) (B' H' : Hp), Zc (.ref C) (some d) oe → (∃ vs, oe.data = .fields vs) → Grow B0 H0 B' H' → H' d = some (.xd ws) → IsFs X.K B' ws fs → H' a = none →
    Go (X.suite a ((a, oe) :: pn)) B' H' ((List.replicate N.length SD.un).set i (.v (.ref a))) [] { nx := fun s o => E.nx (s.set i .un) o, rt := E.rt, bk := fun s o => E.bk (s.set i .un) o, ct := fun s o => E.ct (s.set i .un) o } sts
def CatchOk (X : Cx) (N : List PySem.Str) (i : Nat) (B0 H0 : Hp) (E : DE) (C : Addr) (fs : List (PySem.Str × D)) : List Cl → Prop
  | [] => False
  | (c, sts) :: r => ∃ b, PySem.W.exmOne X.K (.ref C) c = some b ∧ (b = true → SuOk X N i B0 H0 E C fs sts) ∧ (b = false → CatchOk X N i B0 H0 E C fs r)
inductive ClsOk (X : Cx) (n : PySem.Str) : List ExceptHandler → List Cl → Prop
  | nil : ClsOk X n [] []
  | cons {x : PySem.Str} {c : Value} {st : Stmt} {sts : List Stmt} {np ps : Pos} {hs : List ExceptHandler} {l : List Cl} : Names X x c → ClsOk X n hs l → ClsOk X n (.ExceptHandler (some (.Name x np)) (some n) (st :: sts) ps :: hs) ((c, st :: sts) :: l)
def suT (X : Cx) (sts : List Stmt) : SuT := fun a cls d D σ H => ∀ oe pn, Zc cls d oe → (∃ vs, oe.data = .fields vs) → wSs (X.suite a ((a, oe) :: pn)) sts D σ H
theorem ClsOk.cl {n : PySem.Str} {hs : List ExceptHandler} {l : List Cl} (h : ClsOk X n hs l) : ClOk X n hs (l.map fun c => (c.1, suT X c.2)) := by
  induction h with
  | nil => exact .nil
  | cons nm r ih => exact .cons nm (fun a oe cls d pn z f => ⟨fun pins s σ H D I h => (h oe pn z f).run pins s I⟩) ih
theorem St.rebase {K : PySem.W.Frag} {B0 H0 B1 H1 B H : Hp} {σ : L2.St} (s : St K B1 H1 B H σ sds os) (g : Grow B0 H0 B1 H1) : St K B0 H0 B H σ sds os :=
  ⟨g.trans s.g, s.sl, s.ow, fun a ha => ⟨(s.fr a ha).1, Evl.fresh_back g.h (s.fr a ha).2⟩, s.nd⟩
theorem g1_try (c : CtxT X N S) (i : Nat) {n : PySem.Str} {hd : ExceptHandler} {hds : List ExceptHandler} (l : List Cl) (cl : ClsOk X n (hd :: hds) l) (hi : N[i]? = some n := by rfl) (hl : S.names.lookup n = some .local := by decide +kernel)
    (hc : ∀ B1 H1 C fs, R C fs → CatchOk X N i B1 H1 E C fs l)
    (hb : ∀ pn xe B1 H1, CtxT (X.tr pn xe) N S → Air (X.tr pn xe) B1 H1 R → Go (X.tr pn xe) B1 H1 sds [] E body) : Go1 X B0 H0 sds [] E (.Try body (hd :: hds) [] [] pos) := fun A B H σ ea s => by
  have hk : X.env.kindOf n = some .local := by unfold Env.kindOf; rw [c.hS]; exact hl
  have back : ∀ {B' H' σ' sds' os'}, St X.K B H B' H' σ' sds' os' → St X.K B0 H0 B' H' σ' sds' os' := fun z => z.rebase s.g
  refine PS.to (ps_try_cl (i := i) (tb := fun W D σ H => ∀ pn xe, Takes (X.tr pn xe) W → PassesOwn (model X.prog X.w) X.A X.env xe → wSs (X.tr pn xe) body D σ H) (Wo := fun _ _ _ _ => False) c.stk c.frm (by rw [c.hN]; exact c.nd) (by rw [c.hN]; exact hi) hk takes0
    (fun W pn xe tk po => ⟨fun pins s σ H D I h => (h pn xe tk po).run pins s I⟩) cl.cl) ?_
  intro pn xe tk po
  refine wSs.imp (hb pn xe B H ⟨⟨⟨c.hN, c.hS, c.nd, c.calm⟩, c.fn⟩, c.stk, c.frm, po⟩ ⟨fun cls d H' => ∃ C fs dd ws B', cls = .ref C ∧ d = some dd ∧ Grow B H B' H' ∧ H' dd = some (.xd ws) ∧ IsFs X.K B' ws fs ∧ R C fs, takes_impI tk ?_, ?_⟩ B B H σ (Evl.Ex.refl _) ⟨Grow.refl s.g.bh, s.sl, (fun _ h => nomatch h), (fun _ h => nomatch h), List.nodup_nil⟩) ?_ ?_ ?_ ?_
  · intro cls d σ' H' hlen ⟨C, fs, dd, ws, B', e1, e2, g, hx, hf, hr⟩
    subst e1; subst e2
    have hlen' : σ'.length = N.length := hlen.trans (by rw [← c.hN])
    have go : ∀ l, CatchOk X N i B H E C fs l → wCl X.K i (fun _ _ _ _ => False) (E.ends X.K B0 H0 A) (l.map fun c => (c.1, suT X c.2)) (.ref C) (some dd) σ' H' := by
      intro l
      induction l with
      | nil => exact fun z => z.elim
      | cons q r ih =>
        obtain ⟨c0, sts⟩ := q
        intro ⟨b, hb, h1, h2⟩
        refine ⟨b, hb, fun hb' a na oe pn z f => ?_, fun hb' => ih (h2 hb')⟩
        have go := h1 hb' a dd ws oe pn B' H' z f g hx hf na
        have gg := s.g.trans g
        refine wSs.imp (go B' B' H' (σ'.set i (some (.ref a))) (Evl.Ex.refl _) ⟨Grow.refl g.bh, ⟨by simp [hlen'], fun j sd q => ?_⟩, (fun _ h => nomatch h), (fun _ h => nomatch h), List.nodup_nil⟩) ?_ ?_ ?_ ?_
        · by_cases hj : i = j
          · subst hj
            have hil : i < N.length := (List.getElem?_eq_some_iff.mp hi).1
            rw [List.getElem?_set_self (by simpa using hil)] at q
            cases q
            show (σ'.set i (some (V.ref a)))[i]? = some (some (V.ref a))
            rw [List.getElem?_set_self (by rw [hlen']; exact hil)]
          · rw [List.getElem?_set_ne hj, List.getElem?_replicate] at q
            split at q
            · cases q; trivial
            · cases q
        · intro σ2 H2 ⟨B2, sds2, os2, e2, s2, p2⟩
          exact ⟨B2, _, os2, (ea.trans g.b).trans e2, ⟨(s2.rebase gg).g, s2.sl.forget, s2.ow, (s2.rebase gg).fr, s2.nd⟩, p2⟩
        · intro v H2 ⟨B2, d2, e2, g2, i2, p2⟩
          exact ⟨B2, d2, (ea.trans g.b).trans e2, gg.trans g2, i2, p2⟩
        · intro σ2 H2 ⟨B2, sds2, os2, e2, s2, p2⟩
          exact ⟨B2, _, os2, (ea.trans g.b).trans e2, ⟨(s2.rebase gg).g, s2.sl.forget, s2.ow, (s2.rebase gg).fr, s2.nd⟩, p2⟩
        · intro σ2 H2 ⟨B2, sds2, os2, e2, s2, p2⟩
          exact ⟨B2, _, os2, (ea.trans g.b).trans e2, ⟨(s2.rebase gg).g, s2.sl.forget, s2.ow, (s2.rebase gg).fr, s2.nd⟩, p2⟩
    exact go l (hc B H C fs hr)
  · exact fun C fs dd ws B' H' g hx hf hr => ⟨C, fs, dd, ws, B', rfl, rfl, g, hx, hf, hr⟩
  · exact fun σ2 H2 ⟨B2, sds2, os2, e2, s2, p2⟩ => ⟨B2, sds2, os2, ea.trans e2, back s2, p2⟩
  · exact fun v H2 ⟨B2, d2, e2, g2, i2, p2⟩ => ⟨B2, d2, ea.trans e2, s.g.trans g2, i2, p2⟩
  · exact fun σ2 H2 ⟨B2, sds2, os2, e2, s2, p2⟩ => ⟨B2, sds2, os2, ea.trans e2, back s2, p2⟩
  · exact fun σ2 H2 ⟨B2, sds2, os2, e2, s2, p2⟩ => ⟨B2, sds2, os2, ea.trans e2, back s2, p2⟩
/-! ### in a suite -/
theorem sub_suite (c : CtxT X N S) {a : Addr} {pn : List (Addr × Obj)} : CtxB (X.suite a pn) N S := ⟨c.hN, c.hS, c.nd, c.fn⟩
theorem ex_varB (c : CtxB X N S) (i : Nat) {x : PySem.Str} {d : D} (p : P d) (hs : sds[i]? = some (.d d) := by rfl) (hN : N[i]? = some x := by rfl) (hv : visB S x = true := by decide +kernel)
    (hd : (x == ("__debug__" : PySem.Str)) = false := by decide +kernel) (hcd : (x == ("__classdict__" : PySem.Str)) = false := by decide +kernel) : EX X B0 H0 sds os (.Name x pos) P := fun B H σ s Q q => by
  obtain ⟨v, e1, hi⟩ := s.var hs
  refine PE.to (pe_var (i := i) (by rw [c.hN]; exact hN) ?_ hd hcd) ⟨v, e1, q v B H d (Grow.refl s.g.bh) hi p⟩
  have hv' := hv
  unfold visB at hv'
  rw [c.hS]
  unfold Vis
  split at hv' <;> first | (rename_i e; rw [e]; simp) | cases hv'
theorem g1_asgB (c : CtxB X N S) (i : Nat) {x : PySem.Str} {pos' : Pos} (h : EX X B0 H0 sds os e fun d => E.nx (sds.set i (.d d)) os) (hN : N[i]? = some x := by rfl) (hv : locB S x = true := by decide +kernel)
    (hs : swapsWith e (some (.Name x pos')) pos.line X.env = pure false := by rfl) : Go1 X B0 H0 sds os E (.Assign [.Name x pos'] e pos) := fun A B H σ ea s => by
  have hl : L2.Loc X.env.scope x := by
    have hv' := hv
    unfold locB at hv'
    rw [c.hS]
    unfold L2.Loc
    split at hv' <;> first | (rename_i e; rw [e]; simp) | cases hv'
  exact PS.to (ps_set (i := i) (by rw [c.hN]; exact c.nd) (by rw [c.hN]; exact hN) hl pe_w hs (.inl (c.fn x))) (h B H σ s _ fun v B1 H1 d g1 i1 p => ⟨B1, _, _, ea.trans g1.b, (s.grow g1).set i1, p⟩)
/-- e.f of the error caught -/
theorem ex_xf (c : CtxB (X.suite a' ((a', oe) :: pn)) N S) (i : Nat) {x f : PySem.Str} {px : Pos} {C d : Addr} {ws : List (PySem.Str × V)} {fs : List (PySem.Str × D)} {dv : D} (T : XfC X.K C) (hno : PySem.W.findIn X.K (.ref C) f = some none) (hz : Zc (.ref C) (some d) oe) (hf : ∃ vs, oe.data = .fields vs)
    (hx : H0 d = some (.xd ws)) (hfs : IsFs X.K B0 ws fs) (hl : fs.lookup f = some dv) (hp : P dv) (hs : sds[i]? = some (.v (.ref a')) := by rfl) (hN : N[i]? = some x := by rfl) (hv : visB S x = true := by decide +kernel)
    (hd : (x == ("__debug__" : PySem.Str)) = false := by decide +kernel) (hcd : (x == ("__classdict__" : PySem.Str)) = false := by decide +kernel) (hb : attributeBase (.Name x px) f X.env (eval (.Name x px) X.env) = eval (.Name x px) X.env := by rfl) : EX (X.suite a' ((a', oe) :: pn)) B0 H0 sds os (.Attribute (.Name x px) f pos) P := fun B H σ s Q q => by
  have hvis : Vis (X.suite a' ((a', oe) :: pn)).env.scope x := by
    have hv' := hv
    unfold visB at hv'
    rw [c.hS]
    unfold Vis
    split at hv' <;> first | (rename_i e; rw [e]; simp) | cases hv'
  obtain ⟨v, hv2, iv⟩ := hfs.look hl
  exact PE.to (pe_xf T hno hz hf (pe_var (i := i) (by rw [c.hN]; exact hN) hvis hd hcd) hb) ⟨_, s.varV hs, rfl, rfl, d, ws, v, rfl, s.g.h _ _ hx, hv2, q v B H dv (Grow.refl s.g.bh) (iv.mono s.g.b) hp⟩
end
end OB
set_option Elab.async false
set_option linter.all false
set_option maxRecDepth 100000
set_option maxHeartbeats 4000000
namespace OB
open PySem PySem.Spec PyProof.Rows L2
/-! ### defs once more, with all of the context; instances -/
def without (H : Hp) (a : Addr) : Hp := fun b => if b = a then none else H b
theorem without_ne {H : Hp} {a b : Addr} (h : b ≠ a) : without H a b = H b := if_neg h
theorem without_same {H : Hp} {a : Addr} : without H a a = none := if_pos rfl
section
variable {P : Program} {w : World} {K : PySem.W.Frag} {mg : PySem.Str → Option Value} {base : Heap}
theorem ctxT_of {N : List PySem.Str} {qual : PySem.Str} {sc : Scope} {f : Addr} {cdv : Value} {A : Around} {outer : List Env} {s : Shared} {H : Hp} {E : XK} (nd : N.Nodup) : CtxT (cxOf (L2.CX P w) P w K mg base N qual sc f cdv A outer s H E) N sc :=
  ⟨⟨⟨rfl, rfl, nd, rfl⟩, fun _ => rfl⟩, rfl, rfl, passes_of rfl⟩
/-- what a body is asked of -/
def Bod (P : Program) (w : World) (K : PySem.W.Frag) (mg : PySem.Str → Option Value) (base : Heap) (k : Nat) (N : List PySem.Str) (sc : Scope) (body : List Stmt) (Sf : SpD) : Prop :=
  ∀ X : Cx, X.prog = P → X.w = w → X.K = K → X.mg = mg → X.base = base → Room k X.A → CtxT X N sc → BodyOk X N Sf body
theorem fn_mk2 {x name qual : PySem.Str} {params : Arguments} {body : List Stmt} {sc : Scope} {dV kV doc pm cdv ct oc : Value} {an od : Option Addr} {osl : Array (Option Value)} {f : Addr} {N ps : List PySem.Str} {k : Nat} {Sf : SpD}
    (lk : K.lookup f = some ⟨oc, od, .func (PySem.W.fnOf name qual params body sc dV kV doc pm an cdv ct), osl⟩) (hcd : PySem.W.codeIn K cdv qual = true) (kp : PySem.W.keepIn K (.ref f) = true) (Sc : FnScope N ps sc) (hm : mg x = some (.ref f)) (hb : Binds K (PySem.W.fnOf name qual params body sc dV kV doc pm an cdv ct) ps [])
    (len : ∀ ds P R, Sf ds P R → ds.length = ps.length) (h : Bod P w K mg base k N sc body Sf) : FnD P w K mg base x (k + 1) Sf := by
  refine ⟨f, _, ps, hm, kp, hb, fn_of lk hcd Sc (fun vs H Q E ⟨B, ds, P, R, _, h1, h2, _⟩ => by rw [h1.len]; exact len _ _ _ h2) fun A outer s H vs Q E hr hsp => ⟨_, pss_w, ?_⟩⟩
  obtain ⟨B, ds, P', R, eb, h1, h2, h3, h4⟩ := hsp
  have go := h (cxOf (L2.CX P w) P w K mg base N qual sc f cdv A outer s H E) rfl rfl rfl rfl rfl hr (ctxT_of Sc.nd) ds P' R h2 B H ⟨E, takes_of rfl rfl rfl rfl, h4⟩
  refine wSs.imp (go B B H (L2.start N vs) (Evl.Ex.refl _) ⟨Grow.refl eb, slots_ini h1, (fun _ h => (nomatch h)), (fun _ h => (nomatch h)), List.nodup_nil⟩) (fun σ' H' ⟨B', sds', os', _, s', p⟩ => h3 _ _ _ _ s'.g .non p) (fun v H' ⟨B', d, _, g, i, p⟩ => h3 _ _ _ _ g i p) (fun σ' H' ⟨B', sds', os', _, s', p⟩ => p.elim) (fun σ' H' ⟨B', sds', os', _, s', p⟩ => p.elim)
/-! instances -/
abbrev SpI := List D → (List (PySem.Str × D) → Prop) → (Addr → List (PySem.Str × D) → Prop) → Prop
def toSpI (K : PySem.W.Frag) (C : Addr) (S : SpI) : Sp := fun vs H Q E => ∃ (a dx : Addr) (ws : List V) (B : Hp) (ds : List D) (P : List (PySem.Str × D) → Prop) (R : Addr → List (PySem.Str × D) → Prop), vs = .ref a :: ws ∧ H a = some (.ins C dx []) ∧ B a = none ∧ Ex B H ∧ IsAll K B ws ds ∧ S ds P R ∧
  (∀ B' H' us fs, Grow B (without H a) B' H' → B' a = none → H' a = some (.ins C dx us) → IsFs K B' us fs → P fs → Q .non H') ∧
  (∀ C fs dd ws B' H', Grow B (without H a) B' H' → H' dd = some (.xd ws) → IsFs K B' ws fs → R C fs → E (.ref C) (some dd) H')
structure MkD (P : Program) (w : World) (K : PySem.W.Frag) (mg : PySem.Str → Option Value) (base : Heap) (x : PySem.Str) (C : Addr) (k : Nat) (S : SpI) : Prop where
  at' : mg x = some (.ref C)
  init : ∃ f fd ps, Mk K C f ∧ FnOk P w K mg base (L2.CX P w) k f fd ps (toSpI K C S) ∧ Binds K fd ps []
def BodI (P : Program) (w : World) (K : PySem.W.Frag) (mg : PySem.Str → Option Value) (base : Heap) (k : Nat) (N : List PySem.Str) (sc : Scope) (body : List Stmt) (C : Addr) (S : SpI) : Prop :=
  ∀ X : Cx, X.prog = P → X.w = w → X.K = K → X.mg = mg → X.base = base → Room k X.A → CtxT X N sc → ∀ ds P R, S ds P R → ∀ B0 H0 a dx, Air X B0 H0 R → Go X B0 H0 (.v (.ref a) :: ini (N.length - 1) ds) [(a, .ins C dx [])] { nx := fun _ os => ∃ fs, os = [(a, .ins C dx fs)] ∧ P fs } body
theorem init_mk {name qual : PySem.Str} {params : Arguments} {body : List Stmt} {sc : Scope} {dV kV doc pm cdv ct oc : Value} {an od : Option Addr} {osl : Array (Option Value)} {f C : Addr} {N ps : List PySem.Str} {k : Nat} {S : SpI}
    (lk : K.lookup f = some ⟨oc, od, .func (PySem.W.fnOf name qual params body sc dV kV doc pm an cdv ct), osl⟩) (hcd : PySem.W.codeIn K cdv qual = true) (Sc : FnScope N ps sc) (hN : 0 < N.length) (len : ∀ ds P R, S ds P R → ds.length + 1 = ps.length) (h : BodI P w K mg base k N sc body C S) :
    FnOk P w K mg base (L2.CX P w) (k + 1) f (PySem.W.fnOf name qual params body sc dV kV doc pm an cdv ct) ps (toSpI K C S) := by
  refine fn_of lk hcd Sc (fun vs H Q E ⟨a, dx, ws, B, ds, P, R, e, _, _, _, h1, h2, _⟩ => by rw [e, List.length_cons, h1.len]; exact len _ _ _ h2) fun A outer s H vs Q E hr hsp => ⟨_, pss_w, ?_⟩
  obtain ⟨a, dx, ws, B, ds, P', R, e, ha, hB, eb, h1, h2, h3, h4⟩ := hsp
  subst e
  have go := h (cxOf (L2.CX P w) P w K mg base N qual sc f cdv A outer s H E) rfl rfl rfl rfl rfl hr (ctxT_of Sc.nd) ds P' R h2 B (without H a) a dx ⟨E, takes_of rfl rfl rfl rfl, h4⟩
  have e1 : Ex (without H a) H := fun b o q => by
    by_cases hb : b = a
    · subst hb; rw [without_same] at q; cases q
    · rw [without_ne hb] at q; exact q
  have st : St K B (without H a) B H (L2.start N (.ref a :: ws)) (.v (.ref a) :: ini (N.length - 1) ds) [(a, .ins C dx [])] := by
    refine ⟨⟨Evl.Ex.refl _, e1, eb, fun _ q => .inl q⟩, ⟨?_, fun i sd q => ?_⟩, fun e he => ?_, fun b hb => ?_, by simp [fpt]⟩
    · have := h1.len
      simp [L2.start, ini, this]; omega
    · match i, q with
      | 0, q => cases q; rfl
      | i + 1, q =>
        have hs := (slots_ini (N := N.tail) h1).at' i sd (by rw [List.length_tail]; exact q)
        have e : (L2.start N (.ref a :: ws))[i + 1]? = (L2.start N.tail ws)[i]? := by
          unfold L2.start
          rw [List.map_cons, List.cons_append, List.getElem?_cons_succ, List.length_cons, List.length_tail, Nat.sub_add_eq, Nat.sub_right_comm]
        rw [e]; exact hs
    · have e' : e = (a, .ins C dx []) := by simpa using he
      subst e'; exact ⟨[], ha, .nil⟩
    · have e' : b = a := by simpa [fpt] using hb
      subst e'; exact ⟨hB, without_same⟩
  refine wSs.imp (go B B H _ (Evl.Ex.refl _) st) (fun σ' H' ⟨B', sds', os', _, s', fs, eo, p⟩ => ?_) (fun v H' ⟨B', d, _, g, i, p⟩ => p.elim) (fun σ' H' ⟨B', sds', os', _, s', p⟩ => p.elim) (fun σ' H' ⟨B', sds', os', _, s', p⟩ => p.elim)
  subst eo
  obtain ⟨us, q1, q2⟩ := s'.ow _ (List.mem_singleton.mpr rfl)
  exact h3 B' H' us fs s'.g (s'.fr a (by simp [fpt])).1 q1 q2 p
end
section
variable {X : Cx} {N : List PySem.Str} {S scope : Scope} {B0 H0 : Hp} {sds : List SD} {os : List (Addr × OV)} {E : DE} {pos spos p : Pos} {a b e elt tg iter cond : Expr} {es : List Expr} {P : D → Prop} {R : Addr → List (PySem.Str × D) → Prop} {k : Nat} {body : List Stmt}
theorem ex_make (c : Ctx X N S) {x : PySem.Str} {C : Addr} {Sf : SpI} (F : MkD X.prog X.w X.K X.mg X.base x C k Sf) (hr : Room (k + 1) X.A) (h : EA X B0 H0 sds os (e :: es) fun ds => Sf ds (fun fs => P (.ins C fs)) fun _ _ => False) (hg : glB S x = true := by decide +kernel)
    (hdb : (x == ("__debug__" : PySem.Str)) = false := by decide +kernel) (he : starEach (e :: es) X.env = (false, eval e X.env) :: starEach es X.env := by rfl) (hpl : (backTo pos (starEach es X.env)).any (·.1) = false := by rfl) : EX X B0 H0 sds os (.Call (.Name x p) (e :: es) [] pos) P := fun B H σ s Q q => by
  obtain ⟨f, fd, ps, M, F1, hb⟩ := F.init
  refine PE.to (pe_make (E := fun _ _ _ => False) M F1 hr (c.gl hg) F.at' hb .nil passL pa_w hdb he hpl) ?_
  refine h B H σ s _ fun vs B1 H1 ds g1 i1 hs => ?_
  intro x dx hx hdx hne
  rw [List.append_nil]
  have bx : B1 x = none := Evl.fresh_back g1.bh hx
  have eh : Ex H1 (without (upd (upd H1 dx (.own x)) x (.ins C dx [])) x) := fun b o q => by
    have b1 : b ≠ x := fun z => by rw [z, hx] at q; cases q
    have b2 : b ≠ dx := fun z => by rw [z, hdx] at q; cases q
    rw [without_ne b1, upd_ne b1, upd_ne b2]; exact q
  refine ⟨x, dx, vs, B1, ds, _, _, rfl, upd_same, bx, fun b o q => ?_, i1, hs, fun B' H' us fs g ha' hh hf hp => ⟨rfl, ?_⟩, fun _ _ _ _ _ _ _ _ _ z => z.elim⟩
  · have q' := g1.bh _ _ q
    have b1 : b ≠ x := fun z => by rw [z, hx] at q'; cases q'
    have b2 : b ≠ dx := fun z => by rw [z, hdx] at q'; cases q'
    rw [upd_ne b1, upd_ne b2]; exact q'
  · have g2 : Grow B1 H1 (upd B' x (.ins C dx us)) H' := by
      refine ⟨g.b.trans (Evl.Ex.new ha'), eh.trans g.h, ex_join g.bh hh, fun b q => ?_⟩
      by_cases hb : b = x
      · subst hb; exact .inr hx
      · rw [upd_ne hb] at q
        rcases g.fr b q with z | z
        · exact .inl z
        · by_cases hd : b = dx
          · exact .inr (by rw [hd]; exact hdx)
          · rw [without_ne hb, upd_ne hb, upd_ne hd] at z; exact .inr z
    exact q _ _ _ _ (g1.trans g2) (.ins upd_same (IsFs.mono (Evl.Ex.new ha') _ _ hf)) hp
def putFD (f : PySem.Str) (d : D) : List (PySem.Str × D) → List (PySem.Str × D)
  | [] => [(f, d)]
  | (g, x) :: r => if g = f then (g, d) :: r else (g, x) :: putFD f d r
theorem isfs_put {K : PySem.W.Frag} {B : Hp} {v : V} {d : D} {f : PySem.Str} (h : Is K B v d) : ∀ {fs : List (PySem.Str × D)} {vs : List (PySem.Str × V)}, IsFs K B vs fs → IsFs K B (putF f v vs) (putFD f d fs)
  | [], _, .nil => .cons h .nil
  | (g, x) :: r, _, .cons h1 h2 => by
    unfold putF putFD
    by_cases e : g = f
    · rw [if_pos e, if_pos e]; exact .cons h h2
    · rw [if_neg e, if_neg e]; exact .cons h1 (isfs_put h h2)
/-- self.f = e, self owned alone -/
theorem g1_fld (c : Ctx X N S) (i : Nat) {x f : PySem.Str} {p1 p2 : Pos} {C dx ad : Addr} {fs : List (PySem.Str × D)} (cl : Cls X.K C) (na : NoAttr X.K C f) (h : EX X B0 H0 sds [(ad, .ins C dx fs)] e fun d => fs.length < 1000 ∧ E.nx sds [(ad, .ins C dx (putFD f d fs))]) (hi : sds[i]? = some (.v (.ref ad)) := by rfl)
    (hN : N[i]? = some x := by rfl) (hv : visB S x = true := by decide +kernel) (hd : (x == ("__debug__" : PySem.Str)) = false := by decide +kernel) (hcd : (x == ("__classdict__" : PySem.Str)) = false := by decide +kernel)
    (hs : swapsWith e (some (.Attribute (.Name x p1) f p2)) pos.line X.env = pure false := by rfl) : Go1 X B0 H0 sds [(ad, .ins C dx fs)] E (.Assign [.Attribute (.Name x p1) f p2] e pos) := fun A B H σ ea s => by
  refine PS.to (ps_fld (pe_var (i := i) (by rw [c.hN]; exact hN) (c.vis hv) hd hcd) pe_w hs) ?_
  refine h B H σ s _ fun v B1 H1 d g1 i1 ⟨hl, k⟩ => ?_
  have s1 := s.grow g1
  obtain ⟨us, q1, q2⟩ := s1.ow _ (List.mem_singleton.mpr rfl)
  refine ⟨.ref ad, s1.varV hi, ad, C, dx, us, rfl, q1, cl, na, by rw [q2.len]; exact hl, ?_⟩
  have f1 := s1.fr ad (by simp [fpt])
  refine ⟨B1, sds, _, ea.trans g1.b, ⟨⟨s1.g.b, s1.g.h.mut f1.2, Evl.Ex.mut s1.g.bh f1.1, s1.g.fr⟩, s1.sl, fun e he => ?_, fun b hb => s1.fr b (by simpa [fpt] using hb), by simp [fpt]⟩, k⟩
  have e' : e = (ad, .ins C dx (putFD f d fs)) := by simpa using he
  subst e'
  exact ⟨_, upd_same, isfs_put i1 q2⟩
/-- self.f read of an owned one -/
theorem ex_fldO (c : Ctx X N S) (i j : Nat) {x f : PySem.Str} {px : Pos} {C dx ad : Addr} {fs : List (PySem.Str × D)} {d : D} (cl : Cls X.K C) (na : NoAttr X.K C f) (hl : fs.lookup f = some d) (hp : P d) (hj : os[j]? = some (ad, .ins C dx fs) := by rfl) (hi : sds[i]? = some (.v (.ref ad)) := by rfl)
    (hN : N[i]? = some x := by rfl) (hv : visB S x = true := by decide +kernel) (hd : (x == ("__debug__" : PySem.Str)) = false := by decide +kernel) (hcd : (x == ("__classdict__" : PySem.Str)) = false := by decide +kernel)
    (hb : attributeBase (.Name x px) f X.env (eval (.Name x px) X.env) = eval (.Name x px) X.env := by rfl) : EX X B0 H0 sds os (.Attribute (.Name x px) f pos) P := fun B H σ s Q q => by
  obtain ⟨us, q1, q2⟩ := s.ow _ (List.mem_of_getElem? hj)
  obtain ⟨v, e2, iv⟩ := q2.look hl
  exact PE.to (pe_fld (pe_var (i := i) (by rw [c.hN]; exact hN) (c.vis hv) hd hcd) hb) ⟨.ref ad, s.varV hi, ad, C, dx, us, v, rfl, q1, cl, na, e2, q v B H d (Grow.refl s.g.bh) iv hp⟩
end
end OB
set_option Elab.async false
set_option linter.all false
set_option maxRecDepth 100000
set_option maxHeartbeats 4000000
namespace OB
open PySem PySem.Spec PyProof.Rows L2
/-! ### defs that hand back a new matrix -/
abbrev SpM := List D → (List (List D) → Prop) → Prop
def toSpM (K : PySem.W.Frag) (S : SpM) : Sp := fun vs H Q _ => ∃ (B : Hp) (ds : List D) (P : List (List D) → Prop), Ex B H ∧ IsAll K B vs ds ∧ S ds P ∧
  ∀ p rs B' H' M, Grow B H B' H' → (∀ a ∈ p :: rs, H a = none ∧ B' a = none) → (p :: rs).Nodup → H' p = some (.lst (rs.map V.ref)) → Rows K B' H' rs M → P M → Q (.ref p) H'
structure FnM (P : Program) (w : World) (K : PySem.W.Frag) (mg : PySem.Str → Option Value) (base : Heap) (x : PySem.Str) (k : Nat) (S : SpM) : Prop where
  ex : ∃ (f : Addr) (fd : FuncData) (ps : List PySem.Str), mg x = some (.ref f) ∧ PySem.W.keepIn K (.ref f) = true ∧ Binds K fd ps [] ∧ FnOk P w K mg base (L2.CX P w) k f fd ps (toSpM K S)
section
variable {X : Cx} {N : List PySem.Str} {S scope : Scope} {B0 H0 : Hp} {sds : List SD} {os : List (Addr × OV)} {E : DE} {pos spos p : Pos} {a b e elt tg iter cond : Expr} {es : List Expr} {P : D → Prop} {R : Addr → List (PySem.Str × D) → Prop} {k : Nat} {body : List Stmt}
theorem em_call (c : Ctx X N S) {x : PySem.Str} {Sf : SpM} {P : List (List D) → Prop} (F : FnM X.prog X.w X.K X.mg X.base x k Sf) (hr : Room k X.A) (h : EA X B0 H0 sds os (e :: es) fun ds => Sf ds P) (hg : glB S x = true := by decide +kernel)
    (hdb : (x == ("__debug__" : PySem.Str)) = false := by decide +kernel) (he : starEach (e :: es) X.env = (false, eval e X.env) :: starEach es X.env := by rfl) (hpl : (backTo pos (starEach es X.env)).any (·.1) = false := by rfl) : EM X B0 H0 sds os (.Call (.Name x p) (e :: es) [] pos) P := fun B H σ s Q q => by
  obtain ⟨f, fd, ps, h1, h2, h3, h4⟩ := F.ex
  refine PE.to (pe_call h4 hr (c.gl hg) h1 h2 h3 .nil passL pa_w hdb he hpl) ?_
  refine h B H σ s _ fun vs B1 H1 ds g1 i1 hs => ?_
  rw [List.append_nil]
  exact ⟨B1, ds, P, g1.bh, i1, hs, fun p rs B2 H2 M g2 fr nd h1 h2 hp => q p rs B2 H2 M (g1.trans g2) (fun a ha => ⟨Evl.fresh_back g1.h (fr a ha).1, (fr a ha).2⟩) nd h1 h2 hp⟩
end
section
variable {P : Program} {w : World} {K : PySem.W.Frag} {mg : PySem.Str → Option Value} {base : Heap}
/-- a def of one row: return e -/
theorem fnm_mk {x name qual : PySem.Str} {params : Arguments} {body : List Stmt} {sc : Scope} {dV kV doc pm cdv ct oc : Value} {an od : Option Addr} {osl : Array (Option Value)} {f : Addr} {N ps : List PySem.Str} {k : Nat} {Sf : SpM} {e : Expr} {rp : Pos}
    (lk : K.lookup f = some ⟨oc, od, .func (PySem.W.fnOf name qual params body sc dV kV doc pm an cdv ct), osl⟩) (hcd : PySem.W.codeIn K cdv qual = true) (kp : PySem.W.keepIn K (.ref f) = true) (Sc : FnScope N ps sc) (hm : mg x = some (.ref f)) (hb : Binds K (PySem.W.fnOf name qual params body sc dV kV doc pm an cdv ct) ps [])
    (len : ∀ ds P, Sf ds P → ds.length = ps.length) (hbd : body = [.Return (some e) rp]) (h : ∀ X : Cx, X.prog = P → X.w = w → X.K = K → X.mg = mg → X.base = base → Room k X.A → CtxT X N sc → ∀ ds P, Sf ds P → ∀ B0 H0, EM X B0 H0 (ini N.length ds) [] e P) : FnM P w K mg base x (k + 1) Sf := by
  refine ⟨f, _, ps, hm, kp, hb, fn_of lk hcd Sc (fun vs H Q E ⟨B, ds, P, _, h1, h2, _⟩ => by rw [h1.len]; exact len _ _ h2) fun A outer s H vs Q E hr hsp => ?_⟩
  obtain ⟨B, ds, P', eb, h1, h2, h3⟩ := hsp
  have em := h (cxOf (L2.CX P w) P w K mg base N qual sc f cdv A outer s H E) rfl rfl rfl rfl rfl hr (ctxT_of Sc.nd) ds P' h2 B H
  rw [hbd]
  refine ⟨_, pss_cons (ps_ret pe_w) pss_nil, ?_⟩
  exact em B H _ ⟨Grow.refl eb, slots_ini h1, (fun _ h => (nomatch h)), (fun _ h => (nomatch h)), List.nodup_nil⟩ _ fun p rs B' H' M g fr nd hp hr pm => h3 p rs B' H' M g fr nd hp hr pm
end

/-! ### matrices of bits -/
def bit (b : Bool) : D := .int (if b then 1 else 0)
def rowOf (n : Nat) (f : Nat → Bool) : List D := (List.range n).map fun b => bit (f b)
def matOf (n : Nat) (f : Nat → Nat → Bool) : List (List D) := (List.range n).map fun a => rowOf n (f a)
def webD (n : Nat) (f : Nat → Nat → Bool) : D := .lst ((matOf n f).map .lst)
theorem matOf_len (n : Nat) (f : Nat → Nat → Bool) : (matOf n f).length = n := by simp [matOf]
theorem rowOf_len (n : Nat) (f : Nat → Bool) : (rowOf n f).length = n := by simp [rowOf]
theorem matOf_get {n u : Nat} {f : Nat → Nat → Bool} (h : u < n) : (matOf n f)[u]? = some (rowOf n (f u)) := by simp [matOf, h]
theorem rowOf_get {n v : Nat} {f : Nat → Bool} (h : v < n) : (rowOf n f)[v]? = some (bit (f v)) := by simp [rowOf, h]
def updM (f : Nat → Nat → Bool) (u v : Nat) (b : Bool) : Nat → Nat → Bool := fun x y => if x = u ∧ y = v then b else f x y
theorem matOf_congr {n : Nat} {f g : Nat → Nat → Bool} (h : ∀ a b, a < n → b < n → f a b = g a b) : matOf n f = matOf n g := by
  unfold matOf rowOf
  refine List.map_congr_left fun a ha => List.map_congr_left fun b hb => ?_
  rw [h a b (List.mem_range.mp ha) (List.mem_range.mp hb)]
theorem webD_congr {n : Nat} {f g : Nat → Nat → Bool} (h : ∀ a b, a < n → b < n → f a b = g a b) : webD n f = webD n g := by
  unfold webD
  rw [matOf_congr h]
theorem rowOf_set {n v : Nat} {f : Nat → Bool} {b : Bool} (hv : v < n) : (rowOf n f).set v (bit b) = rowOf n fun y => if y = v then b else f y := by
  refine List.ext_getElem? fun j => ?_
  by_cases hj : v = j
  · subst hj
    rw [List.getElem?_set_self (by rw [rowOf_len]; exact hv), rowOf_get hv, if_pos rfl]
  · rw [List.getElem?_set_ne hj]
    by_cases hl : j < n
    · rw [rowOf_get hl, rowOf_get hl, if_neg (Ne.symm hj)]
    · rw [List.getElem?_eq_none (by rw [rowOf_len]; omega), List.getElem?_eq_none (by rw [rowOf_len]; omega)]
theorem matOf_set {n u v : Nat} {f : Nat → Nat → Bool} {b : Bool} (hu : u < n) (hv : v < n) : (matOf n f).set u ((rowOf n (f u)).set v (bit b)) = matOf n (updM f u v b) := by
  rw [rowOf_set hv]
  refine List.ext_getElem? fun j => ?_
  by_cases hj : u = j
  · subst hj
    rw [List.getElem?_set_self (by rw [matOf_len]; exact hu), matOf_get hu]
    congr 2
    funext y
    simp [updM]
  · rw [List.getElem?_set_ne hj]
    by_cases hl : j < n
    · rw [matOf_get hl, matOf_get hl]
      congr 2
      funext y
      simp [updM, Ne.symm hj]
    · rw [List.getElem?_eq_none (by rw [matOf_len]; omega), List.getElem?_eq_none (by rw [matOf_len]; omega)]
theorem mat_blank (n : Nat) : List.replicate n (List.replicate n (bit false)) = matOf n fun _ _ => false := by
  have h1 : ∀ n : Nat, List.replicate n (bit false) = (List.range n).map fun _ => bit false := fun n => by rw [List.map_const', List.length_range]
  have h2 : ∀ (n : Nat) (x : List D), List.replicate n x = (List.range n).map fun _ => x := fun n x => by rw [List.map_const', List.length_range]
  rw [h2, h1] <;> rfl
def Sym (f : Nat → Nat → Bool) : Prop := (∀ a b, f a b = f b a) ∧ ∀ a, f a a = false
theorem webD_ix {n u : Nat} {f : Nat → Nat → Bool} (h : u < n) : ((matOf n f).map D.lst)[u]? = some (.lst (rowOf n (f u))) := by rw [List.getElem?_map, matOf_get h] <;> rfl
end OB
namespace OB
open PySem PySem.Spec PyProof.Rows L2
section
variable {X X' : Cx} {scope : Scope} {k : Nat}
theorem Blk.mg (b : Blk X scope X') : X'.mg = X.mg := by obtain ⟨_, _, _, _, _, rfl⟩ := b; rfl
theorem Blk.room (b : Blk X scope X') (h : Room k X.A) : Room k X'.A := by obtain ⟨_, _, _, _, _, rfl⟩ := b; exact h
theorem Blk.fnD (b : Blk X scope X') {x : PySem.Str} {S : SpD} (h : FnD X.prog X.w X.K X.mg X.base x k S) : FnD X'.prog X'.w X'.K X'.mg X'.base x k S := by obtain ⟨_, _, _, _, _, rfl⟩ := b; exact h
theorem Blk.bi (b : Blk X scope X') (h : Bi X.mg) : Bi X'.mg := by rw [b.mg]; exact h
theorem rng0 (n : Nat) : rngD 0 (n : Int).toNat = (List.range n).map fun (i : Nat) => D.int (i : Int) := by simp [rngD]
theorem rng1 (a n : Nat) : rngD (a : Int) ((n : Int) - (a : Int)).toNat = (List.range (n - a)).map fun (i : Nat) => D.int ((a + i : Nat) : Int) := by
  unfold rngD
  rw [show ((n : Int) - (a : Int)).toNat = n - a by omega]
  refine List.map_congr_left fun i _ => ?_
  congr 1
end
end OB
namespace OB
open PySem PySem.Spec PyProof.Rows L2
section
variable {X : Cx} {B0 H0 : Hp} {sds : List SD} {os : List (Addr × OV)} {E : DE} {body : List Stmt}
theorem forOk_rng {t : Tg} {m : Nat} {enc : Nat → D} (I : LoopI) (h0 : I 0 sds os) (hs : ∀ k sds' os', k < m → I k sds' os' → t.put (enc k) sds' fun sds'' => Go X B0 H0 sds'' os' { E with nx := I (k + 1), ct := I (k + 1), bk := E.nx } body) (he : ∀ sds' os', I m sds' os' → E.nx sds' os') : ForOk X B0 H0 sds os E t body ((List.range m).map enc) := by
  refine ⟨I, h0, fun k u sds' os' hu hI => ?_, by simpa using he⟩
  rw [List.getElem?_map] at hu
  by_cases hk : k < m
  · rw [List.getElem?_range hk] at hu
    cases hu
    exact hs k sds' os' hk hI
  · rw [List.getElem?_eq_none (by simp; omega)] at hu; cases hu
theorem forOk_map {α : Type} {t : Tg} {L : List α} {enc : α → D} (I : LoopI) (h0 : I 0 sds os) (hs : ∀ k x sds' os', L[k]? = some x → I k sds' os' → t.put (enc x) sds' fun sds'' => Go X B0 H0 sds'' os' { E with nx := I (k + 1), ct := I (k + 1), bk := E.nx } body) (he : ∀ sds' os', I L.length sds' os' → E.nx sds' os') : ForOk X B0 H0 sds os E t body (L.map enc) := by
  refine ⟨I, h0, fun k u sds' os' hu hI => ?_, by simpa using he⟩
  rw [List.getElem?_map] at hu
  cases h : L[k]? with
  | none => rw [h] at hu; cases hu
  | some x => rw [h] at hu; cases hu; exact hs k x sds' os' h hI
end
end OB
namespace OB
open PySem PySem.Spec PyProof.Rows L2
theorem ixL {l : List D} {x : D} {P : D → Prop} (j : Nat) (h : l[j]? = some x) (p : P x) : IxD (.lst l) (j : Int) P := ⟨j, x, rfl, h, p⟩
theorem ixT {l : List D} {x : D} {P : D → Prop} (j : Nat) (h : l[j]? = some x) (p : P x) : IxD (.tup l) (j : Int) P := ⟨j, x, rfl, h, p⟩
theorem ixW {n u : Nat} {f : Nat → Nat → Bool} {P : D → Prop} (h : u < n) (p : P (.lst (rowOf n (f u)))) : IxD (webD n f) (u : Int) P := ixL u (webD_ix h) p
theorem ixR {n v : Nat} {f : Nat → Bool} {P : D → Prop} (h : v < n) (p : P (bit (f v))) : IxD (.lst (rowOf n f)) (v : Int) P := ixL v (rowOf_get h) p
end OB
namespace OB
theorem le0 : 0 ≤ 100000 := by decide
theorem le1 : 1 ≤ 100000 := by decide
theorem le2 : 2 ≤ 100000 := by decide
theorem le3 : 3 ≤ 100000 := by decide
theorem le4 : 4 ≤ 100000 := by decide
theorem le8 : 8 ≤ 100000 := by decide
end OB
set_option Elab.async false
set_option linter.all false
set_option maxRecDepth 100000
set_option maxHeartbeats 4000000
namespace OB
open PySem PySem.Spec PyProof.Rows L2
/-! ### a matrix filled entry by entry -/
structure Fil (n : Nat) (v : Nat → Nat → Bool) (k j : Nat) (h : Nat → Nat → Bool) : Prop where
  did : ∀ x y, y < n → (x < k ∨ (x = k ∧ y < j)) → h x y = v x y
  not : ∀ x y, (k < x ∨ (x = k ∧ j ≤ y)) → h x y = false
theorem Fil.zero {n : Nat} {v : Nat → Nat → Bool} : Fil n v 0 0 fun _ _ => false := ⟨fun x y _ h => by omega, fun _ _ _ => rfl⟩
theorem Fil.row {n k : Nat} {v h : Nat → Nat → Bool} (f : Fil n v k n h) : Fil n v (k + 1) 0 h := ⟨fun x y hy hx => f.did x y hy (by omega), fun x y hx => f.not x y (by omega)⟩
theorem Fil.set {n k j : Nat} {v h : Nat → Nat → Bool} (f : Fil n v k j h) {b : Bool} (hb : b = v k j) : Fil n v k (j + 1) (updM h k j b) := by
  refine ⟨fun x y hy hx => ?_, fun x y hx => ?_⟩
  · unfold updM
    by_cases e : x = k ∧ y = j
    · rw [if_pos e, e.1, e.2]; exact hb
    · rw [if_neg e]; exact f.did x y hy (by omega)
  · unfold updM
    rw [if_neg (by omega)]
    exact f.not x y (by omega)
theorem Fil.keep {n k j : Nat} {v h : Nat → Nat → Bool} (f : Fil n v k j h) (hb : v k j = false) : Fil n v k (j + 1) h := by
  refine ⟨fun x y hy hx => ?_, fun x y hx => f.not x y (by omega)⟩
  by_cases e : x = k ∧ y = j
  · rw [e.1, e.2, hb]; exact f.not k j (by omega)
  · exact f.did x y hy (by omega)
theorem Fil.done {n : Nat} {v h : Nat → Nat → Bool} (f : Fil n v n 0 h) : webD n h = webD n v := webD_congr fun a b ha hb => f.did a b hb (.inl ha)
section
variable {X : Cx} {N : List PySem.Str} {S scope : Scope} {B0 H0 : Hp} {E : DE} {pos1 pos2 : Pos} {tg1 tg2 it1 it2 : Expr} {body : List Stmt}
def intsTo (n : Nat) : List D := (List.range n).map fun (i : Nat) => .int (i : Int)
/-- two loops over all places, one invariant -/
theorem g1_two (c : CtxT X N S) (n m : Nat) (mk : SD → SD → List SD) (I : Nat → Nat → List (Addr × OV) → Prop) {ia ib : Nat} {os0 : List (Addr × OV)} {x y : SD} (h0 : I 0 0 os0)
    (hg1 : PG X tg1 ((Tg.nm ia).r X.K)) (hg2 : PG X tg2 ((Tg.nm ib).r X.K))
    (h1 : ∀ Q : List D → Prop, Q (intsTo n) → IX X B0 H0 (mk x y) os0 tg1 it1 Q)
    (h2 : ∀ k os y, k < n → I k 0 os → ∀ Q : List D → Prop, Q (intsTo m) → IX X B0 H0 (mk (.d (.int (k : Nat))) y) os tg2 it2 Q)
    (hb : ∀ k j os, k < n → j < m → I k j os → ∀ E' : DE, (∀ os', I k (j + 1) os' → E'.nx (mk (.d (.int (k : Nat))) (.d (.int (j : Nat)))) os') → Go X B0 H0 (mk (.d (.int (k : Nat))) (.d (.int (j : Nat)))) os E' body)
    (hr : ∀ k os, k < n → I k m os → I (k + 1) 0 os) (he : ∀ x y os, I n 0 os → E.nx (mk x y) os)
    (hm1 : ∀ x y d, (mk x y).set ia (.d d) = mk (.d d) y := by intros; rfl) (hm2 : ∀ x y d, (mk x y).set ib (.d d) = mk x (.d d) := by intros; rfl)
    (hs1 : ∀ x, foldedSetIterable it1 X.env x = pure x := by intro _; rfl) (hs2 : ∀ x, foldedSetIterable it2 X.env x = pure x := by intro _; rfl) :
    Go1 X B0 H0 (mk x y) os0 E (.For tg1 it1 [.For tg2 it2 body [] pos2] [] pos1) := by
  refine g1_for (t := .nm ia) c.own c.calm hg1 (h1 _ ?_) hs1
  refine forOk_rng (fun k sds os => ∃ x y, sds = mk x y ∧ I k 0 os) ⟨_, _, rfl, h0⟩ ?_ (by rintro sds os ⟨x, y, rfl, h⟩; exact he x y os h)
  rintro k sds os hk ⟨x, y, rfl, hI⟩
  show Go X B0 H0 ((mk x y).set ia _) _ _ _
  rw [hm1]
  refine go_cons (g1_for (t := .nm ib) c.own c.calm hg2 (h2 k os y hk hI _ ?_) hs2)
  refine forOk_rng (fun j sds os => ∃ y, sds = mk (.d (.int (k : Nat))) y ∧ I k j os) ⟨_, rfl, hI⟩ ?_ (by rintro sds os ⟨y, rfl, h⟩; exact go_nil ⟨_, _, rfl, hr k os hk h⟩)
  rintro j sds os hj ⟨y, rfl, hI⟩
  show Go X B0 H0 ((mk _ y).set ib _) _ _ _
  rw [hm2]
  exact hb k j os hk hj hI _ fun os' h => ⟨_, rfl, h⟩
end
theorem rngI (n : Nat) : rngD 0 (n : Int).toNat = intsTo n := rng0 n
end OB
set_option Elab.async false
set_option linter.all false
set_option maxRecDepth 100000
set_option maxHeartbeats 4000000
namespace OB
theorem xor_and_self (m k : Nat) : (m ^^^ (m &&& k)) + (m &&& k) = m := by
  have h : ∀ m n : Nat, (m ^^^ n) + 2 * (m &&& n) = m + n := by
    intro m
    induction m using Nat.strongRecOn with
    | _ m ih =>
      intro n
      by_cases h0 : m = 0
      · subst h0; simp
      · have ih' := ih (m / 2) (by omega) (n / 2)
        rw [← Nat.xor_div_two, ← Nat.and_div_two] at ih'
        have o1 := @Nat.xor_mod_two_eq_one m n
        have a1 := @Nat.and_mod_two_eq_one m n
        omega
  have h1 := h m (m &&& k)
  have h2 : m &&& (m &&& k) = m &&& k := by rw [← Nat.and_assoc, Nat.and_self]
  rw [h2] at h1
  omega
/-- m and not k -/
def andNot (m k : Nat) : Nat := m ^^^ (m &&& k)
theorem andNot_sub (m k : Nat) : andNot m k = m - (m &&& k) := by
  have := xor_and_self m k
  unfold andNot; omega
theorem andNot_bit (m k i : Nat) : (andNot m k).testBit i = (m.testBit i && !k.testBit i) := by
  unfold andNot
  rw [Nat.testBit_xor, Nat.testBit_and]
  cases m.testBit i <;> cases k.testBit i <;> rfl
/-- a mask -/
def mskN (n : Nat) (f : Nat → Bool) : Nat := match n with
  | 0 => 0
  | n + 1 => mskN n f ||| (if f n then 2 ^ n else 0)
theorem mskN_bit (f : Nat → Bool) : ∀ n i, (mskN n f).testBit i = (decide (i < n) && f i)
  | 0, i => by simp [mskN]
  | n + 1, i => by
    unfold mskN
    rw [Nat.testBit_or, mskN_bit f n i]
    by_cases e : i = n
    · subst e
      cases h : f i <;> simp
    · have e1 : decide (i < n + 1) = decide (i < n) := decide_eq_decide.mpr (by omega)
      rw [e1]
      cases h : f n
      · simp
      · simp [Ne.symm e]
theorem mskN_eq {n m : Nat} {f : Nat → Bool} (h : ∀ i, m.testBit i = (decide (i < n) && f i)) : m = mskN n f := Nat.eq_of_testBit_eq fun i => by rw [h, mskN_bit]
theorem mskN_congr {n : Nat} {f g : Nat → Bool} (h : ∀ i, i < n → f i = g i) : mskN n f = mskN n g := mskN_eq fun i => by
  rw [mskN_bit]
  by_cases e : i < n
  · rw [h i e]
  · simp [e]
theorem mskN_lt (n : Nat) (f : Nat → Bool) : mskN n f < 2 ^ n := Nat.lt_pow_two_of_testBit _ fun i hi => by rw [mskN_bit]; simp; omega
theorem mskN_or1 {n j : Nat} {f : Nat → Bool} (hj : j < n) : mskN n f ||| 2 ^ j = mskN n fun i => if i = j then true else f i := mskN_eq fun i => by
  rw [Nat.testBit_or, mskN_bit, Nat.testBit_two_pow]
  by_cases e : i = j
  · subst e; simp [hj]
  · simp [e, Ne.symm e]
theorem mskN_zero {n : Nat} : mskN n (fun _ => false) = 0 := (mskN_eq fun i => by simp).symm
/-- the lowest bit -/
theorem low_bit : ∀ m : Nat, 0 < m → ∃ l, m.testBit l = true ∧ (∀ i, i < l → m.testBit i = false) ∧ m &&& (m - 1) = andNot m (2 ^ l) ∧ m - (m &&& (m - 1)) = 2 ^ l := by
  intro m
  induction m using Nat.strongRecOn with
  | _ m ih =>
    intro h0
    by_cases h1 : m % 2 = 1
    · refine ⟨0, by simp [h1], fun i hi => by omega, ?_, ?_⟩
      · apply Nat.eq_of_testBit_eq
        intro i
        rw [andNot_bit, Nat.testBit_and, Nat.testBit_two_pow]
        cases i with
        | zero => simp; omega
        | succ i =>
          rw [Nat.testBit_succ, Nat.testBit_succ]
          have e : (m - 1) / 2 = m / 2 := by omega
          rw [e]; simp
      · have e : m &&& (m - 1) = m - 1 := by
          apply Nat.eq_of_testBit_eq
          intro i
          rw [Nat.testBit_and]
          cases i with
          | zero => simp; omega
          | succ i =>
            rw [Nat.testBit_succ, Nat.testBit_succ]
            have e : (m - 1) / 2 = m / 2 := by omega
            rw [e]; simp
        rw [e]; simp; omega
    · obtain ⟨l, a, b, c, d⟩ := ih (m / 2) (by omega) (by omega)
      have e1 : (m - 1) / 2 = m / 2 - 1 := by omega
      have e2 : m &&& (m - 1) = 2 * ((m / 2) &&& (m / 2 - 1)) := by
        have o := @Nat.and_div_two m (m - 1)
        rw [e1] at o
        have a1 := @Nat.and_mod_two_eq_one m (m - 1)
        omega
      refine ⟨l + 1, by rw [Nat.testBit_succ]; exact a, fun i hi => ?_, ?_, ?_⟩
      · cases i with
        | zero => simp; omega
        | succ i => rw [Nat.testBit_succ]; exact b i (by omega)
      · rw [e2, c]
        apply Nat.eq_of_testBit_eq
        intro i
        cases i with
        | zero => rw [andNot_bit]; simp; omega
        | succ i =>
          rw [Nat.testBit_succ, Nat.mul_div_cancel_left _ (by decide : 0 < 2), andNot_bit, andNot_bit, Nat.testBit_succ, Nat.testBit_two_pow, Nat.testBit_two_pow]
          congr 2
          exact decide_eq_decide.mpr (by omega)
      · rw [e2, Nat.pow_succ]; omega
/-- the bits that are set, ascending -/
def bitsOf (n m : Nat) : List Nat := (List.range n).filter fun i => m.testBit i
theorem range_split {n l : Nat} (h : l < n) : List.range n = List.range l ++ l :: (List.range (n - l - 1)).map fun i => l + 1 + i := by
  have e : n = l + (1 + (n - l - 1)) := by omega
  conv => lhs; rw [e, List.range_add, List.range_add]
  simp [List.map_map, Function.comp_def, Nat.add_assoc]
theorem bitsOf_low {n m l : Nat} (hm : m < 2 ^ n) (h1 : m.testBit l = true) (h2 : ∀ i, i < l → m.testBit i = false) : bitsOf n m = l :: bitsOf n (andNot m (2 ^ l)) ∧ l < n := by
  have hl : l < n := by
    apply Classical.byContradiction
    intro h
    have := Nat.testBit_lt_two_pow (x := m) (i := l) (Nat.lt_of_lt_of_le hm (Nat.pow_le_pow_right (by decide) (by omega)))
    rw [h1] at this; cases this
  refine ⟨?_, hl⟩
  unfold bitsOf
  rw [range_split hl]
  have e1 : (List.range l).filter (fun i => m.testBit i) = [] := List.filter_eq_nil_iff.mpr fun i hi => by simp [h2 i (List.mem_range.mp hi)]
  have e2 : (List.range l).filter (fun i => (andNot m (2 ^ l)).testBit i) = [] := List.filter_eq_nil_iff.mpr fun i hi => by rw [andNot_bit, h2 i (List.mem_range.mp hi)]; simp
  rw [List.filter_append, List.filter_append, e1, e2, List.nil_append, List.nil_append, List.filter_cons, List.filter_cons, if_pos h1, if_neg (by rw [andNot_bit, Nat.testBit_two_pow]; simp)]
  congr 1
  refine List.filter_congr fun i hi => ?_
  obtain ⟨k, _, rfl⟩ := List.mem_map.mp hi
  rw [andNot_bit, Nat.testBit_two_pow]
  have e : decide (l = l + 1 + k) = false := decide_eq_false (by omega)
  rw [e]; simp
theorem bitsOf_zero (n : Nat) : bitsOf n 0 = [] := List.filter_eq_nil_iff.mpr fun i _ => by simp
theorem bitsOf_msk (n : Nat) (f : Nat → Bool) : bitsOf n (mskN n f) = (List.range n).filter f := List.filter_congr fun i hi => by
  rw [mskN_bit]; simp [List.mem_range.mp hi]
theorem andNot_lt {m k : Nat} (h : m.testBit k = true) : andNot m (2 ^ k) < m := by
  have h1 := xor_and_self m (2 ^ k)
  have h2 : 0 < m &&& 2 ^ k := by
    refine Nat.pos_of_ne_zero fun e => ?_
    have := Nat.testBit_and m (2 ^ k) k
    rw [e, h, Nat.testBit_two_pow] at this
    simp at this
  unfold andNot; omega
end OB

namespace OB
open PySem PySem.Spec PyProof.Rows L2
/-! ### Python's ints as masks -/
theorem bor_nat (m k : Nat) : Builtin.bitOr (m : Int) (k : Int) = ((m ||| k : Nat) : Int) := by
  rw [Bits.bitOr_pp (by omega) (by omega)]; rfl
theorem bnot_nat (k : Nat) : Builtin.bitNot (k : Int) = -((k + 1 : Nat) : Int) := by
  show -(k : Int) - 1 = _
  omega
theorem band_nat (m k : Nat) : Builtin.bitAnd (m : Int) (k : Int) = ((m &&& k : Nat) : Int) := by
  rw [bitAnd_pp (by omega) (by omega)]; rfl
theorem band_neg (m k : Nat) : Builtin.bitAnd (m : Int) (-((k + 1 : Nat) : Int)) = ((andNot m k : Nat) : Int) := by
  have e : Builtin.bitNot (-((k + 1 : Nat) : Int)) = (k : Int) := by
    show -(-((k + 1 : Nat) : Int)) - 1 = _
    omega
  rw [bitAnd_pn (by omega) (by omega), e, Int.toNat_natCast, Int.toNat_natCast, andNot_sub]
  have := Nat.and_le_left (n := m) (m := k)
  omega
theorem shl_nat (j : Nat) : (1 : Int) * 2 ^ (j : Int).toNat = ((2 ^ j : Nat) : Int) := by
  rw [Int.one_mul, Int.toNat_natCast]; exact (Int.natCast_pow 2 j).symm
theorem shr_nat (m j : Nat) : (m : Int) / 2 ^ (j : Int).toNat = ((m / 2 ^ j : Nat) : Int) := by
  rw [Int.toNat_natCast, show ((2 : Int) ^ j) = ((2 ^ j : Nat) : Int) from (Int.natCast_pow 2 j).symm]
  exact (Int.natCast_ediv m (2 ^ j)).symm
theorem bit_nat (m j : Nat) : decide (Builtin.bitAnd ((m / 2 ^ j : Nat) : Int) 1 = 1) = m.testBit j := by
  rw [show (1 : Int) = ((1 : Nat) : Int) from rfl, band_nat, Nat.and_one_is_mod, Nat.testBit_eq_decide_div_mod_eq]
  exact decide_eq_decide.mpr (by omega)
theorem cshl (j : Nat) (h : j ≤ 1000000) : CPow 1 (j : Int) := ⟨by omega, by omega, by decide⟩
theorem bits_two (l : Nat) : Builtin.Int.intBits ((2 ^ l : Nat) : Int) = l + 1 := by
  unfold Builtin.Int.intBits
  have h : ((2 ^ l : Nat) : Int) ≠ 0 := by have := Nat.two_pow_pos l; omega
  rw [if_neg (by simpa using h), Int.natAbs_natCast, Nat.log2_two_pow]
/-! ### min, max of a pair -/
def rMinT (K : PySem.W.Frag) : List V → Hp → VK → Prop := fun vs H Q => ∃ (a : Addr) (i j : Int), vs = [V.ref a] ∧ SqT K H a [.int i, .int j] ∧ Q (.int (if j < i then j else i)) H
def rMaxT (K : PySem.W.Frag) : List V → Hp → VK → Prop := fun vs H Q => ∃ (a : Addr) (i j : Int), vs = [V.ref a] ∧ SqT K H a [.int i, .int j] ∧ Q (.int (if i < j then j else i)) H
theorem cr_minT {X : Cx} {k : Nat} (hc : X.calm = true) (hr : Room k X.A) : CallR X (.builtin "min") (rMinT X.K) := by
  intro pins s σ H vs us Q I r h
  obtain ⟨a, i, j, rfl, hs, q⟩ := h
  obtain ⟨its, rv, hl, _⟩ := I.tuple hs
  rw [Vals.ref1 r]
  obtain ⟨u, w, rfl, ⟨t, rfl⟩, ⟨t', rfl⟩⟩ := vals2 rv
  have hu := hr.units
  refine PySem.W.min_tuple_datum (α := Int) (x := i) (xs := [j]) (I.ok.hd hc) hl (PySem.W.HoldAll.of_ints (IntsAre.cons _ _ (IntsAre.cons _ _ IntsAre.nil))) (by show X.A.units + 1 + 0 < cLine; omega) fun n v h' tk hv hh hk => ?_
  have e : PySem.W.minOf i [j] = if j < i then j else i := by
    show (if decide (j < i) = true then j else i) = _
    by_cases hji : j < i <;> simp [hji]
  rw [e] at hh
  obtain ⟨t2, rfl⟩ : ∃ t, v = .int (if j < i then j else i) t := by
    obtain ⟨as, ra⟩ := hh
    cases ra
    exact ⟨_, rfl⟩
  exact ⟨.int _, H, I.kept hk, ⟨_, rfl⟩, q⟩
theorem cr_maxT {X : Cx} {k : Nat} (hc : X.calm = true) (hr : Room k X.A) : CallR X (.builtin "max") (rMaxT X.K) := by
  intro pins s σ H vs us Q I r h
  obtain ⟨a, i, j, rfl, hs, q⟩ := h
  obtain ⟨its, rv, hl, _⟩ := I.tuple hs
  rw [Vals.ref1 r]
  obtain ⟨u, w, rfl, ⟨t, rfl⟩, ⟨t', rfl⟩⟩ := vals2 rv
  have hu := hr.units
  refine PySem.W.max_tuple_datum (α := Int) (x := i) (xs := [j]) (I.ok.hd hc) hl (PySem.W.HoldAll.of_ints (IntsAre.cons _ _ (IntsAre.cons _ _ IntsAre.nil))) (by show X.A.units + 1 + 0 < cLine; omega) fun n v h' tk hv hh hk => ?_
  have e : PySem.W.maxOf i [j] = if i < j then j else i := by
    show (if decide (i < j) = true then j else i) = _
    by_cases hij : i < j <;> simp [hij]
  rw [e] at hh
  obtain ⟨t2, rfl⟩ : ∃ t, v = .int (if i < j then j else i) t := by
    obtain ⟨as, ra⟩ := hh
    cases ra
    exact ⟨_, rfl⟩
  exact ⟨.int _, H, I.kept hk, ⟨_, rfl⟩, q⟩
end OB
set_option Elab.async false
set_option linter.all false
set_option maxRecDepth 100000
set_option maxHeartbeats 4000000
namespace OB
open PySem PySem.Spec PyProof.Rows L2
/-! ### the head: what the top has written, by names -/
section
variable {P : Program} {w : World} {K : PySem.W.Frag} {mg : PySem.Str → Option Value} {base : Heap}
theorem FnM.mono {x : PySem.Str} {k k' : Nat} {S : SpM} (h : FnM P w K mg base x k S) (l : k ≤ k') : FnM P w K mg base x k' S := by
  obtain ⟨f, fd, ps, h1, h2, h3, h4⟩ := h.ex
  exact ⟨f, fd, ps, h1, h2, h3, h4.mono l⟩
theorem ExcD.mono {x : PySem.Str} {C : Addr} {k k' : Nat} {fl : List PySem.Str} (h : ExcD P w K mg base x C k fl) (l : k ≤ k') : ExcD P w K mg base x C k' fl := by
  obtain ⟨f, fd, ps, h1, h2, h3, h4⟩ := h.init
  exact ⟨h.at', h.cls, f, fd, ps, h1, h2, h3.mono l, h4⟩
theorem MkD.mono {x : PySem.Str} {C : Addr} {k k' : Nat} {S : SpI} (h : MkD P w K mg base x C k S) (l : k ≤ k') : MkD P w K mg base x C k' S := by
  obtain ⟨f, fd, ps, h1, h2, h3⟩ := h.init
  exact ⟨h.at', f, fd, ps, h1, h2.mono l, h3⟩
variable {x name qual : PySem.Str} {params : Arguments} {body : List Stmt} {sc : Scope} {dvs : List V} {kws : List (PySem.Str × V)} {f : Addr} {fd : FuncData} {N ps : List PySem.Str} {k : Nat}
theorem fn3 {Sf : SpD} (F : FunD K name qual params body sc dvs kws f fd) (hm : mg x = some (.ref f)) (hb : Binds K fd ps []) (Sc : FnScope N ps sc) (len : ∀ ds P R, Sf ds P R → ds.length = ps.length) (h : Bod P w K mg base k N sc body Sf) : FnD P w K mg base x (k + 1) Sf := by
  obtain ⟨oc, od, dV, kV, doc, pm, an, cdv, ct, osl, rfl, lk, hcd, _, _⟩ := F.ex
  exact fn_mk2 lk hcd F.kp Sc hm hb len h
theorem fnm3 {Sf : SpM} {e : Expr} {rp : Pos} (F : FunD K name qual params body sc dvs kws f fd) (hm : mg x = some (.ref f)) (hb : Binds K fd ps []) (Sc : FnScope N ps sc) (len : ∀ ds P, Sf ds P → ds.length = ps.length) (hbd : body = [.Return (some e) rp])
    (h : ∀ X : Cx, X.prog = P → X.w = w → X.K = K → X.mg = mg → X.base = base → Room k X.A → CtxT X N sc → ∀ ds P, Sf ds P → ∀ B0 H0, EM X B0 H0 (ini N.length ds) [] e P) : FnM P w K mg base x (k + 1) Sf := by
  obtain ⟨oc, od, dV, kV, doc, pm, an, cdv, ct, osl, rfl, lk, hcd, _, _⟩ := F.ex
  exact fnm_mk lk hcd F.kp Sc hm hb len hbd h
theorem init3 {C : Addr} {S : SpI} (F : FunD K name qual params body sc dvs kws f fd) (Sc : FnScope N ps sc) (hN : 0 < N.length) (len : ∀ ds P R, S ds P R → ds.length + 1 = ps.length) (h : BodI P w K mg base k N sc body C S) :
    FnOk P w K mg base (L2.CX P w) (k + 1) f fd ps (toSpI K C S) := by
  obtain ⟨oc, od, dV, kV, doc, pm, an, cdv, ct, osl, rfl, lk, hcd, _, _⟩ := F.ex
  exact init_mk lk hcd Sc hN len h
/-- a def of one parameter that stands for an object as it lies -/
theorem fnr3 {p : PySem.Str} {sp : Sp} (F : FunD K name qual params body sc dvs kws f fd) (Sc : FnScope N [p] sc) (hN : 0 < N.length) (len : ∀ vs H Q E, sp vs H Q E → ∃ a, vs = [.ref a])
    (h : ∀ X : Cx, X.prog = P → X.w = w → X.K = K → X.mg = mg → X.base = base → Room k X.A → CtxT X N sc → ∀ a H Q E, sp [.ref a] H Q E → ∃ (B : Hp) (Pd : D → Prop), Ex B H ∧ Go X B H (.v (.ref a) :: List.replicate (N.length - 1) .un) [] { rt := Pd } body ∧ ∀ v B' H' d, Grow B H B' H' → Is K B' v d → Pd d → Q v H') :
    FnOk P w K mg base (L2.CX P w) (k + 1) f fd [p] sp := by
  obtain ⟨oc, od, dV, kV, doc, pm, an, cdv, ct, osl, rfl, lk, hcd, _, _⟩ := F.ex
  refine fn_of lk hcd Sc (fun vs H Q E hs => by obtain ⟨a, rfl⟩ := len _ _ _ _ hs; rfl) fun A outer s H vs Q E hr hsp => ⟨_, pss_w, ?_⟩
  obtain ⟨a, rfl⟩ := len _ _ _ _ hsp
  obtain ⟨B, Pd, eb, go, q⟩ := h (cxOf (L2.CX P w) P w K mg base N qual sc f cdv A outer s H E) rfl rfl rfl rfl rfl hr (ctxT_of Sc.nd) a H Q E hsp
  refine wSs.imp (go B B H (L2.start N [.ref a]) (Evl.Ex.refl _) ⟨Grow.refl eb, ⟨?_, fun i sd q => ?_⟩, (fun _ h => (nomatch h)), (fun _ h => (nomatch h)), List.nodup_nil⟩) (fun σ' H' ⟨B', sds', os', _, s', p⟩ => p.elim) (fun v H' ⟨B', d, _, g, i, p⟩ => q v B' H' d g i p) (fun σ' H' ⟨B', sds', os', _, s', p⟩ => p.elim) (fun σ' H' ⟨B', sds', os', _, s', p⟩ => p.elim)
  · simp [L2.start]
  · match i, q with
    | 0, q => cases q; rfl
    | i + 1, q =>
      rw [List.getElem?_cons_succ, List.getElem?_replicate] at q
      split at q
      · cases q; trivial
      · cases q
end
/-! ### classes of errors -/
def oexB (K : PySem.W.Frag) (C : Addr) : Bool := match K.lookup C with
  | some ⟨.type t, _, .cls cd, sl⟩ => (match cd.mro, sl.toList with
    | .ref C' :: bm, [_, _, _, _, some (.builtin n), _] => decide (t = "type") && (decide (C' = C) && (decide (n = "ValueError.__new__") && (!cd.hasDel && (cd.hasDict && PySem.HandSPX.refsVE bm))))
    | _, _ => false)
  | _ => false
theorem oexB_ok {K : PySem.W.Frag} {C : Addr} (h : oexB K C = true) : ∃ nm q N bs bm sn sub ab col dd k0 k1 k2 k3 k5, K.lookup C = some (excClassObj nm q C N bs bm true sn sub ab col dd k0 k1 k2 k3 k5 "ValueError.__new__") ∧ PySem.HandSPX.refsVE bm = true := by
  unfold oexB at h
  split at h
  · rename_i t dd cd sl ho
    split at h
    · rename_i C' bm k0 k1 k2 k3 n k5 hm hs
      simp only [Bool.and_eq_true, decide_eq_true_eq, Bool.not_eq_true'] at h
      obtain ⟨rfl, rfl, rfl, hdel, hd, hr⟩ := h
      obtain ⟨nm, bs, mro, ns, qn, hdct, sn, sub, ab, col, del⟩ := cd
      dsimp only at hm hdel hd
      subst hm hdel hd
      have hsl : sl = #[k0, k1, k2, k3, some (.builtin "ValueError.__new__"), k5] := by
        obtain ⟨l⟩ := sl
        simp only at hs
        rw [hs]
      subst hsl
      exact ⟨nm, qn, ns, bs, bm, sn, sub, ab, col, dd, k0, k1, k2, k3, k5, ho, hr⟩
    · cases h
  · cases h
def excB (K : PySem.W.Frag) (C : Addr) : Bool := oexB K C && (decide (PySem.W.findIn K (.ref C) "__setattr__" = some (some (.builtin "object.__setattr__"))) && (decide (PySem.W.subIn K (.ref C) (.type "BaseException") = some true) && (decide (PySem.W.typeIn K (.ref C) = some (.type "type")) && (PySem.W.keepIn K (.ref C) && xfB K C))))
theorem excB_ok {K : PySem.W.Frag} {C : Addr} (h : excB K C = true) : OexC K C ∧ XfC K C := by
  unfold excB at h
  simp only [Bool.and_eq_true, decide_eq_true_eq] at h
  obtain ⟨h1, h2, h3, h4, h5, h6⟩ := h
  exact ⟨⟨oexB_ok h1, h2, h3, h4, h5⟩, xfB_ok h6⟩
section
variable {P : Program} {w : World} {K : PySem.W.Frag} {mg : PySem.Str → Option Value} {base : Heap} {h : Heap}
theorem FunD.fun {x qual : PySem.Str} {st : Stmt} {f : Addr} {fd : FuncData} (F : FunD K x qual (defArgs st) (defBody st) (defScope st) [] [] f fd) : Fun K x qual st f fd := by
  obtain ⟨oc, od, dV, kV, doc, pm, an, cdv, ct, osl, rfl, lk, hcd, hD, _⟩ := F.ex
  rcases hD with ⟨_, rfl⟩ | ⟨e, _⟩
  · exact ⟨⟨oc, od, kV, doc, pm, an, cdv, ct, osl, rfl, lk, hcd⟩, F.kp⟩
  · exact absurd rfl e
end
/-! ### facts -/
def freeL : List He.Fa := [.free "len", .free "range", .free "enumerate", .free "sorted", .free "tuple", .free "list", .free "min", .free "max", .free "all", .free "any", .free "int", .free "isinstance", .free "bool"]
theorem bi_of {K : PySem.W.Frag} {h : Heap} {mg : PySem.Str → Option Value} {fa : List He.Fa} (X : K.In h) (G : h.Ns mainGlobals mg) (c : ∀ f ∈ fa, f.ok K = true) (s : ∀ f ∈ freeL, f ∈ fa) : Bi mg := by
  have k : ∀ f ∈ freeL, f.ok K = true := fun f hf => c f (s f hf)
  have z : ∀ x : PySem.Str, He.Fa.free x ∈ freeL → mg x = none := fun x hx => He.free_ok X G (k _ hx)
  exact ⟨z _ (by simp [freeL]), z _ (by simp [freeL]), z _ (by simp [freeL]), z _ (by simp [freeL]), z _ (by simp [freeL]), z _ (by simp [freeL]), z _ (by simp [freeL]), z _ (by simp [freeL]), z _ (by simp [freeL]), z _ (by simp [freeL]), z _ (by simp [freeL]), z _ (by simp [freeL]), z _ (by simp [freeL])⟩
end OB
set_option Elab.async false
set_option linter.all false
set_option maxRecDepth 100000
set_option maxHeartbeats 4000000
namespace OB
open PySem PySem.Spec PyProof.Rows L2
def top (i : Nat) : Stmt := PySem.Challenge.pw_ordersbehind_k04_forced_in_one_step.main.body.getD i (.Pass ⟨0, 0, 0, 0⟩)
def spBlank : SpM := fun ds P => ∃ n : Nat, ds = [.int (n : Int)] ∧ n ≤ 100 ∧ P (matOf n fun _ _ => false)
theorem em_blank {X : Cx} (c : CtxT X ["_law_size", "_law_b", "_law_a"] (defScope (top 42))) (bi : Bi X.mg) {ds P} (h : spBlank ds P) {B0 H0} {e : Expr} {rp : Pos} (he : defBody (top 42) = [.Return (some e) rp]) : EM X B0 H0 (ini 3 ds) [] e P := by
  obtain ⟨n, rfl, hn, hp⟩ := h
  cases he
  refine em_lc0 c.toCtx [("_law_a", 2)] (.nm 2) (fun X' b => tb_nm (b.ctx c.toCtx) 2) (ix_range1 c.toCtx bi.range (ex_var c.toCtx 0 ⟨(n : Int), rfl, by omega, by omega, ?_⟩))
  rw [rng0]
  refine ⟨Nat, List.range n, _, fun _ => rowOf n fun _ => false, rfl, by simp; omega, fun x _ X' b => ?_, hp⟩
  have c' := b.ctx c.toCtx
  refine el_lc0 c' [("_law_b", 1)] (.nm 1) (fun X'' b' => tb_nm (b'.ctx c') 1) (ix_range1 c' (b.bi bi).range (ex_var c' 0 ⟨(n : Int), rfl, by omega, by omega, ?_⟩))
  rw [rng0]
  exact ⟨Nat, List.range n, _, fun _ => bit false, rfl, by simp; omega, fun x _ X'' b' => ex_int rfl, rfl⟩

def prn (p : Nat × Nat) : D := .tup [.int (p.1 : Int), .int (p.2 : Int)]
def spNear : SpD := fun ds P _ => ∃ (n : Nat) (l : List (Nat × Nat)), ds = [.int (n : Int), .lst (l.map prn)] ∧ n ≤ 100 ∧ (∀ p ∈ l, p.1 < n ∧ p.2 < n ∧ p.1 ≠ p.2) ∧ ∀ g, Sym g → P (webD n g)
abbrev N43 : List PySem.Str := ["_law_size", "_law_ties_here", "_law_near_here", "_law_a", "_law_b"]
theorem matOf_set1 {n u v : Nat} {f : Nat → Nat → Bool} (hu : u < n) (hv : v < n) : (matOf n f).set u ((rowOf n (f u)).set v (.int 1)) = matOf n (updM f u v true) := matOf_set (b := true) hu hv
theorem sym_upd {g : Nat → Nat → Bool} (h : Sym g) {a b : Nat} {x : Bool} (hab : a ≠ b) : Sym (updM (updM g a b x) b a x) := by
  refine ⟨fun u v => ?_, fun u => ?_⟩
  · unfold updM
    rw [h.1 u v]
    by_cases h1 : u = b <;> by_cases h2 : v = a <;> by_cases h3 : u = a <;> by_cases h4 : v = b <;> simp_all
  · unfold updM
    rw [h.2 u]
    by_cases h1 : u = b <;> by_cases h3 : u = a <;> simp_all
theorem body_near {X : Cx} (c : CtxT X N43 (defScope (top 43))) {k : Nat} (hr : Room k X.A) (fBlank : FnM X.prog X.w X.K X.mg X.base "_law_blank" k spBlank) : BodyOk X N43 spNear (defBody (top 43)) := by
  intro ds P R h B0 H0 air
  obtain ⟨n, l, rfl, hn, hl, hp⟩ := h
  refine go_cons (g1_asgM c.toCtxD 2 (em_call c.toCtx fBlank hr (ea_cons (ex_var c.toCtx 0 (ea_nil ⟨n, rfl, hn, fun p rs => ?_⟩)))))
  refine go_cut (fun sds os => ∃ g x y, Sym g ∧ sds = [.d (.int (n : Int)), .d (.lst (l.map prn)), .v (.ref p), x, y] ∧ os = [(p, .mat rs (matOf n g))]) (g1_for (t := .tp [3, 4]) c.own c.calm (tg_tp c.toCtxD (tgs_cons c.toCtxD 3 (tgs_cons c.toCtxD 4 tgs_nil))) (ix_list (ex_var c.toCtx 1 ⟨_, rfl, ?_⟩))) ?_
  · refine ⟨fun k sds os => ∃ g x y, Sym g ∧ sds = [.d (.int (n : Int)), .d (.lst (l.map prn)), .v (.ref p), x, y] ∧ os = [(p, .mat rs (matOf n g))], ⟨_, _, _, ⟨fun _ _ => rfl, fun _ => rfl⟩, rfl, rfl⟩, ?_, fun sds os h => h⟩
    rintro k u sds' os' hu ⟨g, x, y, hg, rfl, rfl⟩
    rw [List.getElem?_map] at hu
    cases hq : l[k]? with
    | none => rw [hq] at hu; cases hu
    | some q =>
      rw [hq] at hu
      cases hu
      obtain ⟨h1, h2, h3⟩ := hl q (List.mem_of_getElem? hq)
      refine ⟨_, rfl, rfl, ?_⟩
      refine go_cons (g1_setM c.toCtx 2 0 (ex_int (ex_var c.toCtx 3 ⟨q.1, rowOf n (g q.1), rfl, matOf_get h1, ex_var c.toCtx 4 ⟨q.2, rfl, by rw [rowOf_len]; exact h2, ?_⟩⟩)))
      rw [matOf_set1 h1 h2]
      refine go_cons (g1_setM c.toCtx 2 0 (ex_int (ex_var c.toCtx 4 ⟨q.2, rowOf n _, rfl, matOf_get h2, ex_var c.toCtx 3 ⟨q.1, rfl, by rw [rowOf_len]; exact h1, ?_⟩⟩)))
      rw [matOf_set1 h2 h1]
      exact go_nil ⟨_, _, _, sym_upd hg h3, rfl, rfl⟩
  · rintro sds os ⟨g, x, y, hg, rfl, rfl⟩
    refine go_freezeM 2 0 ?_
    exact go_cons (g1_ret (ex_var c.toCtx 2 (hp g hg)))

def rowTies (g : Nat → Nat → Bool) (a m : Nat) : List (Nat × Nat) := ((List.range m).map fun j => (a, a + 1 + j)).filter fun p => g p.1 p.2
def tiesTo (n : Nat) (g : Nat → Nat → Bool) (k : Nat) : List (Nat × Nat) := (List.range k).flatMap fun a => rowTies g a (n - (a + 1))
def tiesOf (n : Nat) (g : Nat → Nat → Bool) : List (Nat × Nat) := tiesTo n g n
theorem rowTies_succ (g : Nat → Nat → Bool) (a m : Nat) : rowTies g a (m + 1) = rowTies g a m ++ (if g a (a + 1 + m) = true then [(a, a + 1 + m)] else []) := by
  unfold rowTies
  rw [List.range_succ, List.map_append, List.filter_append]
  congr 1
  cases h : g a (a + 1 + m) <;> simp [h]
theorem tiesTo_succ (n : Nat) (g : Nat → Nat → Bool) (k : Nat) : tiesTo n g (k + 1) = tiesTo n g k ++ rowTies g k (n - (k + 1)) := by
  unfold tiesTo
  rw [List.range_succ, List.flatMap_append]
  simp
theorem rowTies_len (g : Nat → Nat → Bool) (a m : Nat) : (rowTies g a m).length ≤ m := by
  unfold rowTies
  refine Nat.le_trans (List.length_filter_le _ _) ?_
  simp
theorem tiesTo_len (n : Nat) (g : Nat → Nat → Bool) : ∀ k, (tiesTo n g k).length ≤ k * n
  | 0 => by simp [tiesTo]
  | k + 1 => by
    rw [tiesTo_succ, List.length_append, Nat.succ_mul]
    have h1 := tiesTo_len n g k
    have h2 := rowTies_len g k (n - (k + 1))
    omega
def spTies : SpD := fun ds P _ => ∃ (n : Nat) (g : Nat → Nat → Bool), ds = [webD n g] ∧ n ≤ 100 ∧ P (.lst ((tiesOf n g).map prn))
abbrev N44 : List PySem.Str := ["_law_near_here", "_law_ties_here", "_law_a", "_law_b"]
theorem web_len {n : Nat} {f : Nat → Nat → Bool} : LenD (webD n f) n := by simp [webD, LenD, matOf_len]
theorem bit_eq1 (b : Bool) : (decide ((if b then 1 else 0 : Int) = 1)) = b := by cases b <;> rfl
theorem body_ties {X : Cx} (c : CtxT X N44 (defScope (top 44))) (bi : Bi X.mg) : BodyOk X N44 spTies (defBody (top 44)) := by
  intro ds P R h B0 H0 air
  obtain ⟨n, g, rfl, hn, hp⟩ := h
  refine go_cons (g1_asgO c.toCtxD 1 (el_lst (ea_nil ⟨by decide, fun p => ?_⟩)))
  let J : Nat → Nat → List SD → List (Addr × OV) → Prop := fun k j sds os => ∃ x y, sds = [.d (webD n g), .v (.ref p), x, y] ∧ os = [(p, .lst ((tiesTo n g k ++ rowTies g k j).map prn))]
  let J2 : Nat → Nat → List SD → List (Addr × OV) → Prop := fun k j sds os => ∃ y, sds = [.d (webD n g), .v (.ref p), .d (.int (k : Int)), y] ∧ os = [(p, .lst ((tiesTo n g k ++ rowTies g k j).map prn))]
  refine go_cut (J n 0) (g1_for (t := .nm 2) c.own c.calm (tg_nm c.toCtxD 2) (ix_range1 c.toCtx bi.range (ex_len c.toCtx bi.len (ex_var c.toCtx 0 ⟨n, web_len, ⟨(n : Int), rfl, by omega, by omega, ?_⟩⟩)))) ?_
  · rw [rng0]
    refine forOk_rng (fun k => J k 0) ⟨_, _, rfl, by simp [rowTies, tiesTo]⟩ ?_ fun _ _ h => h
    rintro k sds' os' hk ⟨x, y, rfl, rfl⟩
    refine go_cons (g1_for (t := .nm 3) c.own c.calm (tg_nm c.toCtxD 3) (ix_range2 c.toCtx bi.range (ex_addI (ex_var c.toCtx 2 ⟨_, rfl, ex_int ⟨_, rfl, ex_len c.toCtx bi.len (ex_var c.toCtx 0 ⟨n, web_len, ⟨((k + 1 : Nat) : Int), (n : Int), rfl, rfl, ⟨by omega, by omega, by omega, by omega⟩, ?_⟩⟩)⟩⟩))))
    rw [rng1]
    refine forOk_rng (fun j => J2 k j) ⟨_, rfl, by simp [rowTies]⟩ ?_ ?_
    · rintro j sds' os' hj ⟨y, rfl, rfl⟩
      refine go_cons (g1_if (tx_eqI (ex_ix (ex_ix (ex_var c.toCtx 0 (ex_var c.toCtx 2 ⟨_, rfl, ixW hk (ex_var c.toCtx 3 ⟨_, rfl, ixR (v := k + 1 + j) (by omega) ⟨_, rfl, ex_int ⟨_, rfl, ?_⟩⟩⟩)⟩))))))
      rw [bit_eq1]
      refine ⟨fun hg => ?_, fun hg => ?_⟩
      · refine go_cons (g1_append c.toCtx 1 0 (ex_tup (ea_cons (ex_var c.toCtx 2 (ea_cons (ex_var c.toCtx 3 (ea_nil ⟨le2, ?_, ?_⟩)))))))
        · have h1 := tiesTo_len n g k
          have h2 := rowTies_len g k j
          have h3 : k * n ≤ 100 * 100 := Nat.mul_le_mul (by omega) hn
          rw [List.length_map, List.length_append]
          omega
        · refine go_nil (go_nil ⟨_, rfl, ?_⟩)
          rw [rowTies_succ, if_pos hg]
          simp [prn]
      · refine go_nil (go_nil ⟨_, rfl, ?_⟩)
        rw [rowTies_succ, if_neg (by rw [hg]; decide), List.append_nil]
    · rintro sds os ⟨y, rfl, rfl⟩
      refine go_nil ⟨_, _, rfl, ?_⟩
      rw [tiesTo_succ]
      simp [rowTies]
  · rintro sds os ⟨x, y, rfl, rfl⟩
    refine go_freeze 1 0 ?_
    refine go_cons (g1_ret (ex_var c.toCtx 1 ?_))
    have e : tiesTo n g n ++ rowTies g n 0 = tiesOf n g := by simp [rowTies, tiesOf]
    rw [e]; exact hp
end OB
set_option Elab.async false
set_option linter.all false
set_option maxRecDepth 100000
set_option maxHeartbeats 4000000
namespace OB
open PySem PySem.Spec PyProof.Rows L2
def conG (g : Nat → Nat → Bool) : Nat → Nat → Bool := fun a b => decide (a ≠ b) && !g a b
theorem sym_con {g : Nat → Nat → Bool} (h : Sym g) : Sym (conG g) := ⟨fun a b => by unfold conG; rw [h.1 a b]; by_cases e : a = b <;> simp [e, eq_comm], fun a => by simp [conG]⟩
theorem bit_one_sub (b : Bool) : D.int (1 - (if b then 1 else 0 : Int)) = bit (!b) := by cases b <;> rfl
def spContrary : SpD := fun ds P _ => ∃ (n : Nat) (g : Nat → Nat → Bool), ds = [webD n g] ∧ n ≤ 100 ∧ P (webD n (conG g))
abbrev N45 : List PySem.Str := ["_law_near_here", "_law_size", "_law_other", "_law_a", "_law_b"]
theorem body_contrary {X : Cx} (c : CtxT X N45 (defScope (top 45))) (bi : Bi X.mg) {k : Nat} (hr : Room k X.A) (fBlank : FnM X.prog X.w X.K X.mg X.base "_law_blank" k spBlank) : BodyOk X N45 spContrary (defBody (top 45)) := by
  intro ds P R h B0 H0 air
  obtain ⟨n, g, rfl, hn, hp⟩ := h
  refine go_cons (g1_asg c.toCtxD 1 (ex_len c.toCtx bi.len (ex_var c.toCtx 0 ⟨n, web_len, ?_⟩)))
  refine go_cons (g1_asgM c.toCtxD 2 (em_call c.toCtx fBlank hr (ea_cons (ex_var c.toCtx 1 (ea_nil ⟨n, rfl, by omega, fun p rs => ?_⟩)))))
  refine go_cons (g1_two c n n (fun x y => [.d (webD n g), .d (.int n), .v (.ref p), x, y]) (fun k j os => ∃ h, Fil n (conG g) k j h ∧ os = [(p, .mat rs (matOf n h))]) (ia := 3) (ib := 4) ⟨_, Fil.zero, rfl⟩ (tg_nm c.toCtxD 3) (tg_nm c.toCtxD 4) ?_ ?_ ?_ ?_ ?_)
  · intro Q hQ
    exact ix_range1 c.toCtx bi.range (ex_var c.toCtx 1 ⟨(n : Int), rfl, by omega, by omega, by rw [rngI]; exact hQ⟩)
  · intro k os y hk hI Q hQ
    exact ix_range1 c.toCtx bi.range (ex_var c.toCtx 1 ⟨(n : Int), rfl, by omega, by omega, by rw [rngI]; exact hQ⟩)
  · rintro k j os hk hj ⟨h, f, rfl⟩ E' hE
    refine go_cons (g1_if (tx_neI (ex_var c.toCtx 3 ⟨_, rfl, ex_var c.toCtx 4 ⟨_, rfl, ?_⟩⟩)))
    refine ⟨fun ht => ?_, fun ht => ?_⟩
    · have hne : k ≠ j := by intro e; simp [e] at ht
      refine go_cons (g1_setM c.toCtx 2 0 (ex_subI (ex_int ⟨_, rfl, ex_ix (ex_ix (ex_var c.toCtx 0 (ex_var c.toCtx 3 ⟨_, rfl, ixW hk (ex_var c.toCtx 4 ⟨_, rfl, ixR (v := j) hj ⟨_, rfl, (ex_var c.toCtx 3 ⟨k, rowOf n (h k), rfl, matOf_get hk, ex_var c.toCtx 4 ⟨j, rfl, by rw [rowOf_len]; exact hj, ?_⟩⟩)⟩⟩)⟩)))⟩)))
      rw [bit_one_sub, matOf_set hk hj]
      exact go_nil (go_nil (hE _ ⟨_, f.set (by simp [conG, hne]), rfl⟩))
    · have he : k = j := Int.ofNat_inj.mp (show (k : Int) = (j : Int) by simpa using ht)
      exact go_nil (go_nil (hE _ ⟨_, f.keep (by simp [conG, he]), rfl⟩))
  · rintro k os hk ⟨h, f, rfl⟩
    exact ⟨h, f.row, rfl⟩
  · rintro x y os ⟨h, f, rfl⟩
    refine go_freezeM 2 0 ?_
    refine go_cons (g1_ret (ex_var c.toCtx 2 ?_))
    have e := f.done
    unfold webD at e
    rw [e]
    exact hp

/-! renamed: the row is a permutation -/
def intsD (r : List Nat) : D := .lst (r.map fun (i : Nat) => .int (i : Int))
theorem ixI {r : List Nat} {u v : Nat} {P : D → Prop} (h : r[u]? = some v) (p : P (.int (v : Int))) : IxD (intsD r) (u : Int) P := ixL u (by rw [List.getElem?_map, h] <;> rfl) p
def spRenamed : SpD := fun ds P _ => ∃ (n : Nat) (g : Nat → Nat → Bool) (r : List Nat), ds = [webD n g, intsD r] ∧ n ≤ 100 ∧ r.Perm (List.range n) ∧ Sym g ∧ ∀ g', Sym g' → P (webD n g')
abbrev N46 : List PySem.Str := ["_law_near_here", "_law_row_here", "_law_other", "_law_a", "_law_b"]
theorem perm_at {n : Nat} {r : List Nat} (h : r.Perm (List.range n)) {k : Nat} (hk : k < n) : ∃ v, r[k]? = some v ∧ v < n := by
  have hl : r.length = n := by simpa using h.length_eq
  refine ⟨r[k]'(by omega), List.getElem?_eq_getElem _, ?_⟩
  exact List.mem_range.mp (h.mem_iff.mp (List.getElem_mem _))
theorem perm_inj {n : Nat} {r : List Nat} (h : r.Perm (List.range n)) {k j v : Nat} (h1 : r[k]? = some v) (h2 : r[j]? = some v) : k = j := by
  have nd : r.Nodup := h.nodup_iff.mpr List.nodup_range
  obtain ⟨l1, e1⟩ := List.getElem?_eq_some_iff.mp h1
  obtain ⟨l2, e2⟩ := List.getElem?_eq_some_iff.mp h2
  exact (List.getElem_inj nd).mp (e1.trans e2.symm)
theorem perm_sur {n : Nat} {r : List Nat} (h : r.Perm (List.range n)) {v : Nat} (hv : v < n) : ∃ k, k < n ∧ r[k]? = some v := by
  obtain ⟨k, hk, e⟩ := List.mem_iff_getElem.mp (h.mem_iff.mpr (List.mem_range.mpr hv))
  have hl : r.length = n := by simpa using h.length_eq
  exact ⟨k, by omega, List.getElem?_eq_some_iff.mpr ⟨hk, e⟩⟩
def Ren (n : Nat) (r : List Nat) (g : Nat → Nat → Bool) (k j : Nat) (h : Nat → Nat → Bool) : Prop := ∀ x y u v, x < n → y < n → r[x]? = some u → r[y]? = some v → (x < k ∨ (x = k ∧ y < j)) → h u v = g x y
theorem Ren.set {n : Nat} {r : List Nat} (hp : r.Perm (List.range n)) {g h : Nat → Nat → Bool} {k j u v : Nat} (f : Ren n r g k j h) (hu : r[k]? = some u) (hv : r[j]? = some v) : Ren n r g k (j + 1) (updM h u v (g k j)) := by
  intro x y u' v' hx hy hxu hyv hvis
  unfold updM
  by_cases e : u' = u ∧ v' = v
  · rw [if_pos e]
    obtain ⟨rfl, rfl⟩ := e
    rw [perm_inj hp hxu hu, perm_inj hp hyv hv]
  · rw [if_neg e]
    refine f x y u' v' hx hy hxu hyv ?_
    by_cases e2 : x = k ∧ y = j
    · obtain ⟨rfl, rfl⟩ := e2
      rw [hu] at hxu; rw [hv] at hyv
      cases hxu; cases hyv
      exact absurd ⟨rfl, rfl⟩ e
    · omega
theorem Ren.sym {n : Nat} {r : List Nat} (hp : r.Perm (List.range n)) {g h : Nat → Nat → Bool} (hg : Sym g) (f : Ren n r g n 0 h) : ∃ g', Sym g' ∧ webD n h = webD n g' := by
  refine ⟨fun a b => decide (a < n) && decide (b < n) && h a b, ⟨fun a b => ?_, fun a => ?_⟩, webD_congr fun a b ha hb => by simp [ha, hb]⟩
  · by_cases ha : a < n
    · by_cases hb : b < n
      · obtain ⟨x, hx, ex⟩ := perm_sur hp ha
        obtain ⟨y, hy, ey⟩ := perm_sur hp hb
        have e1 := f x y a b hx hy ex ey (.inl hx)
        have e2 := f y x b a hy hx ey ex (.inl hy)
        simp [ha, hb, e1, e2, hg.1 x y]
      · simp [hb]
    · simp [ha]
  · by_cases ha : a < n
    · obtain ⟨x, hx, ex⟩ := perm_sur hp ha
      have e1 := f x x a a hx hx ex ex (.inl hx)
      simp [e1, hg.2 x]
    · simp [ha]
theorem body_renamed {X : Cx} (c : CtxT X N46 (defScope (top 46))) (bi : Bi X.mg) {k : Nat} (hr : Room k X.A) (fBlank : FnM X.prog X.w X.K X.mg X.base "_law_blank" k spBlank) : BodyOk X N46 spRenamed (defBody (top 46)) := by
  intro ds P R h B0 H0 air
  obtain ⟨n, g, r, rfl, hn, hpm, hg, hp⟩ := h
  refine go_cons (g1_asgM c.toCtxD 2 (em_call c.toCtx fBlank hr (ea_cons (ex_len c.toCtx bi.len (ex_var c.toCtx 0 ⟨n, web_len, (ea_nil ⟨n, rfl, by omega, fun p rs => ?_⟩)⟩)))))
  refine go_cons (g1_two c n n (fun x y => [.d (webD n g), .d (intsD r), .v (.ref p), x, y]) (fun k j os => ∃ h, Ren n r g k j h ∧ os = [(p, .mat rs (matOf n h))]) (ia := 3) (ib := 4) ⟨_, fun x y u v _ _ _ _ h => by omega, rfl⟩ (tg_nm c.toCtxD 3) (tg_nm c.toCtxD 4) ?_ ?_ ?_ ?_ ?_)
  · intro Q hQ
    exact ix_range1 c.toCtx bi.range (ex_len c.toCtx bi.len (ex_var c.toCtx 0 ⟨n, web_len, ⟨(n : Int), rfl, by omega, by omega, by rw [rngI]; exact hQ⟩⟩))
  · intro k os y hk hI Q hQ
    exact ix_range1 c.toCtx bi.range (ex_len c.toCtx bi.len (ex_var c.toCtx 0 ⟨n, web_len, ⟨(n : Int), rfl, by omega, by omega, by rw [rngI]; exact hQ⟩⟩))
  · rintro k j os hk hj ⟨h, f, rfl⟩ E' hE
    obtain ⟨u, hu, hun⟩ := perm_at hpm hk
    obtain ⟨v, hv, hvn⟩ := perm_at hpm hj
    refine go_cons (g1_setM c.toCtx 2 0 (ex_ix (ex_ix (ex_var c.toCtx 0 (ex_var c.toCtx 3 ⟨_, rfl, ixW hk (ex_var c.toCtx 4 ⟨_, rfl, ixR (v := j) hj (ex_ix (ex_var c.toCtx 1 (ex_var c.toCtx 3 ⟨_, rfl, ixI hu ⟨u, rowOf n (h u), rfl, matOf_get hun, ex_ix (ex_var c.toCtx 1 (ex_var c.toCtx 4 ⟨_, rfl, ixI hv ⟨v, rfl, by rw [rowOf_len]; exact hvn, ?_⟩⟩))⟩⟩)))⟩)⟩)))))
    rw [matOf_set hun hvn]
    exact go_nil (hE _ ⟨_, f.set hpm hu hv, rfl⟩)
  · rintro k os hk ⟨h, f, rfl⟩
    exact ⟨h, fun x y u v hx hy h1 h2 h3 => f x y u v hx hy h1 h2 (by omega), rfl⟩
  · rintro x y os ⟨h, f, rfl⟩
    refine go_freezeM 2 0 ?_
    obtain ⟨g', hs, e⟩ := f.sym hpm hg
    refine go_cons (g1_ret (ex_var c.toCtx 2 ?_))
    unfold webD at e
    rw [e]
    exact hp g' hs
end OB
set_option Elab.async false
set_option linter.all false
set_option maxRecDepth 100000
set_option maxHeartbeats 4000000
namespace OB
open PySem PySem.Spec PyProof.Rows L2
def oldOf (n t : Nat) : List Nat := (List.range n).filter fun x => decide (x ≠ t)
theorem oldOf_len {n t : Nat} (h : t < n) : (oldOf n t).length = n - 1 := by
  have e : oldOf n t = (List.range n).erase t := by
    rw [List.Nodup.erase_eq_filter List.nodup_range]
    unfold oldOf
    congr 1
    funext x
    by_cases e : x = t <;> simp [e]
  rw [e, List.length_erase_of_mem (List.mem_range.mpr h), List.length_range]
theorem oldOf_at {n t k : Nat} (h : k < (oldOf n t).length) : (oldOf n t)[k]? = some ((oldOf n t).getD k 0) ∧ (oldOf n t).getD k 0 < n := by
  have e : (oldOf n t)[k]? = some (oldOf n t)[k] := List.getElem?_eq_getElem h
  have hm : (oldOf n t)[k] ∈ oldOf n t := List.getElem_mem h
  have hm2 := List.mem_range.mp (List.mem_filter.mp hm).1
  rw [List.getD_eq_getElem?_getD, e]
  exact ⟨rfl, hm2⟩
def graG (n t : Nat) (g gg : Nat → Nat → Bool) : Nat → Nat → Bool := fun a b =>
  if a < (oldOf n t).length then (if b < (oldOf n t).length then g ((oldOf n t).getD a 0) ((oldOf n t).getD b 0) else g ((oldOf n t).getD a 0) t)
  else (if b < (oldOf n t).length then g t ((oldOf n t).getD b 0) else gg (a - (oldOf n t).length) (b - (oldOf n t).length))
theorem sym_gra {n t : Nat} {g gg : Nat → Nat → Bool} (h : Sym g) (hg : Sym gg) : Sym (graG n t g gg) := by
  refine ⟨fun a b => ?_, fun a => ?_⟩
  · unfold graG
    by_cases h1 : a < (oldOf n t).length <;> by_cases h2 : b < (oldOf n t).length <;> simp only [h1, h2, if_true, if_false]
    · exact h.1 _ _
    · exact h.1 _ _
    · exact h.1 _ _
    · exact hg.1 _ _
  · unfold graG
    by_cases h1 : a < (oldOf n t).length <;> simp only [h1, if_true, if_false]
    · exact h.2 _
    · exact hg.2 _
def spGraft : SpD := fun ds P _ => ∃ (n m t : Nat) (g gg : Nat → Nat → Bool), ds = [webD n g, .int (t : Int), webD m gg] ∧ n ≤ 50 ∧ m ≤ 50 ∧ t < n ∧ Sym g ∧ Sym gg ∧ ∀ g', Sym g' → P (webD (n - 1 + m) g')
abbrev N47 : List PySem.Str := ["_law_near_here", "_law_thing", "_law_guest", "_law_a", "_law_old", "_law_size", "_law_other", "_law_b"]
theorem len_ints {r : List Nat} : LenD (intsD r) r.length := by simp [intsD, LenD]
theorem body_graft {X : Cx} (c : CtxT X N47 (defScope (top 47))) (bi : Bi X.mg) {k : Nat} (hr : Room k X.A) (fBlank : FnM X.prog X.w X.K X.mg X.base "_law_blank" k spBlank) : BodyOk X N47 spGraft (defBody (top 47)) := by
  intro ds P R h B0 H0 air
  obtain ⟨n, m, t, g, gg, rfl, hn, hm, ht, hg, hgg, hp⟩ := h
  have ho := oldOf_len ht
  have old : ∀ k, k < (oldOf n t).length → (oldOf n t)[k]? = some ((oldOf n t).getD k 0) ∧ (oldOf n t).getD k 0 < n := fun k hk => oldOf_at hk
  refine go_cons (g1_setLc1 c.toCtxD 4 [("_law_a", 3)] (.nm 3) (fun X' b => tb_nm (b.ctx c.toCtx) 3) (ix_range1 c.toCtx bi.range (ex_len c.toCtx bi.len (ex_var c.toCtx 0 ⟨n, web_len, ⟨(n : Int), rfl, by omega, by omega, ?_⟩⟩))))
  rw [rngI]
  refine ⟨Nat, List.range n, _, fun x => decide (x ≠ t), fun x => .int (x : Int), rfl, by simp; omega, fun x _ X' b => ⟨tx_neI (ex_var (b.ctx c.toCtx) 3 ⟨_, rfl, ex_var (b.ctx c.toCtx) 1 ⟨_, rfl, ?_⟩⟩), fun _ => ex_var (b.ctx c.toCtx) 3 rfl⟩, ?_⟩
  · by_cases e : x = t <;> simp [e, Int.ofNat_inj]
  show Go X B0 H0 [.d (webD n g), .d (.int (t : Int)), .d (webD m gg), .un, .d (intsD (oldOf n t)), .un, .un, .un] _ _ _
  refine go_cons (g1_asg c.toCtxD 5 (ex_addI (ex_len c.toCtx bi.len (ex_var c.toCtx 4 ⟨_, len_ints, ⟨_, rfl, ex_len c.toCtx bi.len (ex_var c.toCtx 2 ⟨m, web_len, ⟨_, rfl, ?_⟩⟩)⟩⟩))))
  generalize hO : (oldOf n t).length = o at *
  have eS : ((o : Int) + (m : Int)) = ((o + m : Nat) : Int) := by omega
  rw [eS]
  refine go_cons (g1_asgM c.toCtxD 6 (em_call c.toCtx fBlank hr (ea_cons (ex_var c.toCtx 5 (ea_nil ⟨o + m, rfl, by omega, fun p rs => ?_⟩)))))
  refine go_cons (g1_two c (o + m) (o + m) (fun x y => [.d (webD n g), .d (.int (t : Int)), .d (webD m gg), x, .d (intsD (oldOf n t)), .d (.int ((o + m : Nat) : Int)), .v (.ref p), y]) (fun k j os => ∃ h, Fil (o + m) (graG n t g gg) k j h ∧ os = [(p, .mat rs (matOf (o + m) h))]) (ia := 3) (ib := 7) ⟨_, Fil.zero, rfl⟩ (tg_nm c.toCtxD 3) (tg_nm c.toCtxD 7) ?_ ?_ ?_ ?_ ?_)
  · intro Q hQ
    exact ix_range1 c.toCtx bi.range (ex_var c.toCtx 5 ⟨((o + m : Nat) : Int), rfl, by omega, by omega, by rw [rngI]; exact hQ⟩)
  · intro k os y hk hI Q hQ
    exact ix_range1 c.toCtx bi.range (ex_var c.toCtx 5 ⟨((o + m : Nat) : Int), rfl, by omega, by omega, by rw [rngI]; exact hQ⟩)
  · rintro k j os hk hj ⟨h, f, rfl⟩ E' hE
    have fin : ∀ v : D, v = bit (graG n t g gg k j) → E'.nx [.d (webD n g), .d (.int (t : Int)), .d (webD m gg), .d (.int (k : Int)), .d (intsD (oldOf n t)), .d (.int ((o + m : Nat) : Int)), .v (.ref p), .d (.int (j : Int))] [(p, .mat rs ((matOf (o + m) h).set k ((rowOf (o + m) (h k)).set j v)))] := fun v e => by
      rw [e, matOf_set hk hj]
      exact hE _ ⟨_, f.set rfl, rfl⟩
    refine go_cons (g1_if (tx_w (wx_and (k1 := decide (k < o)) (k2 := decide (j < o)) (tx_ltI (ex_var c.toCtx 3 ⟨_, rfl, ex_len c.toCtx bi.len (ex_var c.toCtx 4 ⟨_, len_ints, ⟨_, rfl, ?_⟩⟩)⟩)) (fun _ => tx_and1 (tx_ltI (ex_var c.toCtx 7 ⟨_, rfl, ex_len c.toCtx bi.len (ex_var c.toCtx 4 ⟨_, len_ints, ⟨_, rfl, ?_⟩⟩)⟩))) ?_)))
    · rw [hO]; exact decide_eq_decide.mpr Int.ofNat_lt
    · rw [hO]; exact decide_eq_decide.mpr Int.ofNat_lt
    refine ⟨fun ht' => ?_, fun ht' => ?_⟩
    · have h1 : k < o ∧ j < o := by simpa using ht'
      obtain ⟨a1, a2⟩ := old k h1.1
      obtain ⟨b1, b2⟩ := old j h1.2
      refine go_cons (g1_setM c.toCtx 6 0 (ex_ix (ex_ix (ex_var c.toCtx 0 ?_))))
      refine ex_ix (ex_var c.toCtx 4 (ex_var c.toCtx 3 ⟨_, rfl, ixI a1 ⟨_, rfl, ixW a2 ?_⟩⟩))
      refine ex_ix (ex_var c.toCtx 4 (ex_var c.toCtx 7 ⟨_, rfl, ixI b1 ⟨_, rfl, ixR b2 ?_⟩⟩))
      refine ex_var c.toCtx 3 ⟨k, _, rfl, matOf_get hk, ex_var c.toCtx 7 ⟨j, rfl, by rw [rowOf_len]; exact hj, ?_⟩⟩
      refine go_nil (go_nil (fin _ ?_))
      unfold graG
      rw [hO, if_pos h1.1, if_pos h1.2]
    have h1 : ¬ (k < o ∧ j < o) := by simpa using ht'
    refine go_cons (g1_if (tx_w (wx_and (k1 := decide (o ≤ k)) (k2 := decide (o ≤ j)) (tx_geI (ex_var c.toCtx 3 ⟨_, rfl, ex_len c.toCtx bi.len (ex_var c.toCtx 4 ⟨_, len_ints, ⟨_, rfl, ?_⟩⟩)⟩)) (fun _ => tx_and1 (tx_geI (ex_var c.toCtx 7 ⟨_, rfl, ex_len c.toCtx bi.len (ex_var c.toCtx 4 ⟨_, len_ints, ⟨_, rfl, ?_⟩⟩)⟩))) ?_)))
    · rw [hO]; exact decide_eq_decide.mpr Int.ofNat_le
    · rw [hO]; exact decide_eq_decide.mpr Int.ofNat_le
    refine ⟨fun ht2 => ?_, fun ht2 => ?_⟩
    · have h2 : o ≤ k ∧ o ≤ j := by simpa using ht2
      have e1 : ((k : Int) - (o : Int)) = ((k - o : Nat) : Int) := by omega
      have e2 : ((j : Int) - (o : Int)) = ((j - o : Nat) : Int) := by omega
      refine go_cons (g1_setM c.toCtx 6 0 (ex_ix (ex_ix (ex_var c.toCtx 2 ?_))))
      refine ex_subI (ex_var c.toCtx 3 ⟨_, rfl, ex_len c.toCtx bi.len (ex_var c.toCtx 4 ⟨_, len_ints, ⟨_, rfl, ?_⟩⟩)⟩)
      rw [hO, e1]
      refine ⟨_, rfl, ixW (by omega) ?_⟩
      refine ex_subI (ex_var c.toCtx 7 ⟨_, rfl, ex_len c.toCtx bi.len (ex_var c.toCtx 4 ⟨_, len_ints, ⟨_, rfl, ?_⟩⟩)⟩)
      rw [hO, e2]
      refine ⟨_, rfl, ixR (by omega) ?_⟩
      refine ex_var c.toCtx 3 ⟨k, _, rfl, matOf_get hk, ex_var c.toCtx 7 ⟨j, rfl, by rw [rowOf_len]; exact hj, ?_⟩⟩
      refine go_nil (go_nil (go_nil (fin _ ?_)))
      unfold graG
      rw [hO, if_neg (by omega), if_neg (by omega)]
    have h2 : ¬ (o ≤ k ∧ o ≤ j) := by simpa using ht2
    refine go_cons (g1_if (tx_ltI (ex_var c.toCtx 3 ⟨_, rfl, ex_len c.toCtx bi.len (ex_var c.toCtx 4 ⟨_, len_ints, ⟨_, rfl, ?_⟩⟩)⟩)))
    rw [hO]
    refine ⟨fun ht3 => ?_, fun ht3 => ?_⟩
    · have h3 : k < o := by
        have e : (k : Int) < (o : Int) := by simpa using ht3
        omega
      obtain ⟨a1, a2⟩ := old k h3
      refine go_cons (g1_setM c.toCtx 6 0 (ex_ix (ex_ix (ex_var c.toCtx 0 ?_))))
      refine ex_ix (ex_var c.toCtx 4 (ex_var c.toCtx 3 ⟨_, rfl, ixI a1 ⟨_, rfl, ixW a2 ?_⟩⟩))
      refine ex_var c.toCtx 1 ⟨_, rfl, ixR ht ?_⟩
      refine ex_var c.toCtx 3 ⟨k, _, rfl, matOf_get hk, ex_var c.toCtx 7 ⟨j, rfl, by rw [rowOf_len]; exact hj, ?_⟩⟩
      refine go_nil (go_nil (go_nil (go_nil (fin _ ?_))))
      unfold graG
      rw [hO, if_pos h3, if_neg (by omega)]
    · have h3 : ¬ k < o := by
        have e : ¬ (k : Int) < (o : Int) := by simpa using ht3
        omega
      obtain ⟨b1, b2⟩ := old j (by omega)
      refine go_cons (g1_setM c.toCtx 6 0 (ex_ix (ex_ix (ex_var c.toCtx 0 ?_))))
      refine ex_var c.toCtx 1 ⟨_, rfl, ixW ht ?_⟩
      refine ex_ix (ex_var c.toCtx 4 (ex_var c.toCtx 7 ⟨_, rfl, ixI b1 ⟨_, rfl, ixR b2 ?_⟩⟩))
      refine ex_var c.toCtx 3 ⟨k, _, rfl, matOf_get hk, ex_var c.toCtx 7 ⟨j, rfl, by rw [rowOf_len]; exact hj, ?_⟩⟩
      refine go_nil (go_nil (go_nil (go_nil (fin _ ?_))))
      unfold graG
      rw [hO, if_neg h3, if_pos (by omega)]
  · rintro k os hk ⟨h, f, rfl⟩
    exact ⟨h, f.row, rfl⟩
  · rintro x y os ⟨h, f, rfl⟩
    refine go_freezeM 6 0 ?_
    refine go_cons (g1_ret (ex_var c.toCtx 6 ?_))
    have e := f.done
    unfold webD at e
    rw [e]
    have := hp _ (sym_gra (n := n) (t := t) hg hgg)
    rw [← ho] at this
    exact this
end OB
set_option Elab.async false
set_option linter.all false
set_option maxRecDepth 100000
set_option maxHeartbeats 4000000
namespace OB
open PySem PySem.Spec PyProof.Rows L2
def steps (n : Nat) : List (Nat × Nat) := (List.range (n - 1)).map fun a => (a, a + 1)
def spPath (lo : Nat) : SpD := fun ds P _ => ∃ n : Nat, ds = [.int (n : Int)] ∧ lo ≤ n ∧ n ≤ 50 ∧ ∀ g', Sym g' → P (webD n g')
theorem rngM (n : Nat) (h : 1 ≤ n) : rngD 0 ((n : Int) - 1).toNat = intsTo (n - 1) := by rw [show ((n : Int) - 1).toNat = n - 1 by omega]; simp [rngD, intsTo]
abbrev N48 : List PySem.Str := ["_law_size", "_law_a"]
theorem el_steps {X : Cx} {S : Scope} (c : CtxT X N48 S) (bi : Bi X.mg) {n : Nat} (h1 : 1 ≤ n) (h2 : n ≤ 50) {B0 H0 : Hp} {sds : List SD} {P : List D → Prop} (hs : sds = [.d (.int (n : Int)), .un]) (hp : P ((steps n).map prn)) {scope : Scope} {p1 p2 p3 p4 p5 p6 p7 p8 p9 p0 pa pb : Pos} {j1 j2 kk}
    (hb : blkC N48 S scope [("_law_a", 1)] = true) (hv : visB (relS scope S) "_law_a" = true) (hl : lclB (relS scope S) "_law_a" = true) (hg : glB S "range" = true) (hv2 : visB S "_law_size" = true) :
    EL X B0 H0 sds [] (.ListComp (.Tuple [.Name "_law_a" p1, .BinOp (.Name "_law_a" p2) .Add (.Constant (.int 1) j1 p3) p4] kk p5) [⟨.Name "_law_a" p6, .Call (.Name "range" p7) [.BinOp (.Name "_law_size" p8) .Sub (.Constant (.int 1) j2 p9) p0] [] pa, [], 0⟩] scope pb) P := by
  subst hs
  refine el_lc0 c.toCtx [("_law_a", 1)] (.nm 1) (fun X' b => tb_nm (b.ctx c.toCtx) 1 rfl hl) (ix_range1 c.toCtx bi.range (ex_subI (ex_var c.toCtx 0 ⟨_, rfl, ex_int ⟨_, rfl, ⟨_, rfl, by omega, by omega, ?_⟩⟩⟩ rfl rfl hv2)) hg) hb
  rw [rngM n h1]
  exact ⟨Nat, List.range (n - 1), _, fun a => prn (a, a + 1), rfl, by simp; omega, fun x _ X' b => ex_tup (ea_cons (ex_var (b.ctx c.toCtx) 1 (ea_cons (ex_addI (ex_var (b.ctx c.toCtx) 1 ⟨_, rfl, ex_int ⟨_, rfl, ea_nil ⟨le2, rfl⟩⟩⟩ rfl rfl hv))) rfl rfl hv)), by unfold steps at hp; rw [List.map_map] at hp; exact hp⟩
theorem body_path {X : Cx} (c : CtxT X N48 (defScope (top 48))) (bi : Bi X.mg) {k : Nat} (hr : Room k X.A) (fNear : FnD X.prog X.w X.K X.mg X.base "_law_near" k spNear) : BodyOk X N48 (spPath 1) (defBody (top 48)) := by
  intro ds P R h B0 H0 air
  obtain ⟨n, rfl, h1, h2, hp⟩ := h
  refine go_cons (g1_ret (ex_call c.toCtx fNear hr (ea_cons (ex_var c.toCtx 0 (ea_cons (ex_ofL (el_steps c bi h1 h2 rfl ?_ (by decide +kernel) (by decide +kernel) (by decide +kernel) (by decide +kernel) (by decide +kernel))))))))
  refine ea_nil ⟨n, steps n, rfl, by omega, fun p hm => ?_, hp⟩
  obtain ⟨a, ha, rfl⟩ := List.mem_map.mp hm
  have := List.mem_range.mp ha
  exact ⟨by omega, by omega, by omega⟩
theorem body_round {X : Cx} (c : CtxT X N48 (defScope (top 49))) (bi : Bi X.mg) {k : Nat} (hr : Room k X.A) (fNear : FnD X.prog X.w X.K X.mg X.base "_law_near" k spNear) : BodyOk X N48 (spPath 2) (defBody (top 49)) := by
  intro ds P R h B0 H0 air
  obtain ⟨n, rfl, h1, h2, hp⟩ := h
  refine go_cons (g1_ret (ex_call c.toCtx fNear hr (ea_cons (ex_var c.toCtx 0 (ea_cons (ex_ofL (el_cat (ex_ofL (el_steps c bi (by omega) h2 rfl ⟨_, rfl, ?_⟩ (by decide +kernel) (by decide +kernel) (by decide +kernel) (by decide +kernel) (by decide +kernel))))))))))
  refine ex_ofL (el_lst (ea_cons (ex_tup (ea_cons (ex_int (ea_cons (ex_subI (ex_var c.toCtx 0 ⟨_, rfl, ex_int ⟨_, rfl, ea_nil ⟨le2, ea_nil ⟨le1, _, rfl, ?_, ?_⟩⟩⟩⟩))))))))
  · simp [steps]; omega
  have e : (steps n).map prn ++ [D.tup [.int 0, .int ((n : Int) - 1)]] = (steps n ++ [(0, n - 1)]).map prn := by
    rw [List.map_append]
    congr 1
    simp [prn]; omega
  rw [e]
  refine ea_nil ⟨n, steps n ++ [(0, n - 1)], rfl, by omega, fun p hm => ?_, hp⟩
  rcases List.mem_append.mp hm with hm | hm
  · obtain ⟨a, ha, rfl⟩ := List.mem_map.mp hm
    have := List.mem_range.mp ha
    exact ⟨by omega, by omega, by omega⟩
  · have e : p = (0, n - 1) := by simpa using hm
    subst e
    exact ⟨by omega, by show n - 1 < n; omega, by show 0 ≠ n - 1; omega⟩
end OB
set_option Elab.async false
set_option linter.all false
set_option maxRecDepth 100000
set_option maxHeartbeats 4000000
namespace OB
open PySem PySem.Spec PyProof.Rows L2
def spTake : SpD := fun ds P _ => ∃ m : Int, ds = [.drw, .int m] ∧ 0 < m ∧ ∀ r, 0 ≤ r → r < m → P (.int r)
theorem sym0 : Sym fun _ _ => false := ⟨fun _ _ => rfl, fun _ => rfl⟩
/-- all functions of the law that make webs -/
structure Ws (P : Program) (w : World) (K : PySem.W.Frag) (mg : PySem.Str → Option Value) (base : Heap) (k : Nat) : Prop where
  bi : Bi mg
  take : FnD P w K mg base "_law_take" k spTake
  blank : FnM P w K mg base "_law_blank" k spBlank
  near : FnD P w K mg base "_law_near" k spNear
  con : FnD P w K mg base "_law_contrary" k spContrary
  graft : FnD P w K mg base "_law_graft" k spGraft
  path : FnD P w K mg base "_law_path" k (spPath 1)
  round : FnD P w K mg base "_law_round" k (spPath 2)
section
variable {X : Cx} {N : List PySem.Str} {S scope : Scope} {B0 H0 : Hp} {sds : List SD} {os : List (Addr × OV)} {P : D → Prop} {pos p p1 p2 : Pos} {k : Nat}
theorem ex_take (c : Ctx X N S) (F : FnD X.prog X.w X.K X.mg X.base "_law_take" k spTake) (hr : Room k X.A) {e : Expr} (i : Nat) {x : PySem.Str} (h : EX X B0 H0 sds os e fun d => ∃ m : Nat, d = .int (m : Int) ∧ 0 < m ∧ ∀ r : Nat, r < m → P (.int (r : Int))) (hs : sds[i]? = some (.d .drw) := by rfl) (hN : N[i]? = some x := by rfl) (hv : visB S x = true := by decide +kernel)
    (hd : (x == ("__debug__" : PySem.Str)) = false := by decide +kernel) (hcd : (x == ("__classdict__" : PySem.Str)) = false := by decide +kernel) (hg : glB S "_law_take" = true := by decide +kernel) (he : starEach (.Name x p1 :: [e]) X.env = (false, eval (.Name x p1) X.env) :: starEach [e] X.env := by rfl) (hpl : (backTo pos (starEach [e] X.env)).any (·.1) = false := by rfl) (he2 : starEach [e] X.env = (false, eval e X.env) :: starEach [] X.env := by rfl) : EX X B0 H0 sds os (.Call (.Name "_law_take" p) [.Name x p1, e] [] pos) P :=
  ex_call c F hr (ea_cons (ex_var c i (ea_cons (h.imp fun d ⟨m, e1, h1, h2⟩ => ea_nil ⟨(m : Int), by rw [e1], by omega, fun r r0 r1 => by
    obtain ⟨n, rfl⟩ := Int.eq_ofNat_of_zero_le r0
    exact h2 n (by omega)⟩) he2) hs hN hv hd hcd) he) hg (by decide +kernel) he hpl
end
def spBase : SpD := fun ds P _ => ds = [.drw] ∧ ∀ n g, 2 ≤ n → n ≤ 6 → Sym g → P (webD n g)
abbrev N51 : List PySem.Str := ["_law_draws_here", "_law_word"]
theorem body_base {X : Cx} (c : CtxT X N51 (defScope (top 51))) {k : Nat} (hr : Room k X.A) (W : Ws X.prog X.w X.K X.mg X.base k) : BodyOk X N51 spBase (defBody (top 51)) := by
  intro ds P R h B0 H0 air
  obtain ⟨rfl, hp⟩ := h
  refine go_cons (g1_asg c.toCtxD 1 (ex_take c.toCtx W.take hr 0 (ex_int ⟨9, rfl, by decide, fun r _ => ?_⟩)))
  refine go_cons (g1_if (tx_eqI (ex_var c.toCtx 1 ⟨_, rfl, ex_int ⟨_, rfl, ⟨fun _ => ?_, fun _ => go_nil ?_⟩⟩⟩)))
  · exact go_cons (g1_ret (ex_call c.toCtx W.near hr (ea_cons (ex_int (ea_cons (ex_ofL (el_lst (ea_cons (ex_tup (ea_cons (ex_int (ea_cons (ex_int (ea_nil ⟨le2, ea_nil ⟨le1, ea_nil ⟨2, [(0, 1)], rfl, by decide, by decide, fun g hs => hp 2 g (by decide) (by decide) hs⟩⟩⟩))))))))))))))
  refine go_cons (g1_if (tx_eqI (ex_var c.toCtx 1 ⟨_, rfl, ex_int ⟨_, rfl, ⟨fun _ => ?_, fun _ => go_nil ?_⟩⟩⟩)))
  · exact go_cons (g1_ret (ex_ofM (em_call c.toCtx W.blank hr (ea_cons (ex_int (ea_nil ⟨2, rfl, by decide, hp 2 _ (by decide) (by decide) sym0⟩))))))
  refine go_cons (g1_if (tx_eqI (ex_var c.toCtx 1 ⟨_, rfl, ex_int ⟨_, rfl, ⟨fun _ => ?_, fun _ => go_nil ?_⟩⟩⟩)))
  · exact go_cons (g1_ret (ex_call c.toCtx W.con hr (ea_cons (ex_ofM (em_call c.toCtx W.blank hr (ea_cons (ex_int (ea_nil ⟨3, rfl, by decide, ea_nil ⟨3, _, rfl, by decide, hp 3 _ (by decide) (by decide) (sym_con sym0)⟩⟩))))))))
  refine go_cons (g1_if (tx_eqI (ex_var c.toCtx 1 ⟨_, rfl, ex_int ⟨_, rfl, ⟨fun _ => ?_, fun _ => go_nil ?_⟩⟩⟩)))
  · exact go_cons (g1_ret (ex_ofM (em_call c.toCtx W.blank hr (ea_cons (ex_int (ea_nil ⟨3, rfl, by decide, hp 3 _ (by decide) (by decide) sym0⟩))))))
  refine go_cons (g1_if (tx_eqI (ex_var c.toCtx 1 ⟨_, rfl, ex_int ⟨_, rfl, ⟨fun _ => ?_, fun _ => go_nil ?_⟩⟩⟩)))
  · exact go_cons (g1_ret (ex_call c.toCtx W.path hr (ea_cons (ex_int (ea_nil ⟨5, rfl, by decide, by decide, fun g hs => hp 5 g (by decide) (by decide) hs⟩)))))
  refine go_cons (g1_if (tx_eqI (ex_var c.toCtx 1 ⟨_, rfl, ex_int ⟨_, rfl, ⟨fun _ => ?_, fun _ => go_nil ?_⟩⟩⟩)))
  · exact go_cons (g1_ret (ex_call c.toCtx W.round hr (ea_cons (ex_int (ea_nil ⟨6, rfl, by decide, by decide, fun g hs => hp 6 g (by decide) (by decide) hs⟩)))))
  refine go_cons (g1_if (tx_eqI (ex_var c.toCtx 1 ⟨_, rfl, ex_int ⟨_, rfl, ⟨fun _ => ?_, fun _ => go_nil ?_⟩⟩⟩)))
  · exact go_cons (g1_ret (ex_call c.toCtx W.path hr (ea_cons (ex_int (ea_nil ⟨3, rfl, by decide, by decide, fun g hs => hp 3 g (by decide) (by decide) hs⟩)))))
  exact go_cons (g1_ret (ex_call c.toCtx W.path hr (ea_cons (ex_int (ea_nil ⟨4, rfl, by decide, by decide, fun g hs => hp 4 g (by decide) (by decide) hs⟩)))))
end OB
set_option Elab.async false
set_option linter.all false
set_option maxRecDepth 100000
set_option maxHeartbeats 4000000
namespace OB
open PySem PySem.Spec PyProof.Rows L2
def spWeb (lo : Nat) : SpD := fun ds P _ => ∃ m : Nat, ds = [.drw, .int (m : Int)] ∧ lo ≤ m ∧ m ≤ 40 ∧ ∀ n g, 1 ≤ n → n ≤ m → Sym g → P (webD n g)
abbrev N52 : List PySem.Str := ["_law_draws_here", "_law_most", "_law_near_here", "_law_k", "_law_guest", "_law_thing"]
theorem body_nested {X : Cx} (c : CtxT X N52 (defScope (top 52))) {k : Nat} (hr : Room k X.A) (W : Ws X.prog X.w X.K X.mg X.base k) (fBase : FnD X.prog X.w X.K X.mg X.base "_law_base" k spBase) : BodyOk X N52 (spWeb 4) (defBody (top 52)) := by
  intro ds P R h B0 H0 air
  obtain ⟨m, rfl, hm, hm2, hp⟩ := h
  refine go_cons (g1_asg c.toCtxD 2 (ex_call c.toCtx fBase hr (ea_cons (ex_var c.toCtx 0 (ea_nil ⟨rfl, fun n g h1 h2 hs => ?_⟩)))))
  refine go_cut (fun sds os => os = [] ∧ ∃ n g, 1 ≤ n ∧ n ≤ m ∧ Sym g ∧ sds = [.d .drw, .d (.int (m : Int)), .d (webD n g), .un, .un, .un]) ?_ ?_
  · refine g1_if (tx_gtI (ex_len c.toCtx W.bi.len (ex_var c.toCtx 2 ⟨n, web_len, ⟨_, rfl, ex_var c.toCtx 1 ⟨_, rfl, ⟨fun _ => ?_, fun hn => ?_⟩⟩⟩⟩)))
    · exact go_cons (g1_asg c.toCtxD 2 (ex_call c.toCtx W.path hr (ea_cons (ex_int (ea_nil ⟨4, rfl, by decide, by decide, fun g hs => go_nil ⟨rfl, 4, g, by decide, hm, hs, rfl⟩⟩)))))
    · have hn2 : ¬ (m : Int) < (n : Int) := by simpa using hn
      exact go_nil ⟨rfl, n, g, by omega, by omega, hs, rfl⟩
  rintro sds os ⟨rfl, n, g, hn1, hn2, hs, rfl⟩
  clear h1 h2
  refine go_cut (fun sds os => os = [] ∧ ∃ n g x y z, 1 ≤ n ∧ n ≤ m ∧ Sym g ∧ sds = [.d .drw, .d (.int (m : Int)), .d (webD n g), x, y, z]) (g1_for (t := .nm 3) c.own c.calm (tg_nm c.toCtxD 3) (ix_range1 c.toCtx W.bi.range (ex_take c.toCtx W.take hr 0 (ex_int ⟨4, rfl, by decide, fun r hr' => ⟨(r : Int), rfl, by omega, by omega, ?_⟩⟩)))) ?_
  · rw [rng0]
    refine forOk_rng (fun _ sds os => os = [] ∧ ∃ n g x y z, 1 ≤ n ∧ n ≤ m ∧ Sym g ∧ sds = [.d .drw, .d (.int (m : Int)), .d (webD n g), x, y, z]) ⟨rfl, n, g, _, _, _, hn1, hn2, hs, rfl⟩ ?_ fun _ _ h => h
    rintro k sds os hk ⟨rfl, n, g, x, y, z, hn1, hn2, hs, rfl⟩
    refine go_cons (g1_asg c.toCtxD 4 (ex_call c.toCtx fBase hr (ea_cons (ex_var c.toCtx 0 (ea_nil ⟨rfl, fun n' g' h1 h2 hs' => ?_⟩)))))
    refine go_cons (g1_asg c.toCtxD 5 (ex_take c.toCtx W.take hr 0 (ex_len c.toCtx W.bi.len (ex_var c.toCtx 2 ⟨n, web_len, ⟨n, rfl, by omega, fun t ht => ?_⟩⟩))))
    refine go_cons (g1_if (tx_leI (ex_addI (ex_subI (ex_len c.toCtx W.bi.len (ex_var c.toCtx 2 ⟨n, web_len, ⟨_, rfl, ex_int ⟨_, rfl, ⟨_, rfl, ex_len c.toCtx W.bi.len (ex_var c.toCtx 4 ⟨n', web_len, ⟨_, rfl, ⟨_, rfl, ex_var c.toCtx 1 ⟨_, rfl, ⟨fun hc => ?_, fun hc => go_nil (go_nil ⟨rfl, n, g, _, _, _, hn1, hn2, hs, rfl⟩)⟩⟩⟩⟩⟩)⟩⟩⟩⟩))))))
    have hc' : (n : Int) - 1 + (n' : Int) ≤ (m : Int) := by simpa using hc
    exact go_cons (g1_asg c.toCtxD 2 (ex_call c.toCtx W.graft hr (ea_cons (ex_var c.toCtx 2 (ea_cons (ex_var c.toCtx 5 (ea_cons (ex_var c.toCtx 4 (ea_nil ⟨n, n', t, g, g', rfl, by omega, by omega, ht, hs, hs', fun q hq => go_nil (go_nil ⟨rfl, n - 1 + n', q, _, _, _, by omega, by omega, hq, rfl⟩)⟩)))))))))
  rintro sds os ⟨rfl, n, g, x, y, z, hn1, hn2, hs, rfl⟩
  exact go_cons (g1_ret (ex_var c.toCtx 2 (hp n g hn1 hn2 hs)))
end OB
set_option Elab.async false
set_option linter.all false
set_option maxRecDepth 100000
set_option maxHeartbeats 4000000
namespace OB
open PySem PySem.Spec PyProof.Rows L2
def spAny : SpD := fun ds P _ => ∃ n : Nat, ds = [.drw, .int (n : Int)] ∧ 1 ≤ n ∧ n ≤ 40 ∧ ∀ g, Sym g → P (webD n g)
abbrev N53 : List PySem.Str := ["_law_draws_here", "_law_size", "_law_share", "_law_ties_here", "_law_a", "_law_b"]
theorem body_any {X : Cx} (c : CtxT X N53 (defScope (top 53))) {k : Nat} (hr : Room k X.A) (W : Ws X.prog X.w X.K X.mg X.base k) : BodyOk X N53 spAny (defBody (top 53)) := by
  intro ds P R h B0 H0 air
  obtain ⟨n, rfl, hn0, hn, hp⟩ := h
  refine go_cons (g1_asg c.toCtxD 2 (ex_addI (ex_int ⟨_, rfl, ex_take c.toCtx W.take hr 0 (ex_int ⟨4, rfl, by decide, fun r hr' => ⟨_, rfl, ?_⟩⟩)⟩)))
  refine go_cons (g1_asgO c.toCtxD 3 (el_lst (ea_nil ⟨by decide, fun p => ?_⟩)))
  let J : Nat → Nat → List SD → List (Addr × OV) → Prop := fun i j sds os => ∃ (x y : SD) (l : List (Nat × Nat)), sds = [.d .drw, .d (.int (n : Int)), .d (.int (1 + (r : Int))), .v (.ref p), x, y] ∧ os = [(p, .lst (l.map prn))] ∧ l.length ≤ i * n + j ∧ ∀ q ∈ l, q.1 < q.2 ∧ q.2 < n
  refine go_cut (J n 0) (g1_for (t := .nm 4) c.own c.calm (tg_nm c.toCtxD 4) (ix_range1 c.toCtx W.bi.range (ex_var c.toCtx 1 ⟨(n : Int), rfl, by omega, by omega, ?_⟩))) ?_
  · rw [rng0]
    refine forOk_rng (fun i => J i 0) ⟨_, _, [], rfl, rfl, by simp, by simp⟩ ?_ fun _ _ h => h
    rintro i sds os hi ⟨x, y, l, rfl, rfl, hl, hq⟩
    refine go_cons (g1_for (t := .nm 5) c.own c.calm (tg_nm c.toCtxD 5) (ix_range2 c.toCtx W.bi.range (ex_addI (ex_var c.toCtx 4 ⟨_, rfl, ex_int ⟨_, rfl, ex_var c.toCtx 1 ⟨((i + 1 : Nat) : Int), (n : Int), rfl, rfl, ⟨by omega, by omega, by omega, by omega⟩, ?_⟩⟩⟩))))
    rw [rng1]
    refine forOk_rng (fun j sds os => ∃ (y : SD) (l : List (Nat × Nat)), sds = [.d .drw, .d (.int (n : Int)), .d (.int (1 + (r : Int))), .v (.ref p), .d (.int (i : Int)), y] ∧ os = [(p, .lst (l.map prn))] ∧ l.length ≤ i * n + j ∧ ∀ q ∈ l, q.1 < q.2 ∧ q.2 < n) ⟨_, l, rfl, rfl, hl, hq⟩ ?_ ?_
    · rintro j sds os hj ⟨y, l, rfl, rfl, hl, hq⟩
      refine go_cons (g1_if (tx_ltI (ex_take c.toCtx W.take hr 0 (ex_int ⟨5, rfl, by decide, fun r' _ => ⟨_, rfl, ex_var c.toCtx 2 ⟨_, rfl, ⟨fun _ => ?_, fun _ => go_nil (go_nil ⟨_, l, rfl, rfl, by omega, hq⟩)⟩⟩⟩⟩))))
      refine go_cons (g1_append c.toCtx 3 0 (ex_tup (ea_cons (ex_var c.toCtx 4 (ea_cons (ex_var c.toCtx 5 (ea_nil ⟨le2, ?_, go_nil (go_nil ⟨_, l ++ [(i, i + 1 + j)], rfl, ?_, ?_, ?_⟩)⟩)))))))
      · rw [List.length_map]
        have h3 : i * n ≤ 40 * 40 := Nat.mul_le_mul (by omega) hn
        omega
      · simp [prn]
      · simp; omega
      · intro q hm
        rcases List.mem_append.mp hm with hm | hm
        · exact hq q hm
        · have e : q = (i, i + 1 + j) := by simpa using hm
          subst e
          exact ⟨by show i < i + 1 + j; omega, by show i + 1 + j < n; omega⟩
    · rintro sds os ⟨y, l, rfl, rfl, hl, hq⟩
      refine go_nil ⟨_, _, l, rfl, rfl, ?_, hq⟩
      have : (i + 1) * n = i * n + n := Nat.succ_mul i n
      omega
  rintro sds os ⟨x, y, l, rfl, rfl, hl, hq⟩
  refine go_freeze 3 0 ?_
  refine go_cons (g1_ret (ex_call c.toCtx W.near hr (ea_cons (ex_var c.toCtx 1 (ea_cons (ex_var c.toCtx 3 (ea_nil ⟨n, l, rfl, by omega, fun q hm => ?_, hp⟩)))))))
  have := hq q hm
  exact ⟨by omega, by omega, by omega⟩
/-! spans -/
def spSpans : SpD := fun ds P _ => ∃ n : Nat, ds = [.drw, .int (n : Int)] ∧ n ≤ 40 ∧ ∀ l : List (Int × Int), l.length = n → P (.lst (l.map pr))
abbrev N54 : List PySem.Str := ["_law_draws_here", "_law_size", "_law_spans_here", "_law_a", "_law_first"]
theorem body_spans {X : Cx} (c : CtxT X N54 (defScope (top 54))) {k : Nat} (hr : Room k X.A) (W : Ws X.prog X.w X.K X.mg X.base k) : BodyOk X N54 spSpans (defBody (top 54)) := by
  intro ds P R h B0 H0 air
  obtain ⟨n, rfl, hn, hp⟩ := h
  refine go_cons (g1_asgO c.toCtxD 2 (el_lst (ea_nil ⟨by decide, fun p => ?_⟩)))
  refine go_cut (fun sds os => ∃ (x y : SD) (l : List (Int × Int)), sds = [.d .drw, .d (.int (n : Int)), .v (.ref p), x, y] ∧ os = [(p, .lst (l.map pr))] ∧ l.length = n) (g1_for (t := .nm 3) c.own c.calm (tg_nm c.toCtxD 3) (ix_range1 c.toCtx W.bi.range (ex_var c.toCtx 1 ⟨(n : Int), rfl, by omega, by omega, ?_⟩))) ?_
  · rw [rng0]
    refine forOk_rng (fun i sds os => ∃ (x y : SD) (l : List (Int × Int)), sds = [.d .drw, .d (.int (n : Int)), .v (.ref p), x, y] ∧ os = [(p, .lst (l.map pr))] ∧ l.length = i) ⟨_, _, [], rfl, rfl, rfl⟩ ?_ fun _ _ h => h
    rintro i sds os hi ⟨x, y, l, rfl, rfl, rfl⟩
    refine go_cons (g1_asg c.toCtxD 4 (ex_take c.toCtx W.take hr 0 (ex_int ⟨8, rfl, by decide, fun r hr' => ?_⟩)))
    refine go_cons (g1_append c.toCtx 2 0 (ex_tup (ea_cons (ex_var c.toCtx 4 (ea_cons (ex_addI (ex_var c.toCtx 4 ⟨_, rfl, ex_take c.toCtx W.take hr 0 (ex_int ⟨4, rfl, by decide, fun r2 _ => ⟨_, rfl, ea_nil ⟨le2, ?_, go_nil ⟨_, _, l ++ [((r : Int), (r : Int) + (r2 : Int))], rfl, ?_, ?_⟩⟩⟩⟩)⟩)))))))
    · rw [List.length_map]; omega
    · simp [pr]
    · simp
  rintro sds os ⟨x, y, l, rfl, rfl, hl⟩
  refine go_freeze 2 0 ?_
  exact go_cons (g1_ret (ex_var c.toCtx 2 (hp l hl)))
end OB
set_option Elab.async false
set_option linter.all false
set_option maxRecDepth 100000
set_option maxHeartbeats 4000000
namespace OB
open PySem PySem.Spec PyProof.Rows L2
def spMeeting : SpD := fun ds P _ => ∃ l : List (Int × Int), ds = [.lst (l.map pr)] ∧ l.length ≤ 40 ∧ ∀ g, Sym g → P (webD l.length g)
abbrev N55 : List PySem.Str := ["_law_spans_here", "_law_near_here", "_law_a", "_law_b"]
def metG (l : List (Int × Int)) : Nat → Nat → Bool := fun a b => decide (a ≠ b) && (decide ((l.getD a (0, 0)).1 ≤ (l.getD b (0, 0)).2) && decide ((l.getD b (0, 0)).1 ≤ (l.getD a (0, 0)).2))
theorem sym_met (l : List (Int × Int)) : Sym (metG l) := ⟨fun a b => by unfold metG; rw [Bool.and_comm (decide ((l.getD a (0, 0)).1 ≤ (l.getD b (0, 0)).2))]; by_cases e : a = b <;> simp [e, eq_comm], fun a => by simp [metG]⟩
theorem len_prs {l : List (Int × Int)} : LenD (.lst (l.map pr)) l.length := by simp [LenD]
theorem ixP {l : List (Int × Int)} {u : Nat} {P : D → Prop} (h : u < l.length) (p : P (pr (l.getD u (0, 0)))) : IxD (.lst (l.map pr)) (u : Int) P := ixL u (by rw [List.getElem?_map, List.getElem?_eq_getElem h, List.getD_eq_getElem?_getD, List.getElem?_eq_getElem h] <;> rfl) p
theorem ixP0 {x : Int × Int} {P : D → Prop} (p : P (.int x.1)) : IxD (pr x) 0 P := ixT 0 rfl p
theorem ixP1 {x : Int × Int} {P : D → Prop} (p : P (.int x.2)) : IxD (pr x) 1 P := ixT 1 rfl p
theorem body_meeting {X : Cx} (c : CtxT X N55 (defScope (top 55))) {k : Nat} (hr : Room k X.A) (W : Ws X.prog X.w X.K X.mg X.base k) : BodyOk X N55 spMeeting (defBody (top 55)) := by
  intro ds P R h B0 H0 air
  obtain ⟨l, rfl, hn, hp⟩ := h
  generalize hL : l.length = n at *
  refine go_cons (g1_asgM c.toCtxD 1 (em_call c.toCtx W.blank hr (ea_cons (ex_len c.toCtx W.bi.len (ex_var c.toCtx 0 ⟨_, len_prs, (ea_nil ⟨l.length, rfl, by omega, fun p rs => ?_⟩)⟩)))))
  rw [hL]
  refine go_cons (g1_two c n n (fun x y => [.d (.lst (l.map pr)), .v (.ref p), x, y]) (fun k j os => ∃ h, Fil n (metG l) k j h ∧ os = [(p, .mat rs (matOf n h))]) (ia := 2) (ib := 3) ⟨_, Fil.zero, rfl⟩ (tg_nm c.toCtxD 2) (tg_nm c.toCtxD 3) ?_ ?_ ?_ ?_ ?_)
  · intro Q hQ
    exact ix_range1 c.toCtx W.bi.range (ex_len c.toCtx W.bi.len (ex_var c.toCtx 0 ⟨_, len_prs, ⟨(l.length : Int), rfl, by omega, by omega, by rw [hL, rngI]; exact hQ⟩⟩))
  · intro k os y hk hI Q hQ
    exact ix_range1 c.toCtx W.bi.range (ex_len c.toCtx W.bi.len (ex_var c.toCtx 0 ⟨_, len_prs, ⟨(l.length : Int), rfl, by omega, by omega, by rw [hL, rngI]; exact hQ⟩⟩))
  · rintro k j os hk hj ⟨h, f, rfl⟩ E' hE
    refine go_cons (g1_if (tx_w (wx_and (k1 := decide (k ≠ j)) (k2 := decide ((l.getD k (0, 0)).1 ≤ (l.getD j (0, 0)).2) && decide ((l.getD j (0, 0)).1 ≤ (l.getD k (0, 0)).2)) (tx_neI (ex_var c.toCtx 2 ⟨_, rfl, ex_var c.toCtx 3 ⟨_, rfl, ?_⟩⟩)) (fun _ => wx_and (k1 := decide ((l.getD k (0, 0)).1 ≤ (l.getD j (0, 0)).2)) (k2 := decide ((l.getD j (0, 0)).1 ≤ (l.getD k (0, 0)).2)) ?_ (fun _ => tx_and1 ?_) rfl) ?_)))
    · by_cases e : k = j <;> simp [e, Int.ofNat_inj]
    · exact tx_leI (ex_ix (ex_ix (ex_var c.toCtx 0 (ex_var c.toCtx 2 ⟨_, rfl, ixP (by omega) (ex_int ⟨_, rfl, ixP0 ⟨_, rfl, ex_ix (ex_ix (ex_var c.toCtx 0 (ex_var c.toCtx 3 ⟨_, rfl, ixP (by omega) (ex_int ⟨_, rfl, ixP1 ⟨_, rfl, rfl⟩⟩)⟩)))⟩⟩)⟩))))
    · exact tx_leI (ex_ix (ex_ix (ex_var c.toCtx 0 (ex_var c.toCtx 3 ⟨_, rfl, ixP (by omega) (ex_int ⟨_, rfl, ixP0 ⟨_, rfl, ex_ix (ex_ix (ex_var c.toCtx 0 (ex_var c.toCtx 2 ⟨_, rfl, ixP (by omega) (ex_int ⟨_, rfl, ixP1 ⟨_, rfl, rfl⟩⟩)⟩)))⟩⟩)⟩))))
    refine ⟨fun ht => ?_, fun ht => ?_⟩
    · refine go_cons (g1_setM c.toCtx 1 0 (ex_int (ex_var c.toCtx 2 ⟨k, _, rfl, matOf_get hk, ex_var c.toCtx 3 ⟨j, rfl, by rw [rowOf_len]; exact hj, ?_⟩⟩)))
      rw [matOf_set1 hk hj]
      exact go_nil (go_nil (hE _ ⟨_, f.set ht.symm, rfl⟩))
    · exact go_nil (go_nil (hE _ ⟨_, f.keep ht, rfl⟩))
  · rintro k os hk ⟨h, f, rfl⟩
    exact ⟨h, f.row, rfl⟩
  · rintro x y os ⟨h, f, rfl⟩
    refine go_freezeM 1 0 ?_
    refine go_cons (g1_ret (ex_var c.toCtx 1 ?_))
    have e := f.done
    unfold webD at e
    rw [e]
    exact hp _ (sym_met l)
/-! a row is drawn -/
theorem own_mem {os : List (Addr × OV)} {j : Nat} {p : Addr} {l : List D} (h : os[j]? = some (p, .lst l)) : p ∈ os.flatMap fpt := List.mem_flatMap.mpr ⟨_, List.mem_of_getElem? h, by simp [fpt]⟩
theorem own_ne : ∀ {os : List (Addr × OV)} {j j2 : Nat} {p q : Addr} {l m : List D}, (os.flatMap fpt).Nodup → os[j]? = some (p, .lst l) → os[j2]? = some (q, .lst m) → j ≠ j2 → p ≠ q
  | [], _, _, _, _, _, _, _, h, _, _ => by simp at h
  | o :: os, 0, 0, _, _, _, _, _, _, _, hn => absurd rfl hn
  | o :: os, 0, j2 + 1, p, q, l, m, nd, h1, h2, _ => fun e => by
    have e1 : o = (p, .lst l) := by simpa using h1
    subst e1
    rw [List.flatMap_cons] at nd
    exact (List.nodup_append.mp nd).2.2 p (by simp [fpt]) q (own_mem (by simpa using h2)) e
  | o :: os, j + 1, 0, p, q, l, m, nd, h1, h2, _ => fun e => by
    have e1 : o = (q, .lst m) := by simpa using h2
    subst e1
    rw [List.flatMap_cons] at nd
    exact (List.nodup_append.mp nd).2.2 q (by simp [fpt]) p (own_mem (by simpa using h1)) e.symm
  | o :: os, j + 1, j2 + 1, p, q, l, m, nd, h1, h2, hn => by
    rw [List.flatMap_cons] at nd
    exact own_ne (List.nodup_append.mp nd).2.1 (by simpa using h1) (by simpa using h2) (by omega)
theorem IsAll.eraseIdx {K : PySem.W.Frag} {B : Hp} : ∀ {ds : List D} {vs : List V}, IsAll K B vs ds → ∀ i, IsAll K B (vs.eraseIdx i) (ds.eraseIdx i)
  | [], _, .nil, _ => .nil
  | d :: ds, _, .cons h1 h2, 0 => h2
  | d :: ds, _, .cons h1 h2, i + 1 => .cons h1 (h2.eraseIdx i)
section
variable {X : Cx} {N : List PySem.Str} {S : Scope} {B0 H0 : Hp} {sds : List SD} {os : List (Addr × OV)} {E : DE} {pos : Pos} {e : Expr}
theorem g1_appendPop (c : Ctx X N S) (i j i2 j2 : Nat) {x y : PySem.Str} {p q : Addr} {l m : List D} {px pa pc qx qa qc : Pos}
    (h : EX X B0 H0 sds os e fun d => ∃ u : Nat, d = .int (u : Int) ∧ u < m.length ∧ u < 2 ^ 62 ∧ l.length < 100000 ∧ ∀ z, m[u]? = some z → E.nx sds ((os.set j2 (q, .lst (m.eraseIdx u))).set j (p, .lst (l ++ [z])))) (hne : j ≠ j2) (hj : os[j]? = some (p, .lst l) := by rfl) (hi : sds[i]? = some (.v (.ref p)) := by rfl) (hj2 : os[j2]? = some (q, .lst m) := by rfl) (hi2 : sds[i2]? = some (.v (.ref q)) := by rfl)
    (hN : N[i]? = some x := by rfl) (hN2 : N[i2]? = some y := by rfl) (hv : visB S x = true := by decide +kernel) (hv2 : visB S y = true := by decide +kernel) (hd : (x == ("__debug__" : PySem.Str)) = false := by decide +kernel) (hcd : (x == ("__classdict__" : PySem.Str)) = false := by decide +kernel) (hd2 : (y == ("__debug__" : PySem.Str)) = false := by decide +kernel) (hcd2 : (y == ("__classdict__" : PySem.Str)) = false := by decide +kernel)
    (hs : swapsWith (.Call (.Attribute (.Name x px) "append" pa) [.Call (.Attribute (.Name y qx) "pop" qa) [e] [] qc] [] pc) none pos.line X.env = pure false := by rfl)
    (hbase : attributeBase (.Name x px) "append" X.env (eval (.Name x px) X.env) = eval (.Name x px) X.env := by rfl) (hbase2 : attributeBase (.Name y qx) "pop" X.env (eval (.Name y qx) X.env) = eval (.Name y qx) X.env := by rfl)
    (hfew : ((backTo pc (starEach [.Call (.Attribute (.Name y qx) "pop" qa) [e] [] qc] X.env)).all (fun x => !x.1) && (backToKw pc (keywordEach [] X.env)).all (fun x => x.1.isSome)
      && decide (([.Call (.Attribute (.Name y qx) "pop" qa) [e] [] qc] : List Expr).length + ([] : List Keyword).length + (if ([] : List Keyword).isEmpty then 0 else 1) < 30)) = true := by rfl)
    (hfew2 : ((backTo qc (starEach [e] X.env)).all (fun x => !x.1) && (backToKw qc (keywordEach [] X.env)).all (fun x => x.1.isSome)
      && decide ([e].length + ([] : List Keyword).length + (if ([] : List Keyword).isEmpty then 0 else 1) < 30)) = true := by rfl)
    (hline : (pa.endLine == pc.line) = true := by rfl) (hline2 : (qa.endLine == qc.line) = true := by rfl) (hst : starEach [.Call (.Attribute (.Name y qx) "pop" qa) [e] [] qc] X.env = [(false, eval (.Call (.Attribute (.Name y qx) "pop" qa) [e] [] qc) X.env)] := by rfl) (hst2 : starEach [e] X.env = [(false, eval e X.env)] := by rfl) :
    Go1 X B0 H0 sds os E (.Expr (.Call (.Attribute (.Name x px) "append" pa) [.Call (.Attribute (.Name y qx) "pop" qa) [e] [] qc] [] pc) pos) := fun A B H σ ea s => by
  refine PS.to (ps_expr (pe_bm PySem.F.plainAttrs_list PySem.F.slot_list_append PySem.F.type_list_append mt_append (pe_var (i := i) (by rw [c.hN]; exact hN) (c.vis hv) hd hcd) (pa_cons (pe_bm PySem.F.plainAttrs_list PySem.F.slot_list_pop PySem.F.type_list_pop mt_popAt (pe_var (i := i2) (by rw [c.hN]; exact hN2) (c.vis hv2) hd2 hcd2) (pa_cons pe_w pa_nil hst2) hbase2 hfew2 hline2 hst2 rfl) pa_nil hst) hbase hfew hline hst rfl) hs) ?_
  obtain ⟨xs, hp, ha⟩ := s.ownAt hj
  obtain ⟨ys, hp2, ha2⟩ := s.ownAt hj2
  refine ⟨.ref p, s.varV hi, .inl ⟨rfl, _, SqL.of hp⟩, .ref q, s.varV hi2, .inl ⟨rfl, _, SqL.of hp2⟩, ?_⟩
  refine h B H σ s _ fun v B1 H1 d g1 i1 ⟨u, e1, hu, hu2, hl, k⟩ => ?_
  subst e1; cases i1
  have s1 := s.grow g1
  have ha1 := IsAll.mono g1.b _ _ ha
  have hm1 := IsAll.mono g1.b _ _ ha2
  obtain ⟨z, hz⟩ : ∃ z, m[u]? = some z := ⟨_, List.getElem?_eq_getElem hu⟩
  obtain ⟨w, hw, iw⟩ := hm1.get hz
  have hpq : p ≠ q := own_ne s.nd hj hj2 hne
  refine ⟨q, ys, (u : Int), u, w, rfl, rfl, g1.h _ _ hp2, by omega, by omega, (ixN_seq (Evl.ixN_nat (by rw [ha2.len]; exact hu))).1, hw, ?_⟩
  refine ⟨p, xs, w, rfl, rfl, by rw [upd_ne hpq]; exact g1.h _ _ hp, by rw [ha.len]; exact Nat.lt_of_lt_of_le hl (by decide), ?_⟩
  have s2 := s1.putAt hj2 (hm1.eraseIdx u)
  exact ⟨B1, _, _, ea.trans g1.b, s2.putAt (l := l) (by rw [List.getElem?_set_ne (Ne.symm hne)]; exact hj) (ha1.app (.cons iw .nil)), k z hz⟩
end
end OB
set_option Elab.async false
set_option linter.all false
set_option maxRecDepth 100000
set_option maxHeartbeats 4000000
namespace OB
open PySem PySem.Spec PyProof.Rows L2
abbrev intl (r : List Nat) : List D := r.map fun (i : Nat) => .int (i : Int)
theorem intl_len (r : List Nat) : (intl r).length = r.length := List.length_map _
theorem erase_map {α β : Type} (f : α → β) : ∀ (l : List α) (u : Nat), (l.map f).eraseIdx u = (l.eraseIdx u).map f
  | [], _ => rfl
  | a :: l, 0 => rfl
  | a :: l, u + 1 => by rw [List.map_cons, List.eraseIdx_cons_succ, List.eraseIdx_cons_succ, List.map_cons, erase_map f l u]
theorem erase_perm : ∀ {m : List Nat} {u v : Nat}, m[u]? = some v → (v :: m.eraseIdx u).Perm m
  | [], _, _, h => by simp at h
  | a :: m, 0, v, h => by have e : a = v := by simpa using h
                          subst e; exact List.Perm.refl _
  | a :: m, u + 1, v, h => by
    rw [List.eraseIdx_cons_succ]
    exact (List.Perm.swap a v _).trans ((erase_perm (by simpa using h)).cons a)
def spRow : SpD := fun ds P _ => ∃ n : Nat, ds = [.drw, .int (n : Int)] ∧ n ≤ 40 ∧ ∀ r : List Nat, r.Perm (List.range n) → P (intsD r)
abbrev N41 : List PySem.Str := ["_law_draws_here", "_law_size", "_law_left", "_law_row_here", "_law_k"]
theorem body_row {X : Cx} (c : CtxT X N41 (defScope (top 41))) {k : Nat} (hr : Room k X.A) (bi : Bi X.mg) (fTake : FnD X.prog X.w X.K X.mg X.base "_law_take" k spTake) : BodyOk X N41 spRow (defBody (top 41)) := by
  intro ds P R h B0 H0 air
  obtain ⟨n, rfl, hn, hp⟩ := h
  refine go_cons (g1_asgO c.toCtxD 2 (el_listRng c.toCtx bi.list bi.range (ex_var c.toCtx 1 ⟨n, rfl, by omega, fun q => ?_⟩)))
  have e0 : rngD 0 n = intl (List.range n) := by simp [rngD, intl]
  rw [e0]
  refine go_cons (g1_asgO c.toCtxD 3 (el_lst (ea_nil ⟨by decide, fun p => ?_⟩)))
  refine go_cut (fun sds os => ∃ (x : SD) (r m : List Nat), sds = [.d .drw, .d (.int (n : Int)), .v (.ref q), .v (.ref p), x] ∧ os = [(p, .lst (intl r)), (q, .lst (intl m))] ∧ (r ++ m).Perm (List.range n) ∧ r.length = n) (g1_for (t := .nm 4) c.own c.calm (tg_nm c.toCtxD 4) (ix_range1 c.toCtx bi.range (ex_var c.toCtx 1 ⟨(n : Int), rfl, by omega, by omega, ?_⟩))) ?_
  · rw [rng0]
    refine forOk_rng (fun i sds os => ∃ (x : SD) (r m : List Nat), sds = [.d .drw, .d (.int (n : Int)), .v (.ref q), .v (.ref p), x] ∧ os = [(p, .lst (intl r)), (q, .lst (intl m))] ∧ (r ++ m).Perm (List.range n) ∧ r.length = i) ⟨_, [], List.range n, rfl, rfl, by simp, rfl⟩ ?_ fun _ _ h => h
    rintro i sds os hi ⟨x, r, m, rfl, rfl, hpm, hl⟩
    have hml : m.length = n - i := by
      have := hpm.length_eq
      simp at this; omega
    refine go_cons (g1_appendPop (l := intl r) (m := intl m) c.toCtx 3 0 2 1 (ex_take c.toCtx fTake hr 0 (ex_borrow 2 1 (ex_len c.toCtx bi.len (ex_var c.toCtx 2 ⟨_, lenL, ⟨rfl, (intl m).length, rfl, by rw [intl_len]; omega, fun u hu => ⟨u, rfl, hu, by rw [intl_len] at hu; omega, by rw [intl_len]; omega, fun z hz => ?_⟩⟩⟩)))) (by decide))
    rw [List.getElem?_map] at hz
    cases hq : m[u]? with
    | none => rw [hq] at hz; cases hz
    | some v =>
      rw [hq] at hz
      cases hz
      obtain ⟨hul, hv⟩ := List.getElem?_eq_some_iff.mp hq
      refine go_nil ⟨_, r ++ [v], m.eraseIdx u, rfl, ?_, ?_, by simp [hl]⟩
      · have e1 : (intl m).eraseIdx u = intl (m.eraseIdx u) := erase_map _ _ _
        rw [e1]
        simp [intl]
      · have h1 : (v :: m.eraseIdx u).Perm m := erase_perm hq
        rw [List.append_assoc]
        exact ((List.Perm.append_left r h1)).trans hpm
  rintro sds os ⟨x, r, m, rfl, rfl, hpm, hl⟩
  have hm : m = [] := by
    have := hpm.length_eq
    simp at this
    exact List.eq_nil_of_length_eq_zero (by omega)
  subst hm
  rw [List.append_nil] at hpm
  refine go_freeze 3 0 ?_
  exact go_cons (g1_ret (ex_var c.toCtx 3 (hp r hpm)))
end OB
set_option Elab.async false
set_option linter.all false
set_option maxRecDepth 100000
set_option maxHeartbeats 4000000
namespace OB
open PySem PySem.Spec PyProof.Rows L2
theorem intsD_eq (r : List Nat) : intsD r = .lst ((r.map fun (i : Nat) => (i : Int)).map .int) := by unfold intsD; rw [List.map_map] <;> rfl
theorem idx_lt {n : Nat} {r : List Nat} (h : r.Perm (List.range n)) {a : Nat} (ha : a < n) : r.idxOf a < r.length ∧ r[r.idxOf a]? = some a ∧ ∀ m, m < r.idxOf a → r[m]? ≠ some a := by
  have hm : a ∈ r := h.mem_iff.mpr (List.mem_range.mpr ha)
  have hl := List.idxOf_lt_length_of_mem hm
  refine ⟨hl, ?_, fun m hm' e => ?_⟩
  · rw [List.getElem?_eq_getElem hl, List.getElem_idxOf hl]
  · obtain ⟨h1, h2⟩ := List.getElem?_eq_some_iff.mp e
    have nd : r.Nodup := h.nodup_iff.mpr List.nodup_range
    have e3 : r[m] = r[r.idxOf a] := by rw [h2, List.getElem_idxOf hl]
    have := (List.getElem_inj nd).mp e3
    omega
theorem ex_indexN {X : Cx} {N : List PySem.Str} {S : Scope} {B0 H0 : Hp} {sds : List SD} {os : List (Addr × OV)} {P : D → Prop} {a b : Expr} {pos pa : Pos} (c : Ctx X N S) {k : Nat} (hr : Room k X.A) {n : Nat} {r : List Nat} (hp : r.Perm (List.range n)) {u : Nat} (hu : u < n) (ha : EX X B0 H0 sds os a (· = intsD r)) (hb : EX X B0 H0 sds os b (· = .int (u : Int))) (p : P (.int ((r.idxOf u : Nat) : Int)))
    (hbase : attributeBase a "index" X.env (eval a X.env) = eval a X.env := by rfl)
    (hfew : ((backTo pos (starEach [b] X.env)).all (fun x => !x.1) && (backToKw pos (keywordEach [] X.env)).all (fun x => x.1.isSome)
      && decide ([b].length + ([] : List Keyword).length + (if ([] : List Keyword).isEmpty then 0 else 1) < 30)) = true := by rfl)
    (hline : (pa.endLine == pos.line) = true := by rfl) (hst : starEach [b] X.env = [(false, eval b X.env)] := by rfl) : EX X B0 H0 sds os (.Call (.Attribute a "index" pa) [b] [] pos) P := by
  obtain ⟨h1, h2, h3⟩ := idx_lt hp hu
  refine ex_indexI c hr (ha.imp fun d e => ⟨_, e.trans (intsD_eq r), hb.imp fun d' e' => ⟨(u : Int), r.idxOf u, e', by rw [List.getElem?_map, h2] <;> rfl, fun m hm e2 => ?_, p⟩⟩) hbase hfew hline hst
  rw [List.getElem?_map] at e2
  cases hq : r[m]? with
  | none => rw [hq] at e2; cases e2
  | some v =>
    rw [hq] at e2
    have e3 : (v : Int) = (u : Int) := by simpa using e2
    exact h3 m hm (by rw [hq]; congr 1; omega)
theorem go_forget {X : Cx} {B0 H0 : Hp} {sds : List SD} {os : List (Addr × OV)} {E : DE} {sts : List Stmt} (i : Nat) (h : Go X B0 H0 (sds.set i .un) os E sts) : Go X B0 H0 sds os E sts := fun A B H σ ea s => by
  refine h A B H σ ea ⟨s.g, ⟨by rw [List.length_set]; exact s.sl.len, fun j sd q => ?_⟩, s.ow, s.fr, s.nd⟩
  by_cases hj : i = j
  · subst hj
    have hl : i < sds.length := by
      have := (List.getElem?_eq_some_iff.mp q).1
      rwa [List.length_set] at this
    rw [List.getElem?_set_self hl] at q
    cases q
    trivial
  · rw [List.getElem?_set_ne hj] at q
    exact s.sl.at' j sd q
def spAgree : SpD := fun ds P _ => ∃ (n : Nat) (rows : List (List Nat)), ds = [.lst (rows.map intsD)] ∧ n ≤ 40 ∧ rows ≠ [] ∧ rows.length ≤ 100 ∧ (∀ r ∈ rows, r.Perm (List.range n)) ∧ ∀ g, Sym g → P (webD n g)
def waysOf (rows : List (List Nat)) (a b : Nat) : List Bool := rows.map fun r => decide (r.idxOf a < r.idxOf b)
def agrG (n : Nat) (rows : List (List Nat)) : Nat → Nat → Bool := fun a b => decide (a < n) && (decide (b < n) && (decide (a ≠ b) && ((waysOf rows a b).all id || !(waysOf rows a b).any id)))
theorem sym_agr {n : Nat} {rows : List (List Nat)} (h : ∀ r ∈ rows, r.Perm (List.range n)) : Sym (agrG n rows) := by
  refine ⟨fun a b => ?_, fun a => by simp [agrG]⟩
  by_cases ha : a < n
  · by_cases hb : b < n
    · by_cases e : a = b
      · subst e; rfl
      · have key : ∀ rows : List (List Nat), (∀ r ∈ rows, r.Perm (List.range n)) → (waysOf rows a b).all id = !(waysOf rows b a).any id ∧ (waysOf rows b a).all id = !(waysOf rows a b).any id := by
          intro rows
          induction rows with
          | nil => intro _; exact ⟨rfl, rfl⟩
          | cons r rs ih =>
            intro hr
            obtain ⟨i1, i2⟩ := ih fun r hm => hr r (List.mem_cons_of_mem _ hm)
            have hp := hr r (by simp)
            have hne : r.idxOf a ≠ r.idxOf b := fun q => by
              obtain ⟨_, q1, _⟩ := idx_lt hp ha
              obtain ⟨_, q2, _⟩ := idx_lt hp hb
              rw [q, q2] at q1
              exact e (by simpa using q1.symm)
            have hd : decide (r.idxOf a < r.idxOf b) = !decide (r.idxOf b < r.idxOf a) := by
              by_cases q : r.idxOf a < r.idxOf b
              · have : ¬ r.idxOf b < r.idxOf a := by omega
                simp [q, this]
              · have : r.idxOf b < r.idxOf a := by omega
                simp [q, this]
            have hd2 : decide (r.idxOf b < r.idxOf a) = !decide (r.idxOf a < r.idxOf b) := by rw [hd, Bool.not_not]
            unfold waysOf at i1 i2 ⊢
            refine ⟨?_, ?_⟩
            · rw [List.map_cons, List.map_cons, List.all_cons, List.any_cons, i1, Bool.not_or, id, id, hd]
            · rw [List.map_cons, List.map_cons, List.all_cons, List.any_cons, i2, Bool.not_or, id, id, hd2]
        obtain ⟨k1, k2⟩ := key rows h
        unfold agrG
        rw [k1, k2, Bool.or_comm]
        simp [ha, hb, e, eq_comm]
    · simp [agrG, hb]
  · simp [agrG, ha]
abbrev N50 : List PySem.Str := ["_law_rows", "_law_size", "_law_near_here", "_law_a", "_law_b", "_law_ways", "_law_row_here"]
theorem body_agree {X : Cx} (c : CtxT X N50 (defScope (top 50))) {k : Nat} (hr : Room k X.A) (W : Ws X.prog X.w X.K X.mg X.base k) : BodyOk X N50 spAgree (defBody (top 50)) := by
  intro ds P R h B0 H0 air
  obtain ⟨n, rows, rfl, hn, hne, hlr, hrows, hp⟩ := h
  obtain ⟨r0, hr0⟩ : ∃ r0, rows[0]? = some r0 := by cases rows with
    | nil => exact absurd rfl hne
    | cons r _ => exact ⟨r, rfl⟩
  have hl0 : r0.length = n := by simpa using (hrows r0 (List.mem_of_getElem? hr0)).length_eq
  refine go_cons (g1_asg c.toCtxD 1 (ex_len c.toCtx W.bi.len (ex_ix (ex_var c.toCtx 0 (ex_int ⟨0, rfl, ixL 0 (by rw [List.getElem?_map, hr0] <;> rfl) ⟨_, len_ints, ?_⟩⟩)))))
  rw [hl0]
  refine go_cons (g1_asgM c.toCtxD 2 (em_call c.toCtx W.blank hr (ea_cons (ex_var c.toCtx 1 (ea_nil ⟨n, rfl, by omega, fun p rs => ?_⟩)))))
  refine go_cons (g1_two c n n (fun x y => [.d (.lst (rows.map intsD)), .d (.int (n : Int)), .v (.ref p), x, y, .un, .un]) (fun k j os => ∃ h, Fil n (agrG n rows) k j h ∧ os = [(p, .mat rs (matOf n h))]) (ia := 3) (ib := 4) ⟨_, Fil.zero, rfl⟩ (tg_nm c.toCtxD 3) (tg_nm c.toCtxD 4) ?_ ?_ ?_ ?_ ?_)
  · intro Q hQ
    exact ix_range1 c.toCtx W.bi.range (ex_var c.toCtx 1 ⟨(n : Int), rfl, by omega, by omega, by rw [rngI]; exact hQ⟩)
  · intro k os y hk hI Q hQ
    exact ix_range1 c.toCtx W.bi.range (ex_var c.toCtx 1 ⟨(n : Int), rfl, by omega, by omega, by rw [rngI]; exact hQ⟩)
  · rintro k j os hk hj ⟨h, f, rfl⟩ E' hE
    refine go_cons (g1_setLc0 c.toCtxD 5 [("_law_row_here", 6)] (.nm 6) (fun X' b => tb_nm (b.ctx c.toCtx) 6) (ix_list (ex_var c.toCtx 0 ⟨_, rfl, List Nat, rows, intsD, fun r => .bl (decide (r.idxOf k < r.idxOf j)), rfl, by omega, fun r hm X' b => ?_, ?_⟩)))
    · exact ex_ltI (ex_indexN (b.ctx c.toCtx) (b.room hr) (hrows r hm) hk (ex_var (b.ctx c.toCtx) 6 rfl) (ex_var (b.ctx c.toCtx) 3 rfl) ⟨_, rfl, ex_indexN (b.ctx c.toCtx) (b.room hr) (hrows r hm) hj (ex_var (b.ctx c.toCtx) 6 rfl) (ex_var (b.ctx c.toCtx) 4 rfl) ⟨_, rfl, congrArg D.bl (decide_eq_decide.mpr Int.ofNat_lt)⟩⟩)
    have ew : (rows.map fun r => D.bl (decide (r.idxOf k < r.idxOf j))) = (waysOf rows k j).map .bl := by unfold waysOf; rw [List.map_map] <;> rfl
    rw [ew]
    refine go_cons (g1_if (tx_w (wx_and (k1 := decide (k ≠ j)) (k2 := (waysOf rows k j).all id || !(waysOf rows k j).any id) (tx_neI (ex_var c.toCtx 3 ⟨_, rfl, ex_var c.toCtx 4 ⟨_, rfl, ?_⟩⟩)) (fun _ => tx_and1 (tx_w (wx_or (tx_val (ex_allB c.toCtx W.bi.all (ex_var c.toCtx 5 ⟨_, rfl, _, rfl, rfl⟩))) (fun _ => tx_or1 (tx_not (tx_val (ex_anyB c.toCtx W.bi.any (ex_var c.toCtx 5 ⟨_, rfl, _, rfl, rfl⟩))))) rfl))) ?_)))
    · by_cases e : k = j <;> simp [e, Int.ofNat_inj]
    refine ⟨fun ht => ?_, fun ht => ?_⟩
    · refine go_cons (g1_setM c.toCtx 2 0 (ex_int (ex_var c.toCtx 3 ⟨k, _, rfl, matOf_get hk, ex_var c.toCtx 4 ⟨j, rfl, by rw [rowOf_len]; exact hj, ?_⟩⟩)))
      rw [matOf_set1 hk hj]
      exact go_nil (go_forget 5 (go_nil (hE _ ⟨_, f.set (by unfold agrG; rw [ht]; simp [hk, hj]), rfl⟩)))
    · exact go_nil (go_forget 5 (go_nil (hE _ ⟨_, f.keep (by unfold agrG; rw [ht]; simp), rfl⟩)))
  · rintro k os hk ⟨h, f, rfl⟩
    exact ⟨h, f.row, rfl⟩
  · rintro x y os ⟨h, f, rfl⟩
    refine go_freezeM 2 0 ?_
    refine go_cons (g1_ret (ex_var c.toCtx 2 ?_))
    have e := f.done
    unfold webD at e
    rw [e]
    exact hp _ (sym_agr hrows)
end OB
set_option Elab.async false
set_option linter.all false
set_option maxRecDepth 100000
set_option maxHeartbeats 4000000
namespace OB
open PySem PySem.Spec PyProof.Rows L2
abbrev N56 : List PySem.Str := ["_law_draws_here", "_law_most", "_law_word"]
theorem body_edge {X : Cx} (c : CtxT X N56 (defScope (top 56))) {k : Nat} (hr : Room k X.A) (W : Ws X.prog X.w X.K X.mg X.base k) : BodyOk X N56 (spWeb 4) (defBody (top 56)) := by
  intro ds P R h B0 H0 air
  obtain ⟨m, rfl, hm, hm2, hp⟩ := h
  refine go_cons (g1_asg c.toCtxD 2 (ex_take c.toCtx W.take hr 0 (ex_int ⟨6, rfl, by decide, fun w _ => ?_⟩)))
  refine go_cons (g1_if (tx_w (wx_and (tx_eqI (ex_var c.toCtx 2 ⟨_, rfl, ex_int ⟨_, rfl, rfl⟩⟩)) (fun _ => tx_and1 (tx_geI (ex_var c.toCtx 1 ⟨_, rfl, ex_int ⟨_, rfl, rfl⟩⟩))) ⟨fun ht => ?_, fun _ => go_nil ?_⟩)))
  · have h5 : 5 ≤ m := by simp at ht; omega
    exact go_cons (g1_ret (ex_call c.toCtx W.round hr (ea_cons (ex_int (ea_nil ⟨5, rfl, by decide, by decide, fun g hs => hp 5 g (by decide) h5 hs⟩)))))
  refine go_cons (g1_if (tx_eqI (ex_var c.toCtx 2 ⟨_, rfl, ex_int ⟨_, rfl, ⟨fun _ => ?_, fun _ => go_nil ?_⟩⟩⟩)))
  · exact go_cons (g1_ret (ex_ofM (em_call c.toCtx W.blank hr (ea_cons (ex_int (ea_nil ⟨1, rfl, by decide, hp 1 _ (by decide) (by omega) sym0⟩))))))
  have em : ((m : Int) - 1) = ((m - 1 : Nat) : Int) := by omega
  refine go_cons (g1_if (tx_eqI (ex_var c.toCtx 2 ⟨_, rfl, ex_int ⟨_, rfl, ⟨fun _ => ?_, fun _ => go_nil ?_⟩⟩⟩)))
  · exact go_cons (g1_ret (ex_ofM (em_call c.toCtx W.blank hr (ea_cons (ex_addI (ex_int ⟨_, rfl, ex_take c.toCtx W.take hr 0 (ex_subI (ex_var c.toCtx 1 ⟨_, rfl, ex_int ⟨_, rfl, ⟨m - 1, by rw [em], by omega, fun r hr' => ⟨_, rfl, ea_nil ⟨2 + r, by simp, by omega, hp (2 + r) _ (by omega) (by omega) sym0⟩⟩⟩⟩⟩))⟩))))))
  refine go_cons (g1_if (tx_eqI (ex_var c.toCtx 2 ⟨_, rfl, ex_int ⟨_, rfl, ⟨fun _ => ?_, fun _ => go_nil ?_⟩⟩⟩)))
  · exact go_cons (g1_ret (ex_call c.toCtx W.con hr (ea_cons (ex_ofM (em_call c.toCtx W.blank hr (ea_cons (ex_addI (ex_int ⟨_, rfl, ex_take c.toCtx W.take hr 0 (ex_int ⟨3, rfl, by decide, fun r hr' => ⟨_, rfl, ea_nil ⟨2 + r, by simp, by omega, ea_nil ⟨2 + r, _, rfl, by omega, hp (2 + r) _ (by omega) (by omega) (sym_con sym0)⟩⟩⟩⟩)⟩))))))))
  refine go_cons (g1_if (tx_w (wx_and (tx_eqI (ex_var c.toCtx 2 ⟨_, rfl, ex_int ⟨_, rfl, rfl⟩⟩)) (fun _ => tx_and1 (tx_geI (ex_var c.toCtx 1 ⟨_, rfl, ex_int ⟨_, rfl, rfl⟩⟩))) ⟨fun ht => ?_, fun _ => go_nil ?_⟩)))
  · have h6 : 6 ≤ m := by simp at ht; omega
    exact go_cons (g1_ret (ex_call c.toCtx W.con hr (ea_cons (ex_call c.toCtx W.round hr (ea_cons (ex_int (ea_nil ⟨6, rfl, by decide, by decide, fun g hs => ea_nil ⟨6, g, rfl, by decide, hp 6 _ (by decide) h6 (sym_con hs)⟩⟩)))))))
  refine go_cons (g1_if (tx_w (wx_and (tx_eqI (ex_var c.toCtx 2 ⟨_, rfl, ex_int ⟨_, rfl, rfl⟩⟩)) (fun _ => tx_and1 (tx_geI (ex_var c.toCtx 1 ⟨_, rfl, ex_int ⟨_, rfl, rfl⟩⟩))) ⟨fun ht => ?_, fun _ => go_nil ?_⟩)))
  · have h6 : 6 ≤ m := by simp at ht; omega
    refine go_cons (g1_ret (ex_call c.toCtx W.graft hr (ea_cons (ex_call c.toCtx W.round hr (ea_cons (ex_int (ea_nil ⟨5, rfl, by decide, by decide, fun g hs => ea_cons (ex_take c.toCtx W.take hr 0 (ex_int ⟨5, rfl, by decide, fun t ht => ea_cons (ex_call c.toCtx W.near hr (ea_cons (ex_int (ea_cons (ex_ofL (el_lst (ea_nil ⟨le0, ea_nil ⟨2, [], rfl, by decide, by simp, fun g2 hs2 => ?_⟩⟩)))))))⟩))⟩)))))))
    exact ea_nil ⟨5, 2, t, g, g2, rfl, by decide, by decide, ht, hs, hs2, fun q hq => hp 6 q (by decide) h6 hq⟩
  exact go_cons (g1_ret (ex_call c.toCtx W.path hr (ea_cons (ex_int (ea_nil ⟨4, rfl, by decide, by decide, fun g hs => hp 4 g (by decide) hm hs⟩)))))
end OB
set_option Elab.async false
set_option linter.all false
set_option maxRecDepth 100000
set_option maxHeartbeats 4000000
namespace OB
open PySem PySem.Spec PyProof.Rows L2
structure Ws2 (P : Program) (w : World) (K : PySem.W.Frag) (mg : PySem.Str → Option Value) (base : Heap) (k : Nat) : Prop extends Ws P w K mg base k where
  row : FnD P w K mg base "_law_row" k spRow
  nested : FnD P w K mg base "_law_nested" k (spWeb 4)
  agree : FnD P w K mg base "_law_agree" k spAgree
  any : FnD P w K mg base "_law_any_ties" k spAny
  spans : FnD P w K mg base "_law_spans" k spSpans
  meeting : FnD P w K mg base "_law_meeting" k spMeeting
  edge : FnD P w K mg base "_law_edge" k (spWeb 4)
  renamed : FnD P w K mg base "_law_renamed" k spRenamed
abbrev N57 : List PySem.Str := ["_law_draws_here", "_law_most", "_law_word", "_law_size", "_law_near_here"]
theorem body_web {X : Cx} (c : CtxT X N57 (defScope (top 57))) {k : Nat} (hr : Room k X.A) (W : Ws2 X.prog X.w X.K X.mg X.base k) : BodyOk X N57 (spWeb 4) (defBody (top 57)) := by
  intro ds P R h B0 H0 air
  obtain ⟨m, rfl, hm, hm2, hp⟩ := h
  have em : ((m : Int) - 1) = ((m - 1 : Nat) : Int) := by omega
  refine go_cons (g1_asg c.toCtxD 2 (ex_take c.toCtx W.take hr 0 (ex_int ⟨8, rfl, by decide, fun w _ => ?_⟩)))
  refine go_cons (g1_asg c.toCtxD 3 (ex_addI (ex_int ⟨_, rfl, ex_take c.toCtx W.take hr 0 (ex_subI (ex_var c.toCtx 1 ⟨_, rfl, ex_int ⟨_, rfl, ⟨m - 1, by rw [em], by omega, fun r hr' => ⟨_, rfl, ?_⟩⟩⟩⟩))⟩)))
  have es : (2 + (r : Int)) = ((2 + r : Nat) : Int) := by omega
  rw [es]
  generalize hsz : 2 + r = s
  refine go_cut (fun sds os => os = [] ∧ ∃ n g, 1 ≤ n ∧ n ≤ m ∧ Sym g ∧ sds = [.d .drw, .d (.int (m : Int)), .d (.int (w : Int)), .d (.int (s : Int)), .d (webD n g)]) ?_ ?_
  · refine g1_if (tx_leI (ex_var c.toCtx 2 ⟨_, rfl, ex_int ⟨_, rfl, ⟨fun _ => ?_, fun _ => go_cons ?_⟩⟩⟩))
    · exact go_cons (g1_asg c.toCtxD 4 (ex_call c.toCtx W.nested hr (ea_cons (ex_var c.toCtx 0 (ea_cons (ex_var c.toCtx 1 (ea_nil ⟨m, rfl, hm, hm2, fun n g h1 h2 hs => go_nil ⟨rfl, n, g, h1, h2, hs, rfl⟩⟩)))))))
    refine g1_if (tx_eqI (ex_var c.toCtx 2 ⟨_, rfl, ex_int ⟨_, rfl, ⟨fun _ => ?_, fun _ => go_cons ?_⟩⟩⟩))
    · refine go_cons (g1_asg c.toCtxD 4 (ex_call c.toCtx W.agree hr (ea_cons (ex_ofL (el_lst (ea_cons (ex_call c.toCtx W.row hr (ea_cons (ex_var c.toCtx 0 (ea_cons (ex_var c.toCtx 3 (ea_nil ⟨s, rfl, by omega, fun r1 p1 => ?_⟩))))))))))))
      refine ea_cons (ex_call c.toCtx W.row hr (ea_cons (ex_var c.toCtx 0 (ea_cons (ex_var c.toCtx 3 (ea_nil ⟨s, rfl, by omega, fun r2 p2 => ?_⟩))))))
      refine ea_nil ⟨le2, ea_nil ⟨s, [r1, r2], rfl, by omega, by simp, by simp, by simp [p1, p2], fun g hs => go_nil (go_nil ⟨rfl, s, g, by omega, by omega, hs, rfl⟩)⟩⟩
    refine g1_if (tx_eqI (ex_var c.toCtx 2 ⟨_, rfl, ex_int ⟨_, rfl, ⟨fun _ => ?_, fun _ => go_cons ?_⟩⟩⟩))
    · refine go_cons (g1_asg c.toCtxD 4 (ex_call c.toCtx W.agree hr (ea_cons (ex_ofL (el_lst (ea_cons (ex_call c.toCtx W.row hr (ea_cons (ex_var c.toCtx 0 (ea_cons (ex_var c.toCtx 3 (ea_nil ⟨s, rfl, by omega, fun r1 p1 => ?_⟩))))))))))))
      refine ea_cons (ex_call c.toCtx W.row hr (ea_cons (ex_var c.toCtx 0 (ea_cons (ex_var c.toCtx 3 (ea_nil ⟨s, rfl, by omega, fun r2 p2 => ?_⟩))))))
      refine ea_cons (ex_call c.toCtx W.row hr (ea_cons (ex_var c.toCtx 0 (ea_cons (ex_var c.toCtx 3 (ea_nil ⟨s, rfl, by omega, fun r3 p3 => ?_⟩))))))
      refine ea_nil ⟨le3, ea_nil ⟨s, [r1, r2, r3], rfl, by omega, by simp, by simp, by simp [p1, p2, p3], fun g hs => go_nil (go_nil (go_nil ⟨rfl, s, g, by omega, by omega, hs, rfl⟩))⟩⟩
    refine g1_if (tx_eqI (ex_var c.toCtx 2 ⟨_, rfl, ex_int ⟨_, rfl, ⟨fun _ => ?_, fun _ => go_cons ?_⟩⟩⟩))
    · refine go_cons (g1_asg c.toCtxD 4 (ex_call c.toCtx W.any hr (ea_cons (ex_var c.toCtx 0 (ea_cons (ex_min2 c.toCtx W.bi.min (ex_var c.toCtx 3 ⟨_, rfl, ex_int ⟨_, rfl, ?_⟩⟩)))))))
      have e6 : (if (6 : Int) < (s : Int) then (6 : Int) else (s : Int)) = ((min s 6 : Nat) : Int) := by
        by_cases h : s ≤ 6
        · rw [if_neg (by omega), Nat.min_eq_left h]
        · rw [if_pos (by omega), Nat.min_eq_right (by omega)] <;> rfl
      rw [e6]
      exact ea_nil ⟨min s 6, rfl, by omega, by omega, fun g hs => go_nil (go_nil (go_nil (go_nil ⟨rfl, min s 6, g, by omega, by omega, hs, rfl⟩)))⟩
    refine g1_if (tx_eqI (ex_var c.toCtx 2 ⟨_, rfl, ex_int ⟨_, rfl, ⟨fun _ => ?_, fun _ => ?_⟩⟩⟩))
    · exact go_cons (g1_asg c.toCtxD 4 (ex_call c.toCtx W.meeting hr (ea_cons (ex_call c.toCtx W.spans hr (ea_cons (ex_var c.toCtx 0 (ea_cons (ex_var c.toCtx 3 (ea_nil ⟨s, rfl, by omega, fun l hl => ea_nil ⟨l, rfl, by omega, fun g hs => go_nil (go_nil (go_nil (go_nil (go_nil ⟨rfl, l.length, g, by omega, by omega, hs, rfl⟩))))⟩⟩)))))))))
    · exact go_cons (g1_asg c.toCtxD 4 (ex_call c.toCtx W.edge hr (ea_cons (ex_var c.toCtx 0 (ea_cons (ex_var c.toCtx 1 (ea_nil ⟨m, rfl, hm, hm2, fun n g h1 h2 hs => go_nil (go_nil (go_nil (go_nil (go_nil ⟨rfl, n, g, h1, h2, hs, rfl⟩))))⟩)))))))
  rintro sds os ⟨rfl, n, g, h1, h2, hs, rfl⟩
  exact go_cons (g1_ret (ex_call c.toCtx W.renamed hr (ea_cons (ex_var c.toCtx 4 (ea_cons (ex_call c.toCtx W.row hr (ea_cons (ex_var c.toCtx 0 (ea_cons (ex_len c.toCtx W.bi.len (ex_var c.toCtx 4 ⟨n, web_len, ea_nil ⟨n, rfl, by omega, fun q hq => ea_nil ⟨n, g, q, rfl, by omega, hq, hs, fun g' hs' => hp n g' h1 h2 hs'⟩⟩⟩)))))))))))
end OB
set_option Elab.async false
set_option linter.all false
set_option maxRecDepth 100000
set_option maxHeartbeats 4000000
namespace OB
open PySem PySem.Spec PyProof.Rows L2
section
variable {X : Cx} {N : List PySem.Str} {S scope : Scope} {B0 H0 : Hp} {sds : List SD} {os : List (Addr × OV)} {E : DE} {pos p px p2 p3 : Pos} {a b e : Expr} {P : D → Prop} {k : Nat}
theorem ex_powI (h : EX X B0 H0 sds os a fun da => ∃ i, da = .int i ∧ EX X B0 H0 sds os b fun db => ∃ j, db = .int j ∧ CPow i j ∧ P (.int (i ^ j.toNat))) : EX X B0 H0 sds os (.BinOp a .Pow b pos) P :=
  ex_bin op_pow (h.imp fun d ⟨i, e1, k⟩ => k.imp fun d' ⟨j, e2, hc, hp⟩ => by subst e1; subst e2; exact opd_I (fun B i j => .int _) hc hp)
theorem sqL_mono {K : PySem.W.Frag} {H H' : Hp} {a : Addr} {xs : List V} (h : SqL K H a xs) (e : Ex H H') : SqL K H' a xs := by
  rcases h with (h | ⟨o, h⟩) | h
  · exact .inl (.inl (e _ _ h))
  · exact .inl (.inr ⟨o, e _ _ h⟩)
  · exact .inr h
theorem cut_ints (ns : List Int) (lo hi : Option Int) : ∃ ms : List Int, cutV (ns.map V.int) lo hi = ms.map V.int ∧ ms.length ≤ ns.length := by
  unfold cutV
  rw [← List.map_drop, ← List.map_take]
  refine ⟨_, rfl, ?_⟩
  rw [List.length_take, List.length_drop]
  omega
theorem el_scr (c : Ctx X N S) (i : Nat) {x : PySem.Str} {ad : Addr} {ns : List Int} {z : Int} {j : Nat} {P : List D → Prop} (hq : SqL X.K H0 ad (ns.map V.int)) (h : ∀ ms : List Int, ms.length ≤ ns.length → P (ms.map .int)) (hi : sds[i]? = some (.v (.ref ad)) := by rfl)
    (hN : N[i]? = some x := by rfl) (hv : visB S x = true := by decide +kernel) (hd : (x == ("__debug__" : PySem.Str)) = false := by decide +kernel) (hcd : (x == ("__classdict__" : PySem.Str)) = false := by decide +kernel) : EL X B0 H0 sds os (.Subscript (.Name x px) (.Slice none (some (.Constant (.int z) j p2)) none p3) pos) P := fun B H σ s Q q => by
  refine PE.to (pe_slice sl_list (pe_var (i := i) (by rw [c.hN]; exact hN) (c.vis hv) hd hcd) po_none (po_some pe_int)) ?_
  refine ⟨.ref ad, s.varV hi, z, rfl, ad, _, rfl, sqL_mono hq s.g.h, fun p hp => ?_⟩
  obtain ⟨ms, e, hl⟩ := cut_ints ns none (some z)
  rw [e]
  exact q p _ B _ _ (Grow.up s.g.bh (Evl.Ex.new hp)) hp (Evl.fresh_back s.g.bh hp) upd_same of_ints (h ms hl)
theorem isall_rev {K : PySem.W.Frag} {B : Hp} : ∀ {l : List D} {xs : List V}, IsAll K B xs l → IsAll K B xs.reverse l.reverse
  | [], _, .nil => .nil
  | d :: l, _, .cons h1 h2 => by rw [List.reverse_cons, List.reverse_cons]; exact (isall_rev h2).app (.cons h1 .nil)
theorem g1_reverse (c : Ctx X N S) (i j : Nat) {x : PySem.Str} {ad : Addr} {l : List D} {pa pc : Pos} (h : E.nx sds (os.set j (ad, .lst l.reverse))) (hj : os[j]? = some (ad, .lst l) := by rfl) (hi : sds[i]? = some (.v (.ref ad)) := by rfl)
    (hN : N[i]? = some x := by rfl) (hv : visB S x = true := by decide +kernel) (hd : (x == ("__debug__" : PySem.Str)) = false := by decide +kernel) (hcd : (x == ("__classdict__" : PySem.Str)) = false := by decide +kernel)
    (hs : swapsWith (.Call (.Attribute (.Name x px) "reverse" pa) [] [] pc) none pos.line X.env = pure false := by rfl) (hbase : attributeBase (.Name x px) "reverse" X.env (eval (.Name x px) X.env) = eval (.Name x px) X.env := by rfl) (hline : (pa.endLine == pc.line) = true := by rfl) :
    Go1 X B0 H0 sds os E (.Expr (.Call (.Attribute (.Name x px) "reverse" pa) [] [] pc) pos) := fun A B H σ ea s => by
  refine PS.to (ps_expr (pe_bm0 PySem.F.plainAttrs_list PySem.F.slot_list_reverse PySem.F.type_list_reverse mt_reverse (pe_var (i := i) (by rw [c.hN]; exact hN) (c.vis hv) hd hcd) hbase hline) hs) ?_
  obtain ⟨xs, hp, ha⟩ := s.ownAt hj
  refine ⟨.ref ad, s.varV hi, .inl ⟨rfl, _, SqL.of hp⟩, ad, xs, rfl, rfl, hp, ?_⟩
  exact ⟨B, _, _, ea, s.putAt hj (isall_rev ha), h⟩
end
def spDr (K : PySem.W.Frag) : Sp := fun vs H Q _ => ∃ (a : Addr) (ns : List Int) (B : Hp), vs = [.ref a] ∧ SqL K H a (ns.map V.int) ∧ ns.length ≤ 63 ∧ Ex B H ∧ ∀ v B' H', Grow B H B' H' → Is K B' v .drw → Q v H'
abbrev N39 : List PySem.Str := ["_law_script", "_law_draws_here", "_law_place", "_law_raw", "_law_cell", "_law_k", "_law_mixed"]
theorem body_draws {X : Cx} (c : CtxT X N39 (defScope (top 39))) (bi : Bi X.mg) {B0 H0 : Hp} {a : Addr} {ns : List Int} (hq : SqL X.K H0 a (ns.map V.int)) (hn : ns.length ≤ 63) : Go X B0 H0 [.v (.ref a), .un, .un, .un, .un, .un, .un] [] { rt := (· = .drw) } (defBody (top 39)) := by
  refine go_cons (g1_asgO c.toCtxD 1 (el_lst (ea_nil ⟨by decide, fun p => ?_⟩)))
  refine go_cons (g1_asg c.toCtxD 2 (ex_int ?_))
  refine go_cut (fun sds os => ∃ (x y z t u : SD) (l : List Int), sds = [.v (.ref a), .v (.ref p), x, y, z, t, u] ∧ os = [(p, .lst (l.map .int))]) (g1_for (t := .nm 3) c.own c.calm (tg_nm c.toCtxD 3) (ix_list (ex_ofL (el_scr c.toCtx 0 hq fun ms hms => ⟨_, rfl, ?_⟩)))) ?_
  · refine forOk_map (fun i sds os => ∃ (pl : Int) (y z t u : SD) (l : List Int), sds = [.v (.ref a), .v (.ref p), .d (.int pl), y, z, t, u] ∧ os = [(p, .lst (l.map .int))] ∧ l.length ≤ 60 * i) ⟨_, _, _, _, _, [], rfl, rfl, by simp⟩ ?_ ?_
    · rintro i x sds os hx ⟨pl, y, z, t, u, l, rfl, rfl, hl⟩
      have hi : i < ms.length := (List.getElem?_eq_some_iff.mp hx).1
      refine go_cons (g1_asg c.toCtxD 4 (ex_int1 c.toCtx bi.int (ex_var c.toCtx 3 ⟨x, rfl, ?_⟩)))
      refine go_cons (g1_asg c.toCtxD 2 (ex_addI (ex_var c.toCtx 2 ⟨_, rfl, ex_int ⟨_, rfl, ?_⟩⟩)))
      refine go_cut (fun sds os => ∃ x' : Int, sds = [.v (.ref a), .v (.ref p), .d (.int (pl + 1)), .d (.int x), .d (.int x'), t, u] ∧ os = [(p, .lst (l.map .int))]) (g1_if (tx_ltI (ex_var c.toCtx 4 ⟨_, rfl, ex_int ⟨_, rfl, ⟨fun _ => ?_, fun _ => go_nil ⟨_, rfl, rfl⟩⟩⟩⟩))) ?_
      · exact go_cons (g1_asg c.toCtxD 4 (ex_subI (ex_int ⟨_, rfl, ex_mulI (ex_int ⟨_, rfl, ex_var c.toCtx 4 ⟨_, rfl, .inl ⟨by decide, by decide⟩, ⟨_, rfl, go_nil ⟨_, rfl, rfl⟩⟩⟩⟩)⟩)))
      rintro sds os ⟨x', rfl, rfl⟩
      refine go_cons (g1_if (tx_geI (ex_var c.toCtx 4 ⟨_, rfl, ex_powI (ex_int ⟨_, rfl, ex_int ⟨_, rfl, ⟨by decide, by decide, by decide⟩, ⟨_, rfl, ⟨fun _ => ?_, fun _ => ?_⟩⟩⟩⟩)⟩)))
      · refine go_cons (g1_for (t := .nm 5) c.own c.calm (tg_nm c.toCtxD 5) (ix_range1 c.toCtx bi.range (ex_int ⟨60, rfl, by decide, by decide, ?_⟩)))
        rw [show rngD 0 (60 : Int).toNat = intsTo 60 from rngI 60]
        refine forOk_rng (fun j sds os => ∃ (x' : Int) (t : SD) (l' : List Int), sds = [.v (.ref a), .v (.ref p), .d (.int (pl + 1)), .d (.int x), .d (.int x'), t, u] ∧ os = [(p, .lst (l'.map .int))] ∧ l'.length ≤ 60 * i + j) ⟨_, _, l, rfl, rfl, by omega⟩ ?_ ?_
        · rintro j sds os hj ⟨x', t, l', rfl, rfl, hl'⟩
          refine go_cons (g1_if (tx_gtI (ex_var c.toCtx 4 ⟨_, rfl, ex_int ⟨_, rfl, ⟨fun _ => ?_, fun _ => go_nil (go_nil ⟨_, _, l', rfl, rfl, by omega⟩)⟩⟩⟩)))
          refine go_cons (g1_append c.toCtx 1 0 (ex_modI (ex_int1 c.toCtx bi.int (ex_var c.toCtx 4 ⟨_, rfl, ⟨_, rfl, ex_int ⟨_, rfl, by decide, ?_, ?_⟩⟩⟩))))
          · rw [List.length_map]; omega
          · refine go_cons (g1_asg c.toCtxD 4 (ex_divI (ex_var c.toCtx 4 ⟨_, rfl, ex_int ⟨_, rfl, ⟨by decide, by decide⟩, go_nil (go_nil ⟨_, _, l' ++ [x' % 24], rfl, by simp, by simp; omega⟩)⟩⟩)))
        · rintro sds os ⟨x', t, l', rfl, rfl, hl'⟩
          exact go_nil (go_nil ⟨_, _, _, _, _, l', rfl, rfl, by omega⟩)
      · refine go_cons (g1_asg c.toCtxD 6 (ex_modI (ex_int1 c.toCtx bi.int (ex_addI (ex_addI (ex_mulI (ex_var c.toCtx 4 ⟨_, rfl, ex_int ⟨_, rfl, .inr ⟨by decide, by decide⟩, ⟨_, rfl, ex_mulI (ex_var c.toCtx 2 ⟨_, rfl, ex_int ⟨_, rfl, .inr ⟨by decide, by decide⟩, ⟨_, rfl, ⟨_, rfl, ex_int ⟨_, rfl, ⟨_, rfl, ⟨_, rfl, ex_int ⟨_, rfl, by decide, ?_⟩⟩⟩⟩⟩⟩⟩⟩)⟩⟩⟩)))))))
        generalize hmx : (x' * 69069 + (pl + 1) * 40503 + 17) % 2147483629 = mx
        have hmx0 : 0 ≤ mx ∧ mx < 2147483629 := by rw [← hmx]; exact ⟨Int.emod_nonneg _ (by decide), Int.emod_lt_of_pos _ (by decide)⟩
        refine go_cons (g1_for (t := .nm 5) c.own c.calm (tg_nm c.toCtxD 5) (ix_range1 c.toCtx bi.range (ex_int ⟨5, rfl, by decide, by decide, ?_⟩)))
        rw [show rngD 0 (5 : Int).toNat = intsTo 5 from rngI 5]
        refine forOk_rng (fun j sds os => ∃ (t : SD) (mx : Int) (l' : List Int), sds = [.v (.ref a), .v (.ref p), .d (.int (pl + 1)), .d (.int x), .d (.int x'), t, .d (.int mx)] ∧ os = [(p, .lst (l'.map .int))] ∧ l'.length ≤ 60 * i + j ∧ 0 ≤ mx ∧ mx < 2147483629) ⟨_, mx, l, rfl, rfl, by omega, hmx0⟩ ?_ ?_
        · rintro j sds os hj ⟨t, mx, l', rfl, rfl, hl', h0, h1⟩
          refine go_cons (g1_asg c.toCtxD 6 (ex_modI (ex_int1 c.toCtx bi.int (ex_addI (ex_addI (ex_mulI (ex_var c.toCtx 6 ⟨_, rfl, ex_addI (ex_addI (ex_var c.toCtx 6 ⟨_, rfl, ex_mulI (ex_int ⟨_, rfl, ex_var c.toCtx 5 ⟨_, rfl, .inl ⟨by decide, by decide⟩, ⟨_, rfl, ⟨_, rfl, ex_int ⟨_, rfl, ⟨_, rfl, ?_, ⟨_, rfl, ex_mulI (ex_var c.toCtx 2 ⟨_, rfl, ex_int ⟨_, rfl, .inr ⟨by decide, by decide⟩, ⟨_, rfl, ⟨_, rfl, ex_int ⟨_, rfl, ⟨_, rfl, ⟨_, rfl, ex_int ⟨_, rfl, by decide, ?_⟩⟩⟩⟩⟩⟩⟩⟩)⟩⟩⟩⟩⟩⟩⟩)⟩))⟩)))))))
          · exact .inl ⟨by omega, by omega⟩
          generalize hmy : (mx * (mx + 2 * (j : Int) + 3) + (pl + 1) * 7919 + 11) % 2147483587 = my
          have hmy0 : 0 ≤ my ∧ my < 2147483629 := by
            rw [← hmy]
            exact ⟨Int.emod_nonneg _ (by decide), Int.lt_of_lt_of_le (Int.emod_lt_of_pos _ (by decide)) (by decide)⟩
          refine go_cons (g1_append c.toCtx 1 0 (ex_divI (ex_var c.toCtx 6 ⟨_, rfl, ex_int ⟨_, rfl, ⟨by decide, by decide⟩, ?_, go_nil ⟨_, my, l' ++ [my / 64], rfl, ?_, by simp; omega, hmy0⟩⟩⟩)))
          · rw [List.length_map]; omega
          · simp
        · rintro sds os ⟨t, mx, l', rfl, rfl, hl', h0, h1⟩
          exact go_nil (go_nil ⟨_, _, _, _, _, l', rfl, rfl, by omega⟩)
    · rintro sds os ⟨pl, y, z, t, u, l, rfl, rfl, hl⟩
      exact ⟨_, _, _, _, _, l, rfl, rfl⟩
  rintro sds os ⟨x, y, z, t, u, l, rfl, rfl⟩
  refine go_cons (g1_reverse c.toCtx 1 0 ?_)
  have er : (l.map D.int).reverse = l.reverse.map D.int := by rw [List.map_reverse]
  rw [er]
  exact go_cons (g1_retDrw c.toCtx 1 (ns := l.reverse) rfl)
end OB
set_option Elab.async false
set_option linter.all false
set_option maxRecDepth 100000
set_option maxHeartbeats 4000000
namespace OB
open PySem PySem.Spec PyProof.Rows L2
/-! ### looks at values -/
def whB : D → Bool
  | .int _ => true
  | _ => false
def isIntB : D → Bool
  | .int _ => true
  | .bl _ => true
  | _ => false
def isBlB : D → Bool
  | .bl _ => true
  | _ => false
def sevB : D → Bool
  | .lst _ => true
  | .tup _ => true
  | _ => false
def isLstB : D → Bool
  | .lst _ => true
  | _ => false
def isTupB : D → Bool
  | .tup _ => true
  | _ => false
def okT (d : D) : Prop := (tyN d).isSome = true
theorem okT_get {d : D} (h : okT d) : ∃ t, tyN d = some t := Option.isSome_iff_exists.mp h
theorem kit_int {d : D} {t : String} (h : tyN d = some t) : kitB t "int" = some (isIntB d) := by cases d <;> first | (cases h; rfl) | (cases h)
theorem kit_bool {d : D} {t : String} (h : tyN d = some t) : kitB t "bool" = some (isBlB d) := by cases d <;> first | (cases h; rfl) | (cases h)
theorem kit_list {d : D} {t : String} (h : tyN d = some t) : kitB t "list" = some (isLstB d) := by cases d <;> first | (cases h; rfl) | (cases h)
theorem kit_tuple {d : D} {t : String} (h : tyN d = some t) : kitB t "tuple" = some (isTupB d) := by cases d <;> first | (cases h; rfl) | (cases h)
def thB (n : Int) : D → Bool
  | .int i => decide (0 ≤ i) && decide (i < n)
  | _ => false
def seqD : D → Option (List D)
  | .lst l => some l
  | .tup l => some l
  | _ => none
/-- the two things of a pair -/
def pairOf (n : Int) (d : D) : Option (Int × Int) := match seqD d with
  | some [.int i, .int j] => if thB n (.int i) && thB n (.int j) && !decide (i = j) then some (i, j) else none
  | _ => none
theorem pairOf_some {n : Int} {d : D} {i j : Int} (h : pairOf n d = some (i, j)) : (d = .lst [.int i, .int j] ∨ d = .tup [.int i, .int j]) ∧ 0 ≤ i ∧ i < n ∧ 0 ≤ j ∧ j < n ∧ i ≠ j := by
  unfold pairOf at h
  split at h
  · rename_i i' j' e
    split at h
    · rename_i hc
      cases h
      refine ⟨?_, ?_⟩
      · cases d <;> simp [seqD] at e
        · exact .inl (by rw [e])
        · exact .inr (by rw [e])
      · simp [thB] at hc
        omega
    · cases h
  · cases h
section
variable {X : Cx} {N : List PySem.Str} {S scope : Scope} {B0 H0 : Hp} {sds : List SD} {os : List (Addr × OV)} {E : DE} {P : D → Prop} {pos p p1 p2 : Pos} {k : Nat} {a b e : Expr}
/-- a module's int -/
theorem ex_glI (c : Ctx X N S) {x : PySem.Str} {i : Int} (hm : ∃ t, X.mg x = some (.int i t)) (hp : P (.int i)) (hg : glB S x = true := by decide +kernel) (hd : (x == ("__debug__" : PySem.Str)) = false := by decide +kernel) : EX X B0 H0 sds os (.Name x pos) P := fun B H σ s Q q => by
  obtain ⟨t, hm⟩ := hm
  exact PE.to (pe_glob (v := .int i) (c.gl hg) hm ⟨t, rfl⟩ hd) (q _ B H _ (Grow.refl s.g.bh) (.int i) hp)
theorem ex_min1 (c : Ctx X N S) (hr : Room k X.A) (hm : X.mg "min" = none) (h : EX X B0 H0 sds os e fun d => ∃ i j : Int, d = .tup [.int i, .int j] ∧ P (.int (if j < i then j else i))) (hg : glB S "min" = true := by decide +kernel) (he : starEach [e] X.env = [(false, eval e X.env)] := by rfl) : EX X B0 H0 sds os (.Call (.Name "min" p) [e] [] pos) P :=
  ex_callB c (cr_minT c.calm hr) hm (ea_cons (h.imp fun d ⟨i, j, hn, hp⟩ => ea_nil fun B H vs eb iv Q q => by
    obtain ⟨v, rfl, jj⟩ := call1 iv
    subst hn
    cases jj with
    | tup hs ha =>
      have e2 := ints_of (bs := [i, j]) ha
      subst e2
      exact ⟨_, i, j, rfl, SqT.of (eb _ _ hs), q _ B H _ (Grow.refl eb) (.int _) hp⟩) he) hg (by decide +kernel) (by decide +kernel) (by decide +kernel) he rfl
theorem ex_max1 (c : Ctx X N S) (hr : Room k X.A) (hm : X.mg "max" = none) (h : EX X B0 H0 sds os e fun d => ∃ i j : Int, d = .tup [.int i, .int j] ∧ P (.int (if i < j then j else i))) (hg : glB S "max" = true := by decide +kernel) (he : starEach [e] X.env = [(false, eval e X.env)] := by rfl) : EX X B0 H0 sds os (.Call (.Name "max" p) [e] [] pos) P :=
  ex_callB c (cr_maxT c.calm hr) hm (ea_cons (h.imp fun d ⟨i, j, hn, hp⟩ => ea_nil fun B H vs eb iv Q q => by
    obtain ⟨v, rfl, jj⟩ := call1 iv
    subst hn
    cases jj with
    | tup hs ha =>
      have e2 := ints_of (bs := [i, j]) ha
      subst e2
      exact ⟨_, i, j, rfl, SqT.of (eb _ _ hs), q _ B H _ (Grow.refl eb) (.int _) hp⟩) he) hg (by decide +kernel) (by decide +kernel) (by decide +kernel) he rfl
end
/-! ### the package's looks -/
def spWhole : SpD := fun ds P _ => ∃ d, ds = [d] ∧ okT d ∧ P (.bl (whB d))
abbrev N9 : List PySem.Str := ["value"]
theorem body_is_whole {X : Cx} (c : CtxT X N9 (defScope (top 9))) (bi : Bi X.mg) : BodyOk X N9 spWhole (defBody (top 9)) := by
  intro ds P R h B0 H0 air
  obtain ⟨d, rfl, ok, hp⟩ := h
  obtain ⟨t, ht⟩ := okT_get ok
  refine go_cons (g1_ret (ex_andV (k1 := isIntB d) (k2 := !isBlB d) (ex_isi c.toCtx bi.isinstance bi.int (ex_var c.toCtx 0 ⟨t, _, ht, kit_int ht, rfl⟩)) (fun _ => ex_one (ex_not (ex_isi c.toCtx bi.isinstance bi.bool (ex_var c.toCtx 0 ⟨t, _, ht, kit_bool ht, _, rfl, rfl⟩)))) ?_))
  have e : (isIntB d && !isBlB d) = whB d := by cases d <;> rfl
  rw [e]; exact hp
def spThing : SpD := fun ds P _ => ∃ (n : Int) (d : D), ds = [.int n, d] ∧ okT d ∧ P (.bl (thB n d))
abbrev N10 : List PySem.Str := ["size", "value"]
theorem body_is_thing {X : Cx} (c : CtxT X N10 (defScope (top 10))) {k : Nat} (hr : Room k X.A) (fWhole : FnD X.prog X.w X.K X.mg X.base "is_whole" k spWhole) : BodyOk X N10 spThing (defBody (top 10)) := by
  intro ds P R h B0 H0 air
  obtain ⟨n, d, rfl, ok, hp⟩ := h
  refine go_cons (g1_ret (ex_andV (k1 := whB d) (k2 := thB n d) (ex_call c.toCtx fWhole hr (ea_cons (ex_var c.toCtx 1 (ea_nil ⟨d, rfl, ok, rfl⟩)))) (fun hw => ?_) ?_))
  · cases d with
    | int i => exact ex_one (ex_chainI op_le op_lt (ex_int ⟨_, rfl, ex_var c.toCtx 1 ⟨i, rfl, fun h0 => ex_var c.toCtx 0 ⟨n, rfl, by simp [thB]; exact fun _ => of_decide_eq_true h0⟩, fun h0 => by simp [thB, h0]⟩⟩))
    | _ => cases hw
  · have e : (whB d && thB n d) = thB n d := by cases d <;> rfl
    rw [e]; exact hp
def spSev : SpD := fun ds P _ => ∃ d, ds = [d] ∧ okT d ∧ P (.bl (sevB d))
theorem body_is_several {X : Cx} (c : CtxT X N9 (defScope (top 11))) (bi : Bi X.mg) : BodyOk X N9 spSev (defBody (top 11)) := by
  intro ds P R h B0 H0 air
  obtain ⟨d, rfl, ok, hp⟩ := h
  obtain ⟨t, ht⟩ := okT_get ok
  refine go_cons (g1_ret (ex_isi2 (tn := "list") (un := "tuple") c.toCtx bi.isinstance bi.list bi.tuple (ex_var c.toCtx 0 ⟨t, sevB d, ht, ?_, hp⟩)))
  rw [kit_list ht, kit_tuple ht]
  cases d <;> first | exact .inl ⟨rfl, rfl⟩ | exact .inr ⟨rfl, rfl⟩
def okP (d : D) : Prop := okT d ∧ ∀ l, seqD d = some l → ∀ x ∈ l, okT x
def spIsPair : SpD := fun ds P _ => ∃ (n : Int) (d : D), ds = [.int n, d] ∧ okP d ∧ P (.bl (pairOf n d).isSome)
theorem len_seq {d : D} {l : List D} (h : seqD d = some l) : LenD d l.length := by cases d <;> simp [seqD] at h <;> subst h <;> rfl
theorem ix_seqD {d : D} {l : List D} {j : Nat} {x : D} {P : D → Prop} (h : seqD d = some l) (hj : l[j]? = some x) (p : P x) : IxD d (j : Int) P := by
  cases d <;> simp [seqD] at h <;> subst h <;> exact ⟨j, x, rfl, hj, p⟩
theorem eqd_int (i j : Int) : eqd (.int i) (.int j) = decide (i = j) := by
  simp only [eqd, py, PyData.eqv]
  exact Bool.eq_iff_iff.mpr (by simp)
theorem body_is_pair {X : Cx} (c : CtxT X N10 (defScope (top 12))) (bi : Bi X.mg) {k : Nat} (hr : Room k X.A) (fSev : FnD X.prog X.w X.K X.mg X.base "is_several" k spSev) (fThing : FnD X.prog X.w X.K X.mg X.base "is_thing" k spThing) : BodyOk X N10 spIsPair (defBody (top 12)) := by
  intro ds P R h B0 H0 air
  obtain ⟨n, d, rfl, ⟨ok, okl⟩, hp⟩ := h
  cases hs : seqD d with
  | none =>
    have es : sevB d = false := by cases d <;> first | rfl | cases hs
    refine go_cons (g1_if (tx_w (wx_or (k1 := true) (k2 := true) (tx_not (tx_val (ex_call c.toCtx fSev hr (ea_cons (ex_var c.toCtx 1 (ea_nil ⟨d, rfl, ok, _, rfl, by rw [es]; rfl⟩)))))) (fun z => by cases z) ⟨fun _ => ?_, fun z => by cases z⟩)))
    refine go_cons (g1_ret (ex_bl ?_))
    have e : pairOf n d = none := by unfold pairOf; rw [hs]
    rw [e] at hp; exact hp
  | some l =>
    have es : sevB d = true := by cases d <;> first | rfl | cases hs
    refine go_cons (g1_if (tx_w (wx_or (k1 := false) (k2 := !decide (l.length = 2)) (tx_not (tx_val (ex_call c.toCtx fSev hr (ea_cons (ex_var c.toCtx 1 (ea_nil ⟨d, rfl, ok, _, rfl, by rw [es]; rfl⟩)))))) (fun _ => tx_or1 (tx_neI (ex_len c.toCtx bi.len (ex_var c.toCtx 1 ⟨_, len_seq hs, _, rfl, ex_int ⟨_, rfl, ?_⟩⟩)))) ⟨fun hl => ?_, fun hl => ?_⟩)))
    · congr 1; exact decide_eq_decide.mpr (by omega)
    · refine go_cons (g1_ret (ex_bl ?_))
      have hl' : l.length ≠ 2 := by simpa using hl
      have e : pairOf n d = none := by
        unfold pairOf; rw [hs]
        split
        · rename_i e; cases e; exact absurd rfl hl'
        · rfl
      rw [e] at hp; exact hp
    · have hl' : l.length = 2 := by simpa using hl
      match l, hl' with
      | [x, y], _ =>
        have ox := okl _ hs x (by simp)
        have oy := okl _ hs y (by simp)
        have e : (pairOf n d).isSome = (thB n x && (thB n y && !eqd x y)) := by
          unfold pairOf
          rw [hs]
          cases x <;> cases y <;> try rfl
          all_goals first | (simp [thB]; done) | skip
          rw [eqd_int]
          show Option.isSome (if _ then _ else _) = _
          split
          · rename_i hc; simp at hc ⊢; exact ⟨hc.1.1, hc.1.2, hc.2⟩
          · rename_i hc; simp at hc ⊢; exact hc
        rw [e] at hp
        refine go_nil (go_cons (g1_ret (ex_andV (k1 := thB n x) (k2 := thB n y && !eqd x y) (ex_call c.toCtx fThing hr (ea_cons (ex_var c.toCtx 0 (ea_cons (ex_ix (ex_var c.toCtx 1 (ex_int ⟨0, rfl, ix_seqD (j := 0) hs rfl (ea_nil ⟨n, x, rfl, ox, rfl⟩)⟩)))))) ) (fun hx => ?_) hp)))
        refine ex_andV (k1 := thB n y) (k2 := !eqd x y) (ex_call c.toCtx fThing hr (ea_cons (ex_var c.toCtx 0 (ea_cons (ex_ix (ex_var c.toCtx 1 (ex_int ⟨1, rfl, ix_seqD (j := 1) hs rfl (ea_nil ⟨n, y, rfl, oy, rfl⟩)⟩)))))) ) (fun hy => ?_) rfl
        cases x with
        | int i =>
          cases y with
          | int j =>
            rw [eqd_int]
            exact ex_one (ex_neI (ex_ix (ex_var c.toCtx 1 (ex_int ⟨0, rfl, ix_seqD (j := 0) hs rfl ⟨i, rfl, ex_ix (ex_var c.toCtx 1 (ex_int ⟨1, rfl, ix_seqD (j := 1) hs rfl ⟨j, rfl, rfl⟩⟩))⟩⟩))))
          | _ => cases hy
        | _ => cases hx
end OB
set_option Elab.async false
set_option linter.all false
set_option maxRecDepth 100000
set_option maxHeartbeats 4000000
namespace OB
open PySem PySem.Spec PyProof.Rows L2
/-! ### masks -/
def maskl (n : Nat) (f : Nat → Nat → Bool) : List D := (List.range n).map fun a => D.int ((mskN n (f a) : Nat) : Int)
theorem maskl_len (n : Nat) (f : Nat → Nat → Bool) : (maskl n f).length = n := by simp [maskl]
theorem maskl_get {n u : Nat} {f : Nat → Nat → Bool} (h : u < n) : (maskl n f)[u]? = some (.int ((mskN n (f u) : Nat) : Int)) := by simp [maskl, h]
theorem maskl_congr {n : Nat} {f g : Nat → Nat → Bool} (h : ∀ a b, a < n → b < n → f a b = g a b) : maskl n f = maskl n g := by
  unfold maskl
  refine List.map_congr_left fun a ha => ?_
  rw [mskN_congr fun b hb => h a b (List.mem_range.mp ha) hb]
theorem maskl_set {n u v : Nat} {f : Nat → Nat → Bool} (hu : u < n) (hv : v < n) : (maskl n f).set u (.int ((mskN n (f u) ||| 2 ^ v : Nat) : Int)) = maskl n (updM f u v true) := by
  apply List.ext_getElem?
  intro i
  by_cases hi : i < n
  · by_cases e : u = i
    · subst e
      rw [List.getElem?_set_self (by rw [maskl_len]; exact hu), maskl_get hu, mskN_or1 hv]
      congr 4
      funext b
      simp [updM]
    · rw [List.getElem?_set_ne e, maskl_get hi, maskl_get hi]
      congr 4
      funext b
      simp [updM, Ne.symm e]
  · rw [List.getElem?_eq_none (by rw [List.length_set, maskl_len]; omega), List.getElem?_eq_none (by rw [maskl_len]; omega)]
theorem maskl_zero (n : Nat) : List.replicate n (D.int 0) = maskl n fun _ _ => false := by
  apply List.ext_getElem?
  intro i
  by_cases hi : i < n
  · rw [List.getElem?_replicate, if_pos hi, maskl_get hi, mskN_zero]; rfl
  · rw [List.getElem?_eq_none (by simp; omega), List.getElem?_eq_none (by rw [maskl_len]; omega)]
def natD (i : Nat) : D := .int (i : Int)
def spLeast : SpD := fun ds P _ => ∃ m : Nat, ds = [.int (m : Int)] ∧ 0 < m ∧ ∀ l, m.testBit l = true → (∀ i, i < l → m.testBit i = false) → P (.int (l : Int))
abbrev N21 : List PySem.Str := ["mask"]
theorem body_least_in {X : Cx} (c : CtxT X N21 (defScope (top 21))) : BodyOk X N21 spLeast (defBody (top 21)) := by
  intro ds P R h B0 H0 air
  obtain ⟨m, rfl, hm, hp⟩ := h
  obtain ⟨l, h1, h2, h3, h4⟩ := low_bit m hm
  refine go_cons (g1_ret (ex_subI (ex_bits (ex_andI (ex_var c.toCtx 0 ⟨(m : Int), rfl, ex_neg (ex_var c.toCtx 0 ⟨(m : Int), rfl, _, rfl, _, rfl, _, rfl, ex_int ⟨_, rfl, ?_⟩⟩)⟩)))))
  have e : Builtin.bitAnd (m : Int) (-(m : Int)) = ((2 ^ l : Nat) : Int) := by
    have e1 : (-(m : Int)) = -((m - 1 + 1 : Nat) : Int) := by omega
    rw [e1, band_neg, andNot_sub, h4]
  rw [e, bits_two]
  have e2 : ((l + 1 : Nat) : Int) - 1 = (l : Int) := by omega
  rw [e2]
  exact hp l h1 h2
def spThings : SpD := fun ds P _ => ∃ n m : Nat, ds = [.int (m : Int)] ∧ m < 2 ^ n ∧ n ≤ 1000 ∧ P (.tup ((bitsOf n m).map natD))
abbrev N20 : List PySem.Str := ["mask", "things", "left"]
theorem body_things_in {X : Cx} (c : CtxT X N20 (defScope (top 20))) (bi : Bi X.mg) {k : Nat} (hr : Room k X.A) (fLeast : FnD X.prog X.w X.K X.mg X.base "least_in" k spLeast) : BodyOk X N20 spThings (defBody (top 20)) := by
  intro ds P R h B0 H0 air
  obtain ⟨n, m, rfl, hm, hn, hp⟩ := h
  refine go_cons (g1_asgO c.toCtxD 1 (el_lst (ea_nil ⟨by decide, fun p => ?_⟩)))
  refine go_cons (g1_asg c.toCtxD 2 (ex_var c.toCtx 0 ?_))
  refine go_cut (fun sds os => sds = [.d (.int (m : Int)), .v (.ref p), .d (.int 0)] ∧ os = [(p, .lst ((bitsOf n m).map natD))]) (g1_while c.own (fun x sds os => ∃ l : List Nat, sds = [.d (.int (m : Int)), .v (.ref p), .d (.int (x : Int))] ∧ os = [(p, .lst (l.map natD))] ∧ x < 2 ^ n ∧ l ++ bitsOf n x = bitsOf n m) m ⟨[], rfl, rfl, hm, rfl⟩ ?_) ?_
  · rintro x sds os ⟨l, rfl, rfl, hx, hl⟩
    refine tx_tru (ex_var (d := .int (x : Int)) c.toCtx 2 ⟨_, rfl, fun h1 => ?_, fun h1 => ?_⟩)
    · have hx0 : 0 < x := by
        have : (x : Int) ≠ 0 := by simpa using h1
        omega
      obtain ⟨j, b1, b2, b3, b4⟩ := low_bit x hx0
      obtain ⟨b5, b6⟩ := bitsOf_low hx b1 b2
      have hlen : l.length ≤ n := by
        have e1 : (l ++ bitsOf n x).length ≤ n := by rw [hl]; exact Nat.le_trans (List.length_filter_le _ _) (by simp)
        rw [List.length_append] at e1; omega
      refine go_cons (g1_append c.toCtx 1 0 (ex_call c.toCtx fLeast hr (ea_cons (ex_var c.toCtx 2 (ea_nil ⟨x, rfl, hx0, fun j' c1 c2 => ?_⟩)))))
      have ej : j' = j := by
        rcases Nat.lt_trichotomy j' j with h | h | h
        · rw [b2 j' h] at c1; cases c1
        · exact h
        · rw [c2 j h] at b1; cases b1
      subst ej
      refine ⟨by rw [List.length_map]; omega, ?_⟩
      refine go_cons (g1_asg c.toCtxD 2 (ex_andI (ex_var c.toCtx 2 ⟨(x : Int), rfl, ex_subI (ex_var c.toCtx 2 ⟨(x : Int), rfl, ex_int ⟨1, rfl, _, rfl, ?_⟩⟩)⟩)))
      have e1 : ((x : Int) - 1) = ((x - 1 : Nat) : Int) := by omega
      rw [e1, band_nat, b3]
      refine go_nil ⟨andNot x (2 ^ j'), andNot_lt b1, l ++ [j'], rfl, by simp [natD], Nat.lt_trans (andNot_lt b1) hx, ?_⟩
      rw [List.append_assoc, ← hl, b5]; rfl
    · have hx0 : x = 0 := by
        have : (x : Int) = 0 := by simpa using h1
        omega
      subst hx0
      rw [bitsOf_zero, List.append_nil] at hl
      exact ⟨rfl, by rw [hl]⟩
  · rintro sds os ⟨rfl, rfl⟩
    refine go_freeze 1 0 ?_
    exact go_cons (g1_ret (ex_tupleOf c.toCtx bi.tuple (ex_var c.toCtx 1 ⟨_, .inl rfl, hp⟩)))
def spHas : SpD := fun ds P _ => ∃ m j : Nat, ds = [.int (m : Int), .int (j : Int)] ∧ P (.bl (m.testBit j))
abbrev N22 : List PySem.Str := ["mask", "thing"]
theorem body_has_thing {X : Cx} (c : CtxT X N22 (defScope (top 22))) : BodyOk X N22 spHas (defBody (top 22)) := by
  intro ds P R h B0 H0 air
  obtain ⟨m, j, rfl, hp⟩ := h
  refine go_cons (g1_ret (ex_eqI (ex_andI (ex_shr (ex_var c.toCtx 0 ⟨(m : Int), rfl, ex_var c.toCtx 1 ⟨(j : Int), rfl, by omega, _, rfl, ex_int ⟨1, rfl, _, rfl, ex_int ⟨1, rfl, ?_⟩⟩⟩⟩)))))
  rw [shr_nat, bit_nat]
  exact hp
def spMasks : SpD := fun ds P _ => ∃ (n : Nat) (l : List (Nat × Nat)), ds = [.int (n : Int), .tup (l.map prn)] ∧ n ≤ 1000 ∧ (∀ p ∈ l, p.1 < n ∧ p.2 < n) ∧ ∀ f : Nat → Nat → Bool, (∀ a b, f a b = true ↔ (a, b) ∈ l) → P (.tup (maskl n f))
abbrev N23 : List PySem.Str := ["size", "pairs", "masks", "first", "second"]
theorem body_masks_of_pairs {X : Cx} (c : CtxT X N23 (defScope (top 23))) (bi : Bi X.mg) : BodyOk X N23 spMasks (defBody (top 23)) := by
  intro ds P R h B0 H0 air
  obtain ⟨n, l, rfl, hn, hl, hp⟩ := h
  refine go_cons (g1_asgO c.toCtxD 2 (el_rep (ex_ofL (el_lst (ea_cons (ex_int (ea_nil ⟨le1, _, rfl, ex_var c.toCtx 0 ⟨n, rfl, by omega, fun p => ?_⟩⟩)))))))
  rw [maskl_zero]
  let I : LoopI := fun k sds os => ∃ (f : Nat → Nat → Bool) (x y : SD), (∀ a b, f a b = true ↔ (a, b) ∈ l.take k) ∧ sds = [.d (.int (n : Int)), .d (.tup (l.map prn)), .v (.ref p), x, y] ∧ os = [(p, .lst (maskl n f))]
  refine go_cut (I l.length) (g1_for (t := .tp [3, 4]) c.own c.calm (tg_tp c.toCtxD (tgs_cons c.toCtxD 3 (tgs_cons c.toCtxD 4 tgs_nil))) (ix_tup (ex_var c.toCtx 1 ⟨_, rfl, forOk_map I ⟨_, _, _, fun a b => by simp, rfl, rfl⟩ ?_ fun _ _ h => h⟩))) ?_
  · rintro k ⟨a, b⟩ sds os hk ⟨f, x, y, hf, rfl, rfl⟩
    have hm := hl _ (List.mem_of_getElem? hk)
    refine ⟨_, rfl, rfl, ?_⟩
    refine go_cons (g1_setO c.toCtx 2 0 (ex_orI (ex_borrow 2 0 (ex_ix (ex_var c.toCtx 2 (ex_var c.toCtx 3 ⟨(a : Int), rfl, ixL a (maskl_get hm.1) ⟨rfl, _, rfl, ex_shl (ex_int ⟨1, rfl, ex_var c.toCtx 4 ⟨(b : Int), rfl, cshl b (by omega), _, rfl, ?_⟩⟩)⟩⟩))))))
    rw [shl_nat, bor_nat]
    refine ex_var c.toCtx 3 ⟨a, rfl, by rw [maskl_len]; exact hm.1, ?_⟩
    rw [maskl_set hm.1 hm.2]
    refine go_nil ⟨_, _, _, fun a' b' => ?_, rfl, rfl⟩
    rw [show l.take (k + 1) = l.take k ++ [(a, b)] by rw [List.take_succ, hk]; rfl]
    unfold updM
    by_cases e : a' = a ∧ b' = b
    · rw [if_pos e]; simp [e.1, e.2]
    · rw [if_neg e, hf]
      simp
      exact fun h1 h2 => absurd ⟨h1, h2⟩ e
  · rintro sds os ⟨f, x, y, hf, rfl, rfl⟩
    rw [List.take_length] at hf
    refine go_freeze 2 0 ?_
    exact go_cons (g1_ret (ex_tupleOf c.toCtx bi.tuple (ex_var c.toCtx 2 ⟨_, .inl rfl, hp f hf⟩)))
end OB
set_option Elab.async false
set_option linter.all false
set_option maxRecDepth 100000
set_option maxHeartbeats 4000000
namespace OB
open PySem PySem.Spec PyProof.Rows L2
/-! ### the package's pairs -/
def spPairOf (C : Addr) : SpD := fun ds P R => ∃ (n : Int) (d : D), ds = [.int n, d] ∧ okP d ∧ (∀ i j, pairOf n d = some (i, j) → P (pr (i, j))) ∧ (pairOf n d = none → R C [("place", .int 0)])
abbrev N14 : List PySem.Str := ["size", "pair"]
theorem body_pair_of {X : Cx} (c : CtxT X N14 (defScope (top 14))) {C : Addr} {k : Nat} (hr : Room (k + 1) X.A) (fIs : FnD X.prog X.w X.K X.mg X.base "is_pair" k spIsPair) (xc : ExcD X.prog X.w X.K X.mg X.base "BadPair" C k ["place"]) : BodyOk X N14 (spPairOf C) (defBody (top 14)) := by
  intro ds P R h B0 H0 air
  obtain ⟨n, d, rfl, ok, h1, h2⟩ := h
  refine go_cons (g1_if (tx_not (tx_val (ex_call c.toCtx fIs (hr.mono (by omega)) (ea_cons (ex_var c.toCtx 0 (ea_cons (ex_var c.toCtx 1 (ea_nil ⟨n, d, rfl, ok, _, rfl, fun hc => ?_, fun hc => ?_⟩)))))))))
  · have e : pairOf n d = none := by simpa using hc
    exact go_cons (g1_raise c.toCtx xc hr air (ea_cons (ex_int (ea_nil ⟨rfl, by decide, h2 e⟩))))
  · have e : (pairOf n d).isSome = true := by simpa using hc
    obtain ⟨⟨i, j⟩, e⟩ := Option.isSome_iff_exists.mp e
    obtain ⟨hd, _⟩ := pairOf_some e
    have hs : seqD d = some [.int i, .int j] := by rcases hd with rfl | rfl <;> rfl
    exact go_nil (go_cons (g1_ret (ex_tup (ea_cons (ex_ix (ex_var c.toCtx 1 (ex_int ⟨0, rfl, ix_seqD (j := 0) hs rfl (ea_cons (ex_ix (ex_var c.toCtx 1 (ex_int ⟨1, rfl, ix_seqD (j := 1) hs rfl (ea_nil ⟨le2, h1 i j e⟩)⟩))))⟩)))))))
/-- good: no two things together in two of them -/
structure GoodP (n : Nat) (l : List (Nat × Nat)) : Prop where
  th : ∀ p ∈ l, p.1 < n ∧ p.2 < n ∧ p.1 ≠ p.2
  un : ∀ (i j : Nat) (p q : Nat × Nat), i < j → l[i]? = some p → l[j]? = some q → ¬ (p = q) ∧ ¬ (p.1 = q.2 ∧ p.2 = q.1)
theorem okP_prn (p : Nat × Nat) : okP (prn p) := ⟨rfl, fun l h x hx => by
  cases h
  simp at hx
  rcases hx with rfl | rfl <;> rfl⟩
theorem pairOf_prn {n : Nat} {p : Nat × Nat} (h : p.1 < n ∧ p.2 < n ∧ p.1 ≠ p.2) : pairOf (n : Int) (prn p) = some ((p.1 : Int), (p.2 : Int)) := by
  show (if _ then _ else _) = _
  rw [if_pos]
  simp [thB]
  omega
def spPairs : SpD := fun ds P _ => ∃ (n : Nat) (l : List (Nat × Nat)), ds = [.int (n : Int), .lst (l.map prn)] ∧ n ≤ 1000 ∧ l.length ≤ 50000 ∧ GoodP n l ∧ P (.lst (l.map prn))
abbrev N16 : List PySem.Str := ["size", "pairs", "met", "found", "place", "pair", "first", "second"]
theorem body_pairs_of {X : Cx} (c : CtxT X N16 (defScope (top 16))) (bi : Bi X.mg) {k : Nat} (hr : Room k X.A) (fSev : FnD X.prog X.w X.K X.mg X.base "is_several" k spSev) (fIs : FnD X.prog X.w X.K X.mg X.base "is_pair" k spIsPair) : BodyOk X N16 spPairs (defBody (top 16)) := by
  intro ds P R h B0 H0 air
  obtain ⟨n, l, rfl, hn, hll, hg, hp⟩ := h
  refine go_cons (g1_if (tx_not (tx_val (ex_call c.toCtx fSev hr (ea_cons (ex_var c.toCtx 1 (ea_nil ⟨.lst (l.map prn), rfl, rfl, _, rfl, fun hc => (by cases hc), fun _ => ?_⟩)))))))
  refine go_nil (go_cons (g1_asgO c.toCtxD 2 (el_rep (ex_ofL (el_lst (ea_cons (ex_int (ea_nil ⟨le1, _, rfl, ex_var c.toCtx 0 ⟨n, rfl, by omega, fun pm => ?_⟩⟩))))))))
  rw [maskl_zero]
  refine go_cons (g1_asgO c.toCtxD 3 (el_lst (ea_nil ⟨le0, fun pf => ?_⟩)))
  let I : LoopI := fun k sds os => ∃ (f : Nat → Nat → Bool) (x y z w : SD), (∀ a b, f a b = true → (a, b) ∈ l.take k ∨ (b, a) ∈ l.take k) ∧ sds = [.d (.int (n : Int)), .d (.lst (l.map prn)), .v (.ref pm), .v (.ref pf), x, y, z, w] ∧ os = [(pf, .lst ((l.take k).map prn)), (pm, .lst (maskl n f))]
  refine go_cut (I l.length) (g1_for (t := .tp [4, 5]) c.own c.calm (tg_tp c.toCtxD (tgs_cons c.toCtxD 4 (tgs_cons c.toCtxD 5 tgs_nil))) (ix_enum c.toCtx bi.enumerate (ex_var c.toCtx 1 ⟨_, rfl, ?_⟩))) ?_
  · refine ⟨I, ⟨fun _ _ => false, _, _, _, _, fun a b h => (nomatch h), rfl, by simp⟩, ?_, fun s o h => by rwa [enumD_len, List.length_map] at h⟩
    rintro k u sds os hu ⟨f, x, y, z, w, hf, rfl, rfl⟩
    have hk : k < l.length := by
      have := (List.getElem?_eq_some_iff.mp hu).1
      rwa [enumD_len, List.length_map] at this
    have hq : l[k]? = some l[k] := List.getElem?_eq_getElem hk
    generalize hab : l[k] = q at hq
    obtain ⟨a, b⟩ := q
    rw [enumD_get (d := prn (a, b)) (by rw [List.getElem?_map, hq]; rfl)] at hu
    cases hu
    refine ⟨_, rfl, rfl, ?_⟩
    have hm := hg.th _ (List.mem_of_getElem? hq)
    have new : f a b = false := by
      cases e : f a b with
      | false => rfl
      | true =>
        rcases hf a b e with h | h
        · obtain ⟨i, hi, ei⟩ := List.mem_iff_getElem.mp h
          rw [List.length_take] at hi
          have e2 : l[i]? = some (a, b) := by rw [← ei, List.getElem_take]; exact List.getElem?_eq_getElem (by omega)
          exact absurd rfl (hg.un i k _ _ (by omega) e2 hq).1
        · obtain ⟨i, hi, ei⟩ := List.mem_iff_getElem.mp h
          rw [List.length_take] at hi
          have e2 : l[i]? = some (b, a) := by rw [← ei, List.getElem_take]; exact List.getElem?_eq_getElem (by omega)
          exact absurd ⟨rfl, rfl⟩ (hg.un i k _ _ (by omega) e2 hq).2
    refine go_cons (g1_if (tx_w (wx_or (k1 := false) (k2 := false) ?_ (fun _ => ?_) ⟨fun z => (by cases z), fun _ => go_nil ?_⟩)))
    · exact tx_not (tx_val (ex_call c.toCtx fIs hr (ea_cons (ex_var c.toCtx 0 (ea_cons (ex_var c.toCtx 5 (ea_nil ⟨_, _, rfl, okP_prn (a, b), _, rfl, by rw [pairOf_prn hm]; rfl⟩)))))))
    · refine tx_or1 (tx_eqI (ex_andI (ex_shr (ex_borrow 2 1 (ex_ix (ex_var c.toCtx 2 (ex_ix (ex_var c.toCtx 5 (ex_int ⟨0, rfl, ixT 0 rfl ⟨(a : Int), rfl, ixL a (maskl_get hm.1) ⟨rfl, _, rfl, ex_ix (ex_var c.toCtx 5 (ex_int ⟨1, rfl, ixT 1 rfl ⟨(b : Int), rfl, by omega, _, rfl, ex_int ⟨1, rfl, _, rfl, ex_int ⟨1, rfl, ?_⟩⟩⟩⟩))⟩⟩⟩)))))))))
      rw [shr_nat, bit_nat, mskN_bit, new]; simp
    refine go_cons (g1_asg2 c.toCtxD 6 7 (ex_var c.toCtx 5 ⟨_, _, rfl, ?_⟩))
    refine go_cons (g1_setO c.toCtx 2 1 (ex_orI (ex_borrow 2 1 (ex_ix (ex_var c.toCtx 2 (ex_var c.toCtx 6 ⟨(a : Int), rfl, ixL a (maskl_get hm.1) ⟨rfl, _, rfl, ex_shl (ex_int ⟨1, rfl, ex_var c.toCtx 7 ⟨(b : Int), rfl, cshl b (by omega), _, rfl, ?_⟩⟩)⟩⟩))))))
    rw [shl_nat, bor_nat]
    refine ex_var c.toCtx 6 ⟨a, rfl, by rw [maskl_len]; exact hm.1, ?_⟩
    rw [maskl_set hm.1 hm.2.1]
    refine go_cons (g1_setO c.toCtx 2 1 (ex_orI (ex_borrow 2 1 (ex_ix (ex_var c.toCtx 2 (ex_var c.toCtx 7 ⟨(b : Int), rfl, ixL b (maskl_get hm.2.1) ⟨rfl, _, rfl, ex_shl (ex_int ⟨1, rfl, ex_var c.toCtx 6 ⟨(a : Int), rfl, cshl a (by omega), _, rfl, ?_⟩⟩)⟩⟩))))))
    rw [shl_nat, bor_nat]
    refine ex_var c.toCtx 7 ⟨b, rfl, by rw [maskl_len]; exact hm.2.1, ?_⟩
    rw [maskl_set hm.2.1 hm.1]
    refine go_cons (g1_append c.toCtx 3 0 (ex_tup (ea_cons (ex_var c.toCtx 6 (ea_cons (ex_var c.toCtx 7 (ea_nil ⟨le2, ?_, ?_⟩)))))))
    · rw [List.length_map, List.length_take]; omega
    have et : l.take (k + 1) = l.take k ++ [(a, b)] := by rw [List.take_succ, hq]; rfl
    refine go_nil ⟨updM (updM f a b true) b a true, _, _, _, _, fun a' b' h => ?_, rfl, by rw [et]; simp [prn]⟩
    rw [et]
    unfold updM at h
    split at h
    · rename_i e; rw [e.1, e.2]; exact .inr (by simp)
    · split at h
      · rename_i e; rw [e.1, e.2]; exact .inl (by simp)
      · rcases hf _ _ h with h | h
        · exact .inl (List.mem_append_left _ h)
        · exact .inr (List.mem_append_left _ h)
  · rintro sds os ⟨f, x, y, z, w, hf, rfl, rfl⟩
    rw [List.take_length]
    refine go_freeze 3 0 ?_
    exact go_cons (g1_ret (ex_var c.toCtx 3 hp))
end OB
set_option Elab.async false
set_option linter.all false
set_option maxRecDepth 100000
set_option maxHeartbeats 4000000
namespace OB
open PySem PySem.Spec PyProof.Rows L2
/-! ### ties of a web -/
def cp (p : Nat × Nat) : Int × Int := ((p.1 : Int), (p.2 : Int))
theorem prn_cp (p : Nat × Nat) : prn p = pr (cp p) := rfl
theorem map_prn (l : List (Nat × Nat)) : l.map prn = (l.map cp).map pr := by rw [List.map_map]; rfl
theorem cp_inj {p q : Nat × Nat} (h : cp p = cp q) : p = q := by
  have h1 := congrArg Prod.fst h
  have h2 := congrArg Prod.snd h
  simp [cp] at h1 h2
  exact Prod.ext (by omega) (by omega)
theorem mem_cp {p : Nat × Nat} {l : List (Nat × Nat)} : cp p ∈ l.map cp ↔ p ∈ l := by
  rw [List.mem_map]
  exact ⟨fun ⟨q, h, e⟩ => by rw [← cp_inj e]; exact h, fun h => ⟨p, h, rfl⟩⟩
theorem mem_rowTies {g : Nat → Nat → Bool} {a m : Nat} {p : Nat × Nat} : p ∈ rowTies g a m ↔ p.1 = a ∧ a < p.2 ∧ p.2 < a + 1 + m ∧ g p.1 p.2 = true := by
  unfold rowTies
  rw [List.mem_filter, List.mem_map]
  constructor
  · rintro ⟨⟨j, hj, rfl⟩, h⟩
    have := List.mem_range.mp hj
    exact ⟨rfl, by show a < a + 1 + j; omega, by show a + 1 + j < a + 1 + m; omega, h⟩
  · rintro ⟨h1, h2, h3, h4⟩
    exact ⟨⟨p.2 - a - 1, List.mem_range.mpr (by omega), Prod.ext h1.symm (by show a + 1 + (p.2 - a - 1) = p.2; omega)⟩, h4⟩
theorem mem_tiesTo {n : Nat} {g : Nat → Nat → Bool} {p : Nat × Nat} : ∀ {k : Nat}, p ∈ tiesTo n g k ↔ p.1 < k ∧ p.1 < p.2 ∧ p.2 < n ∧ g p.1 p.2 = true
  | 0 => by simp [tiesTo]
  | k + 1 => by
    rw [tiesTo_succ, List.mem_append, mem_tiesTo, mem_rowTies]
    constructor
    · rintro (⟨h1, h2, h3, h4⟩ | ⟨h1, h2, h3, h4⟩)
      · exact ⟨by omega, h2, h3, h4⟩
      · exact ⟨by omega, by omega, by omega, h4⟩
    · rintro ⟨h1, h2, h3, h4⟩
      by_cases e : p.1 < k
      · exact .inl ⟨e, h2, h3, h4⟩
      · exact .inr ⟨by omega, by omega, by omega, h4⟩
theorem mem_ties {n : Nat} {g : Nat → Nat → Bool} {p : Nat × Nat} : p ∈ tiesOf n g ↔ p.1 < p.2 ∧ p.2 < n ∧ g p.1 p.2 = true := by
  unfold tiesOf
  rw [mem_tiesTo]
  exact ⟨fun h => h.2, fun h => ⟨by omega, h⟩⟩
def ltN (p q : Nat × Nat) : Prop := p.1 < q.1 ∨ (p.1 = q.1 ∧ p.2 < q.2)
theorem rowTies_sorted (g : Nat → Nat → Bool) (a m : Nat) : (rowTies g a m).Pairwise ltN := by
  unfold rowTies
  refine List.Pairwise.filter _ ?_
  rw [List.pairwise_map]
  exact List.pairwise_lt_range.imp fun h => .inr ⟨rfl, by show a + 1 + _ < a + 1 + _; omega⟩
theorem tiesTo_sorted (n : Nat) (g : Nat → Nat → Bool) : ∀ k, (tiesTo n g k).Pairwise ltN
  | 0 => by simp [tiesTo]
  | k + 1 => by
    rw [tiesTo_succ]
    refine List.pairwise_append.mpr ⟨tiesTo_sorted n g k, rowTies_sorted g k _, fun p hp q hq => ?_⟩
    have h1 := mem_tiesTo.mp hp
    have h2 := mem_rowTies.mp hq
    exact .inl (by omega)
theorem ties_sorted (n : Nat) (g : Nat → Nat → Bool) : (tiesOf n g).Pairwise ltN := tiesTo_sorted n g n
theorem ties_good (n : Nat) (g : Nat → Nat → Bool) : GoodP n (tiesOf n g) := by
  refine ⟨fun p hp => ?_, fun i j p q hij hi hj => ?_⟩
  · have := mem_ties.mp hp
    omega
  · have h := ties_sorted n g
    have h1 := mem_ties.mp (List.mem_of_getElem? hi)
    have h2 := mem_ties.mp (List.mem_of_getElem? hj)
    obtain ⟨li, ei⟩ := List.getElem?_eq_some_iff.mp hi
    obtain ⟨lj, ej⟩ := List.getElem?_eq_some_iff.mp hj
    have h3 := List.pairwise_iff_getElem.mp h i j li lj hij
    rw [ei, ej] at h3
    refine ⟨fun e => ?_, fun e => ?_⟩
    · subst e; unfold ltN at h3; omega
    · unfold ltN at h3; omega
theorem ties_len (n : Nat) (g : Nat → Nat → Bool) : (tiesOf n g).length ≤ n * n := tiesTo_len n g n
def nrm (p : Nat × Nat) : Int × Int := (if (p.2 : Int) < (p.1 : Int) then (p.2 : Int) else (p.1 : Int), if (p.1 : Int) < (p.2 : Int) then (p.2 : Int) else (p.1 : Int))
theorem nrm_lt {p : Nat × Nat} (h : p.1 < p.2) : nrm p = cp p := by
  unfold nrm cp
  rw [if_neg (by omega), if_pos (by omega)]
theorem srt_self {l : List (Nat × Nat)} (h : l.Pairwise ltN) : srt (l.map cp) = l.map cp := by
  refine (srt_eq (List.Perm.refl _) ?_).symm
  rw [List.pairwise_map]
  refine h.imp fun {p q} h => leP_iff.mpr ?_
  unfold ltN at h
  simp [cp]; omega
theorem srt_ties (n : Nat) (g : Nat → Nat → Bool) : (srt ((tiesOf n g).map nrm)).map pr = (tiesOf n g).map prn := by
  have e : (tiesOf n g).map nrm = (tiesOf n g).map cp := List.map_congr_left fun p hp => nrm_lt (mem_ties.mp hp).1
  rw [e, srt_self (ties_sorted n g), map_prn]
def spTiesOf : SpD := fun ds P _ => ∃ (n : Nat) (l : List (Nat × Nat)), ds = [.int (n : Int), .lst (l.map prn)] ∧ n ≤ 1000 ∧ l.length ≤ 50000 ∧ GoodP n l ∧ P (.tup ((srt (l.map nrm)).map pr))
abbrev N15 : List PySem.Str := ["size", "pairs", "pair"]
theorem body_ties_of {X : Cx} (c : CtxT X N15 (defScope (top 15))) (bi : Bi X.mg) {k : Nat} (hr : Room k X.A) (fPairs : FnD X.prog X.w X.K X.mg X.base "pairs_of" k spPairs) : BodyOk X N15 spTiesOf (defBody (top 15)) := by
  intro ds P R h B0 H0 air
  obtain ⟨n, l, rfl, hn, hll, hg, hp⟩ := h
  refine go_cons (g1_ret (ex_tupleOf c.toCtx bi.tuple (ex_ofL (el_sortP c.toCtx bi.sorted (ex_ofL (el_lc0 c.toCtx [("pair", 2)] (.nm 2) (fun X' b => tb_nm (b.ctx c.toCtx) 2) (ix_list (ex_call c.toCtx fPairs hr (ea_cons (ex_var c.toCtx 0 (ea_cons (ex_var c.toCtx 1 (ea_nil ⟨n, l, rfl, hn, hll, hg, _, rfl, ?_⟩)))))))))))))
  refine ⟨Nat × Nat, l, prn, fun q => pr (nrm q), rfl, by omega, fun q _ X' b => ?_, l.map nrm, by rw [List.map_map]; rfl, _, .inl rfl, hp⟩
  have c' := b.ctx c.toCtx
  exact ex_tup (ea_cons (ex_min1 c' (b.room hr) (b.bi bi).min (ex_var c' 2 ⟨_, _, rfl, ea_cons (ex_max1 c' (b.room hr) (b.bi bi).max (ex_var c' 2 ⟨_, _, rfl, ea_nil ⟨le2, rfl⟩⟩))⟩)))
/-! ### number_of_kind, where it is one -/
def spNum : SpD := fun ds P _ => ∃ (v lo hi : Int) (s : PySem.Str), ds = [.int v, .int lo, .int hi, .str s] ∧ lo ≤ v ∧ v ≤ hi ∧ P (.int v)
abbrev N17 : List PySem.Str := ["value", "low", "high", "name"]
theorem body_number {X : Cx} (c : CtxT X N17 (defScope (top 17))) {k : Nat} (hr : Room k X.A) (fWhole : FnD X.prog X.w X.K X.mg X.base "is_whole" k spWhole) : BodyOk X N17 spNum (defBody (top 17)) := by
  intro ds P R h B0 H0 air
  obtain ⟨v, lo, hi, s, rfl, h1, h2, hp⟩ := h
  refine go_cons (g1_if (tx_w (wx_or (k1 := false) (k2 := false) ?_ (fun _ => wx_or (k1 := false) (k2 := false) ?_ (fun _ => ?_) rfl) ⟨fun z => (by cases z), fun _ => go_nil ?_⟩)))
  · exact tx_not (tx_val (ex_call c.toCtx fWhole hr (ea_cons (ex_var c.toCtx 0 (ea_nil ⟨.int v, rfl, rfl, _, rfl, rfl⟩)))))
  · exact tx_ltI (ex_var c.toCtx 0 ⟨v, rfl, ex_var c.toCtx 1 ⟨lo, rfl, by simp; omega⟩⟩)
  · exact tx_or1 (tx_gtI (ex_var c.toCtx 0 ⟨v, rfl, ex_var c.toCtx 2 ⟨hi, rfl, by simp; omega⟩⟩))
  · exact go_cons (g1_ret (ex_var c.toCtx 0 hp))
/-! ### Web -/
def webFs (n : Nat) (g : Nat → Nat → Bool) : List (PySem.Str × D) := [("size", .int (n : Int)), ("ties", .tup ((tiesOf n g).map prn)), ("masks", .tup (maskl n g))]
def webO (C : Addr) (n : Nat) (g : Nat → Nat → Bool) : D := .ins C (webFs n g)
/-- what is known of the class Web -/
structure WebC (K : PySem.W.Frag) (C : Addr) : Prop where
  cl : Cls K C
  s : NoAttr K C "size"
  t : NoAttr K C "ties"
  m : NoAttr K C "masks"
def spWebI : SpI := fun ds P _ => ∃ (n : Nat) (g : Nat → Nat → Bool), ds = [.int (n : Int), .lst ((tiesOf n g).map prn)] ∧ 1 ≤ n ∧ n ≤ 40 ∧ Sym g ∧ P (webFs n g)
abbrev sWebI : Stmt := inClass (top 37) 0
abbrev N37 : List PySem.Str := ["self", "size", "ties", "first", "second"]
theorem body_web_init {X : Cx} (c : CtxT X N37 (defScope sWebI)) (bi : Bi X.mg) {C : Addr} (wc : WebC X.K C) {k : Nat} (hr : Room k X.A) (most : ∃ t, X.mg "MOST_THINGS" = some (.int 40 t)) (fNum : FnD X.prog X.w X.K X.mg X.base "number_of_kind" k spNum)
    (fTies : FnD X.prog X.w X.K X.mg X.base "ties_of" k spTiesOf) (fMasks : FnD X.prog X.w X.K X.mg X.base "masks_of_pairs" k spMasks) {ds P R} (h : spWebI ds P R) (B0 H0 : Hp) (a dx : Addr) : Go X B0 H0 (.v (.ref a) :: ini (N37.length - 1) ds) [(a, .ins C dx [])] { nx := fun _ os => ∃ fs, os = [(a, .ins C dx fs)] ∧ P fs } (defBody sWebI) := by
  obtain ⟨n, g, rfl, hn1, hn, hg, hp⟩ := h
  have hl := ties_len n g
  have hl2 : n * n ≤ 40 * 40 := Nat.mul_le_mul hn hn
  refine go_cons (g1_fld c.toCtx 0 wc.cl wc.s (ex_call c.toCtx fNum hr (ea_cons (ex_var c.toCtx 1 (ea_cons (ex_int (ea_cons (ex_glI c.toCtx most (ea_cons (ex_str (ea_nil ⟨(n : Int), 1, 40, "size", rfl, by omega, by omega, by decide, ?_⟩)))))))))))
  refine go_cons (g1_fld c.toCtx 0 wc.cl wc.t (ex_call c.toCtx fTies hr (ea_cons (ex_fldO c.toCtx 0 0 wc.cl wc.s rfl (ea_cons (ex_var c.toCtx 2 (ea_nil ⟨n, tiesOf n g, rfl, by omega, by omega, ties_good n g, (show 1 < 1000 by decide), ?_⟩)))))))
  rw [srt_ties]
  refine go_cons (g1_fld c.toCtx 0 wc.cl wc.m (ex_call c.toCtx fMasks hr (ea_cons (ex_fldO c.toCtx 0 0 wc.cl wc.s rfl (ea_cons (ex_catT (ex_fldO c.toCtx 0 0 wc.cl wc.t rfl ⟨(tiesOf n g).map prn, rfl, ex_tupleOf c.toCtx bi.tuple (ex_ofL (el_lc0 c.toCtx [("first", 3), ("second", 4)] (.tp [3, 4]) (fun X' b => tb_tp (b.ctx c.toCtx) (tbs_cons (b.ctx c.toCtx) 3 (tbs_cons (b.ctx c.toCtx) 4 tgs_nil))) (ix_tup (ex_fldO c.toCtx 0 0 wc.cl wc.t rfl ⟨_, rfl, ?_⟩))))⟩)))))))
  refine ⟨Nat × Nat, tiesOf n g, prn, fun q => prn (q.2, q.1), rfl, by omega, fun q _ => ⟨_, rfl, rfl, fun X' b => ?_⟩, (tiesOf n g).map fun q => prn (q.2, q.1), .inl rfl, _, rfl, by rw [List.length_map, List.length_map]; omega, ?_⟩
  · have c' := b.ctx c.toCtx
    exact ex_tup (ea_cons (ex_var c' 4 (ea_cons (ex_var c' 3 (ea_nil ⟨le2, rfl⟩)))))
  have e : (tiesOf n g).map prn ++ (tiesOf n g).map (fun q => prn (q.2, q.1)) = (tiesOf n g ++ (tiesOf n g).map fun q => (q.2, q.1)).map prn := by rw [List.map_append, List.map_map]; rfl
  rw [e]
  refine ea_nil ⟨n, _, rfl, by omega, fun p hp => ?_, fun f hf => ⟨(show 2 < 1000 by decide), ?_⟩⟩
  · rcases List.mem_append.mp hp with hp | hp
    · have := mem_ties.mp hp; omega
    · obtain ⟨q, hq, rfl⟩ := List.mem_map.mp hp
      have := mem_ties.mp hq
      exact ⟨by show q.2 < n; omega, by show q.1 < n; omega⟩
  · have ef : maskl n f = maskl n g := maskl_congr fun a b ha hb => by
      apply Bool.eq_iff_iff.mpr
      rw [hf, List.mem_append, List.mem_map, mem_ties]
      constructor
      · rintro (h | ⟨q, hq, e⟩)
        · exact h.2.2
        · have h := mem_ties.mp hq
          cases e
          rw [hg.1]; exact h.2.2
      · intro h
        rcases Nat.lt_trichotomy a b with hab | hab | hab
        · exact .inl ⟨hab, hb, h⟩
        · subst hab; rw [hg.2] at h; cases h
        · exact .inr ⟨(b, a), mem_ties.mpr ⟨hab, ha, by rw [hg.1]; exact h⟩, rfl⟩
    rw [ef]
    exact go_nil ⟨_, rfl, hp⟩
end OB
set_option Elab.async false
set_option linter.all false
set_option maxRecDepth 100000
set_option maxHeartbeats 4000000
namespace OB
open PySem PySem.Spec PyProof.Rows L2
/-! ### forcing -/
def stepsN (n : Nat) (g : Nat → Nat → Bool) (a b : Nat) : List (Nat × Nat) :=
  ((List.range n).filter fun c => g a c && !g b c && decide (c ≠ b)).map (fun c => (a, c)) ++ ((List.range n).filter fun c => g b c && !g a c && decide (c ≠ a)).map fun c => (c, b)
theorem steps_len (n : Nat) (g : Nat → Nat → Bool) (a b : Nat) : (stepsN n g a b).length ≤ 2 * n := by
  unfold stepsN
  rw [List.length_append, List.length_map, List.length_map]
  have h1 := List.length_filter_le (fun c => g a c && !g b c && decide (c ≠ b)) (List.range n)
  have h2 := List.length_filter_le (fun c => g b c && !g a c && decide (c ≠ a)) (List.range n)
  rw [List.length_range] at h1 h2
  omega
theorem mem_steps {n : Nat} {g : Nat → Nat → Bool} {a b : Nat} {p : Nat × Nat} : p ∈ stepsN n g a b ↔ (p.1 = a ∧ p.2 < n ∧ g a p.2 = true ∧ g b p.2 = false ∧ p.2 ≠ b) ∨ (p.2 = b ∧ p.1 < n ∧ g b p.1 = true ∧ g a p.1 = false ∧ p.1 ≠ a) := by
  unfold stepsN
  rw [List.mem_append, List.mem_map, List.mem_map]
  constructor
  · rintro (⟨c, hc, rfl⟩ | ⟨c, hc, rfl⟩)
    · rw [List.mem_filter, List.mem_range] at hc
      simp at hc
      exact .inl ⟨rfl, hc.1, hc.2.1.1, hc.2.1.2, hc.2.2⟩
    · rw [List.mem_filter, List.mem_range] at hc
      simp at hc
      exact .inr ⟨rfl, hc.1, hc.2.1.1, hc.2.1.2, hc.2.2⟩
  · rintro (⟨h1, h2, h3, h4, h5⟩ | ⟨h1, h2, h3, h4, h5⟩)
    · exact .inl ⟨p.2, by rw [List.mem_filter, List.mem_range]; simp [h2, h3, h4, h5], Prod.ext h1.symm rfl⟩
    · exact .inr ⟨p.1, by rw [List.mem_filter, List.mem_range]; simp [h2, h3, h4, h5], Prod.ext rfl h1.symm⟩
def ends2 (n : Nat) (g : Nat → Nat → Bool) (a b : Nat) : Nat := andNot (andNot (mskN n (g a)) (mskN n (g b))) (2 ^ b)
theorem ends2_lt (n : Nat) (g : Nat → Nat → Bool) (a b : Nat) : ends2 n g a b < 2 ^ n := Nat.lt_pow_two_of_testBit _ fun i hi => by
  unfold ends2
  rw [andNot_bit, andNot_bit, mskN_bit]
  have : ¬ i < n := by omega
  simp [this]
theorem ends2_bits (n : Nat) (g : Nat → Nat → Bool) (a b : Nat) : bitsOf n (ends2 n g a b) = (List.range n).filter fun c => g a c && !g b c && decide (c ≠ b) := List.filter_congr fun i hi => by
  have h := List.mem_range.mp hi
  unfold ends2
  rw [andNot_bit, andNot_bit, mskN_bit, mskN_bit, Nat.testBit_two_pow]
  by_cases e : i = b
  · simp [h, e]
  · simp [h, e, Ne.symm e]
section
variable {X : Cx} {N : List PySem.Str} {S scope : Scope} {B0 H0 : Hp} {sds : List SD} {os : List (Addr × OV)} {P : D → Prop} {p p1 p2 pos : Pos} {n : Nat} {g : Nat → Nat → Bool} {C : Addr} {e : Expr}
theorem ex_masks (c : Ctx X N S) (wc : WebC X.K C) (i : Nat) {x : PySem.Str} (h : EX X B0 H0 sds os e fun d => ∃ u : Nat, d = .int (u : Int) ∧ u < n ∧ P (.int ((mskN n (g u) : Nat) : Int))) (hs : sds[i]? = some (.d (webO C n g)) := by rfl) (hN : N[i]? = some x := by rfl) (hv : visB S x = true := by decide +kernel)
    (hd : (x == ("__debug__" : PySem.Str)) = false := by decide +kernel) (hcd : (x == ("__classdict__" : PySem.Str)) = false := by decide +kernel) (hb : attributeBase (.Name x p) "masks" X.env (eval (.Name x p) X.env) = eval (.Name x p) X.env := by rfl) (hx : PlainIx e := by exact fun _ _ => rfl) : EX X B0 H0 sds os (.Subscript (.Attribute (.Name x p) "masks" p1) e pos) P :=
  ex_ix (ex_fld (ex_var c i ⟨C, webFs n g, .tup (maskl n g), rfl, wc.cl, wc.m, rfl, h.imp fun d ⟨u, e1, hu, hp⟩ => ⟨_, e1, ixT u (maskl_get hu) hp⟩⟩ hs hN hv hd hcd) hb) hx
theorem ex_size (c : Ctx X N S) (wc : WebC X.K C) (i : Nat) {x : PySem.Str} (h : P (.int (n : Int))) (hs : sds[i]? = some (.d (webO C n g)) := by rfl) (hN : N[i]? = some x := by rfl) (hv : visB S x = true := by decide +kernel)
    (hd : (x == ("__debug__" : PySem.Str)) = false := by decide +kernel) (hcd : (x == ("__classdict__" : PySem.Str)) = false := by decide +kernel) (hb : attributeBase (.Name x p) "size" X.env (eval (.Name x p) X.env) = eval (.Name x p) X.env := by rfl) : EX X B0 H0 sds os (.Attribute (.Name x p) "size" pos) P :=
  ex_fld (ex_var c i ⟨C, webFs n g, .int (n : Int), rfl, wc.cl, wc.s, rfl, h⟩ hs hN hv hd hcd) hb
end
def placeF : List (PySem.Str × D) := [("place", .int 0)]
def tiedF (a b : Nat) : List (PySem.Str × D) := [("second", .int (b : Int)), ("first", .int (a : Int))]
def spCheck (CW CT : Addr) : SpD := fun ds P R => ∃ (n : Nat) (g : Nat → Nat → Bool) (a b : Nat), ds = [webO CW n g, prn (a, b)] ∧ a < n ∧ b < n ∧ (g a b = true → P .non) ∧ (g a b = false → R CT (tiedF a b))
abbrev N26 : List PySem.Str := ["web", "pair"]
theorem ixPn0 {a b : Nat} {P : D → Prop} (p : P (.int (a : Int))) : IxD (prn (a, b)) 0 P := ixT 0 rfl p
theorem ixPn1 {a b : Nat} {P : D → Prop} (p : P (.int (b : Int))) : IxD (prn (a, b)) 1 P := ixT 1 rfl p
theorem body_check_tied {X : Cx} (c : CtxT X N26 (defScope (top 26))) {CW CT : Addr} (wc : WebC X.K CW) {k : Nat} (hr : Room (k + 1) X.A) (fHas : FnD X.prog X.w X.K X.mg X.base "has_thing" k spHas) (xc : ExcD X.prog X.w X.K X.mg X.base "NotTied" CT k ["first", "second"]) : BodyOk X N26 (spCheck CW CT) (defBody (top 26)) := by
  intro ds P R h B0 H0 air
  obtain ⟨n, g, a, b, rfl, ha, hb, h1, h2⟩ := h
  refine go_cons (g1_if (tx_not (tx_val (ex_call c.toCtx fHas (hr.mono (by omega)) (ea_cons (ex_masks c.toCtx wc 0 (ex_ix (ex_var c.toCtx 1 (ex_int ⟨0, rfl, ixPn0 ⟨a, rfl, ha, ea_cons (ex_ix (ex_var c.toCtx 1 (ex_int ⟨1, rfl, ixPn1 (ea_nil ⟨mskN n (g a), b, rfl, _, rfl, ?_⟩)⟩)))⟩⟩)))))))))
  rw [mskN_bit, decide_eq_true hb, Bool.true_and]
  refine ⟨fun hc => ?_, fun hc => ?_⟩
  · have e : g a b = false := by simpa using hc
    exact go_cons (g1_raise c.toCtx xc hr air (ea_cons (ex_ix (ex_var c.toCtx 1 (ex_int ⟨0, rfl, ixPn0 (ea_cons (ex_ix (ex_var c.toCtx 1 (ex_int ⟨1, rfl, ixPn1 (ea_nil ⟨rfl, by decide, h2 e⟩)⟩))))⟩)))))
  · have e : g a b = true := by simpa using hc
    exact go_nil (go_nil (h1 e))
/-- what becomes of an arrow that is passed -/
def ArrD (CB CT : Addr) (n : Nat) (g : Nat → Nat → Bool) (d : D) (P : Nat → Nat → Prop) (R : Addr → List (PySem.Str × D) → Prop) : Prop :=
  (pairOf n d = none → R CB placeF) ∧ ∀ a b : Nat, pairOf n d = some ((a : Int), (b : Int)) → (g a b = true → P a b) ∧ (g a b = false → R CT (tiedF a b))
theorem pairOf_nat {n : Nat} {d : D} {i j : Int} (h : pairOf n d = some (i, j)) : ∃ a b : Nat, i = (a : Int) ∧ j = (b : Int) ∧ a < n ∧ b < n ∧ a ≠ b := by
  obtain ⟨_, h1, h2, h3, h4, h5⟩ := pairOf_some h
  exact ⟨i.toNat, j.toNat, by omega, by omega, by omega, by omega, by omega⟩
def spArrow (CW CB CT : Addr) : SpD := fun ds P R => ∃ (n : Nat) (g : Nat → Nat → Bool) (d : D), ds = [webO CW n g, d] ∧ okP d ∧ ArrD CB CT n g d (fun a b => a < n → b < n → P (prn (a, b))) R
abbrev N27 : List PySem.Str := ["web", "arrow"]
theorem body_arrow_of {X : Cx} (c : CtxT X N27 (defScope (top 27))) {CW CB CT : Addr} (wc : WebC X.K CW) {k : Nat} (hr : Room k X.A) (fPair : FnD X.prog X.w X.K X.mg X.base "pair_of" k (spPairOf CB)) (fCheck : FnD X.prog X.w X.K X.mg X.base "check_tied" k (spCheck CW CT)) : BodyOk X N27 (spArrow CW CB CT) (defBody (top 27)) := by
  intro ds P R h B0 H0 air
  obtain ⟨n, g, d, rfl, ok, h1, h2⟩ := h
  refine go_cons (g1_asg c.toCtxD 1 (ex_callX c.toCtx fPair hr air (ea_cons (ex_size c.toCtx wc 0 (ea_cons (ex_var c.toCtx 1 (ea_nil ⟨n, d, rfl, ok, fun i j e => ?_, h1⟩)))))))
  obtain ⟨a, b, rfl, rfl, ha, hb, _⟩ := pairOf_nat e
  obtain ⟨h3, h4⟩ := h2 a b e
  exact go_cons (g1_expr (ex_callX c.toCtx fCheck hr air (ea_cons (ex_var c.toCtx 0 (ea_cons (ex_var c.toCtx 1 (ea_nil ⟨n, g, a, b, rfl, ha, hb, fun hg => go_cons (g1_ret (ex_var c.toCtx 1 (h3 hg ha hb))), h4⟩)))))))
def spTwo (CW CB CT : Addr) : SpD := fun ds P R => ∃ (n : Nat) (g : Nat → Nat → Bool) (d d' : D), ds = [webO CW n g, d, d'] ∧ okP d ∧ okP d' ∧ (pairOf n d = none → R CB placeF) ∧
  ∀ a b : Nat, pairOf n d = some ((a : Int), (b : Int)) → (pairOf n d' = none → R CB placeF) ∧ ∀ a' b' : Nat, pairOf n d' = some ((a' : Int), (b' : Int)) → (g a b = false → R CT (tiedF a b)) ∧ (g a b = true → (g a' b' = false → R CT (tiedF a' b')) ∧ (g a' b' = true → a < n → b < n → a' < n → b' < n → P (.tup [prn (a, b), prn (a', b')])))
abbrev N28 : List PySem.Str := ["web", "one", "other"]
theorem body_two_arrows {X : Cx} (c : CtxT X N28 (defScope (top 28))) {CW CB CT : Addr} (wc : WebC X.K CW) {k : Nat} (hr : Room k X.A) (fPair : FnD X.prog X.w X.K X.mg X.base "pair_of" k (spPairOf CB)) (fCheck : FnD X.prog X.w X.K X.mg X.base "check_tied" k (spCheck CW CT)) : BodyOk X N28 (spTwo CW CB CT) (defBody (top 28)) := by
  intro ds P R h B0 H0 air
  obtain ⟨n, g, d, d', rfl, ok, ok', h1, h2⟩ := h
  refine go_cons (g1_asg c.toCtxD 1 (ex_callX c.toCtx fPair hr air (ea_cons (ex_size c.toCtx wc 0 (ea_cons (ex_var c.toCtx 1 (ea_nil ⟨n, d, rfl, ok, fun i j e => ?_, h1⟩)))))))
  obtain ⟨a, b, rfl, rfl, ha, hb, _⟩ := pairOf_nat e
  obtain ⟨h3, h4⟩ := h2 a b e
  refine go_cons (g1_asg c.toCtxD 2 (ex_callX c.toCtx fPair hr air (ea_cons (ex_size c.toCtx wc 0 (ea_cons (ex_var c.toCtx 2 (ea_nil ⟨n, d', rfl, ok', fun i j e' => ?_, h3⟩)))))))
  obtain ⟨a', b', rfl, rfl, ha', hb', _⟩ := pairOf_nat e'
  obtain ⟨h5, h6⟩ := h4 a' b' e'
  refine go_cons (g1_expr (ex_callX c.toCtx fCheck hr air (ea_cons (ex_var c.toCtx 0 (ea_cons (ex_var c.toCtx 1 (ea_nil ⟨n, g, a, b, rfl, ha, hb, fun hg => ?_, h5⟩)))))))
  refine go_cons (g1_expr (ex_callX c.toCtx fCheck hr air (ea_cons (ex_var c.toCtx 0 (ea_cons (ex_var c.toCtx 2 (ea_nil ⟨n, g, a', b', rfl, ha', hb', fun hg' => ?_, (h6 hg).1⟩)))))))
  exact go_cons (g1_ret (ex_tup (ea_cons (ex_var c.toCtx 1 (ea_cons (ex_var c.toCtx 2 (ea_nil ⟨le2, (h6 hg).2 hg' ha hb ha' hb'⟩)))))))
def spFrom (CW : Addr) : SpD := fun ds P _ => ∃ (n : Nat) (g : Nat → Nat → Bool) (a b : Nat), ds = [webO CW n g, prn (a, b)] ∧ n ≤ 1000 ∧ a < n ∧ b < n ∧ P (.lst ((stepsN n g a b).map prn))
abbrev N29 : List PySem.Str := ["web", "arrow", "first", "second", "ends", "starts", "end", "start"]
theorem body_forced_from {X : Cx} (c : CtxT X N29 (defScope (top 29))) {CW : Addr} (wc : WebC X.K CW) {k : Nat} (hr : Room k X.A) (fThings : FnD X.prog X.w X.K X.mg X.base "things_in" k spThings) : BodyOk X N29 (spFrom CW) (defBody (top 29)) := by
  intro ds P R h B0 H0 air
  obtain ⟨n, g, a, b, rfl, hn, ha, hb, hp⟩ := h
  have hfl : ∀ f : Nat → Bool, ((List.range n).filter f).length ≤ n := fun f => Nat.le_trans (List.length_filter_le _ _) (by simp)
  have two : ∀ x y z : Nat, Builtin.bitAnd (Builtin.bitAnd (x : Int) (Builtin.bitNot (y : Int))) (Builtin.bitNot (1 * 2 ^ (z : Int).toNat)) = ((andNot (andNot x y) (2 ^ z) : Nat) : Int) := fun x y z => by
    rw [shl_nat, bnot_nat, bnot_nat, band_neg, band_neg]
  refine go_cons (g1_asg2 c.toCtxD 2 3 (ex_var c.toCtx 1 ⟨_, _, rfl, ?_⟩))
  refine go_cons (g1_asg c.toCtxD 4 (ex_andI (ex_andI (ex_masks c.toCtx wc 0 (ex_var c.toCtx 2 ⟨a, rfl, ha, _, rfl, ex_inv (ex_masks c.toCtx wc 0 (ex_var c.toCtx 3 ⟨b, rfl, hb, _, rfl, _, rfl, _, rfl, ex_inv (ex_shl (ex_int ⟨1, rfl, ex_var c.toCtx 3 ⟨(b : Int), rfl, cshl b (by omega), _, rfl, _, rfl, ?_⟩⟩))⟩))⟩)))))
  rw [two]
  refine go_cons (g1_asg c.toCtxD 5 (ex_andI (ex_andI (ex_masks c.toCtx wc 0 (ex_var c.toCtx 3 ⟨b, rfl, hb, _, rfl, ex_inv (ex_masks c.toCtx wc 0 (ex_var c.toCtx 2 ⟨a, rfl, ha, _, rfl, _, rfl, _, rfl, ex_inv (ex_shl (ex_int ⟨1, rfl, ex_var c.toCtx 2 ⟨(a : Int), rfl, cshl a (by omega), _, rfl, _, rfl, ?_⟩⟩))⟩))⟩)))))
  rw [two]
  refine go_cons (g1_ret (ex_ofL (el_cat (ex_ofL (el_lc0 c.toCtx [("end", 6)] (.nm 6) (fun X' b => tb_nm (b.ctx c.toCtx) 6) (ix_tup (ex_call c.toCtx fThings hr (ea_cons (ex_var c.toCtx 4 (ea_nil ⟨n, ends2 n g a b, rfl, ends2_lt n g a b, hn, _, rfl, ?_⟩))))))))))
  rw [ends2_bits]
  refine ⟨Nat, (List.range n).filter (fun c => g a c && !g b c && decide (c ≠ b)), natD, fun c => prn (a, c), rfl, Nat.le_trans (hfl _) (by omega), fun q _ X' bx => ?_, _, rfl, ?_⟩
  · exact ex_tup (ea_cons (ex_var (bx.ctx c.toCtx) 2 (ea_cons (ex_var (bx.ctx c.toCtx) 6 (ea_nil ⟨le2, rfl⟩)))))
  refine ex_ofL (el_lc0 c.toCtx [("start", 7)] (.nm 7) (fun X' b => tb_nm (b.ctx c.toCtx) 7) (ix_tup (ex_call c.toCtx fThings hr (ea_cons (ex_var c.toCtx 5 (ea_nil ⟨n, ends2 n g b a, rfl, ends2_lt n g b a, hn, _, rfl, ?_⟩))))))
  rw [ends2_bits]
  refine ⟨Nat, (List.range n).filter (fun c => g b c && !g a c && decide (c ≠ a)), natD, fun c => prn (c, b), rfl, Nat.le_trans (hfl _) (by omega), fun q _ X' bx => ?_, _, rfl, ?_, ?_⟩
  · exact ex_tup (ea_cons (ex_var (bx.ctx c.toCtx) 7 (ea_cons (ex_var (bx.ctx c.toCtx) 3 (ea_nil ⟨le2, rfl⟩)))))
  · rw [List.length_map, List.length_map]
    have := hfl (fun c => g a c && !g b c && decide (c ≠ b))
    have := hfl (fun c => g b c && !g a c && decide (c ≠ a))
    omega
  · unfold stepsN at hp
    rw [List.map_append, List.map_map, List.map_map] at hp
    exact hp
def spForcedBy (CW CB CT : Addr) : SpD := fun ds P R => ∃ (n : Nat) (g : Nat → Nat → Bool) (d : D), ds = [webO CW n g, d] ∧ n ≤ 1000 ∧ okP d ∧ ArrD CB CT n g d (fun a b => a < n → b < n → P (.tup ((srt ((stepsN n g a b).map cp)).map pr))) R
theorem body_forced_by {X : Cx} (c : CtxT X N27 (defScope (top 30))) (bi : Bi X.mg) {CW CB CT : Addr} (wc : WebC X.K CW) {k : Nat} (hr : Room k X.A) (fArrow : FnD X.prog X.w X.K X.mg X.base "arrow_of" k (spArrow CW CB CT)) (fFrom : FnD X.prog X.w X.K X.mg X.base "forced_from" k (spFrom CW)) : BodyOk X N27 (spForcedBy CW CB CT) (defBody (top 30)) := by
  intro ds P R h B0 H0 air
  obtain ⟨n, g, d, rfl, hn, ok, h1, h2⟩ := h
  refine go_cons (g1_ret (ex_tupleOf c.toCtx bi.tuple (ex_ofL (el_sortP c.toCtx bi.sorted (ex_call c.toCtx fFrom hr (ea_cons (ex_var c.toCtx 0 (ea_cons (ex_callX c.toCtx fArrow hr air (ea_cons (ex_var c.toCtx 0 (ea_cons (ex_var c.toCtx 1 (ea_nil ⟨n, g, d, rfl, ok, h1, fun a b e => ⟨fun hg ha hb => ea_nil ⟨n, g, a, b, rfl, hn, ha, hb, _, congrArg D.lst (map_prn _), _, .inl rfl, (h2 a b e).1 hg ha hb⟩, (h2 a b e).2⟩⟩))))))))))))))
def spForces (CW CB CT : Addr) : SpD := fun ds P R => ∃ (n : Nat) (g : Nat → Nat → Bool) (d d' : D), ds = [webO CW n g, d, d'] ∧ n ≤ 1000 ∧ okP d ∧ okP d' ∧ (pairOf n d = none → R CB placeF) ∧
  ∀ a b : Nat, pairOf n d = some ((a : Int), (b : Int)) → (pairOf n d' = none → R CB placeF) ∧ ∀ a' b' : Nat, pairOf n d' = some ((a' : Int), (b' : Int)) → (g a b = false → R CT (tiedF a b)) ∧ (g a b = true → (g a' b' = false → R CT (tiedF a' b')) ∧ (g a' b' = true → P (.bl (decide ((a', b') ∈ stepsN n g a b)))))
abbrev N31 : List PySem.Str := ["web", "first", "last"]
theorem body_forces {X : Cx} (c : CtxT X N31 (defScope (top 31))) (bi : Bi X.mg) {CW CB CT : Addr} (wc : WebC X.K CW) {k : Nat} (hr : Room k X.A) (fTwo : FnD X.prog X.w X.K X.mg X.base "two_arrows_of" k (spTwo CW CB CT)) (fFrom : FnD X.prog X.w X.K X.mg X.base "forced_from" k (spFrom CW)) : BodyOk X N31 (spForces CW CB CT) (defBody (top 31)) := by
  intro ds P R h B0 H0 air
  obtain ⟨n, g, d, d', rfl, hn, ok, ok', h1, h2⟩ := h
  refine go_cons (g1_asg2 c.toCtxD 1 2 (ex_callX c.toCtx fTwo hr air (ea_cons (ex_var c.toCtx 0 (ea_cons (ex_var c.toCtx 1 (ea_cons (ex_var c.toCtx 2 (ea_nil ⟨n, g, d, d', rfl, ok, ok', h1, fun a b e => ⟨(h2 a b e).1, fun a' b' e' => ⟨((h2 a b e).2 a' b' e').1, fun hg => ⟨(((h2 a b e).2 a' b' e').2 hg).1, fun hg' ha hb ha' hb' => ?_⟩⟩⟩⟩)))))))))
  refine ⟨_, _, rfl, ?_⟩
  refine go_cons (g1_ret (ex_inD hr (ex_var c.toCtx 2 (ex_call c.toCtx fFrom hr (ea_cons (ex_var c.toCtx 0 (ea_cons (ex_var c.toCtx 1 (ea_nil ⟨n, g, a, b, rfl, hn, ha, hb, _, rfl, shp_pr (cp (a', b')), by rw [map_prn]; exact shp_prs _, ?_⟩)))))))))
  rw [map_prn, any_prs]
  have e2 : decide (cp (a', b') ∈ (stepsN n g a b).map cp) = decide ((a', b') ∈ stepsN n g a b) := decide_eq_decide.mpr mem_cp
  rw [e2]
  exact (((h2 a b e).2 a' b' e').2 hg).2 hg'
end OB
set_option Elab.async false
set_option linter.all false
set_option maxRecDepth 100000
set_option maxHeartbeats 4000000
namespace OB
open PySem PySem.Spec PyProof.Rows L2
section
variable {X : Cx} {N : List PySem.Str} {S scope : Scope} {B0 H0 : Hp} {sds : List SD} {os : List (Addr × OV)} {P : D → Prop} {p p1 p2 pos : Pos} {a b e : Expr}
theorem ex_eqB (h : EX X B0 H0 sds os a fun da => ∃ i, da = .bl i ∧ EX X B0 H0 sds os b fun db => ∃ j, db = .bl j ∧ P (.bl (decide (i = j)))) : EX X B0 H0 sds os (.Compare a [.Eq] [b] pos) P :=
  ex_cmpB op_eq (nomark _) (h.imp fun _ ⟨i, e, k⟩ => k.imp fun _ ⟨j, e', p⟩ => by subst e; subst e'; exact cmp_eqB p)
end
/-! ### the law's looks -/
theorem body_law_int {X : Cx} (c : CtxT X ["_law_value"] (defScope (top 58))) (bi : Bi X.mg) : BodyOk X ["_law_value"] spWhole (defBody (top 58)) := by
  intro ds P R h B0 H0 air
  obtain ⟨d, rfl, ok, hp⟩ := h
  obtain ⟨t, ht⟩ := okT_get ok
  refine go_cons (g1_ret (ex_andV (k1 := isIntB d) (k2 := !isBlB d) (ex_isi c.toCtx bi.isinstance bi.int (ex_var c.toCtx 0 ⟨t, _, ht, kit_int ht, rfl⟩)) (fun _ => ex_one (ex_not (ex_isi c.toCtx bi.isinstance bi.bool (ex_var c.toCtx 0 ⟨t, _, ht, kit_bool ht, _, rfl, rfl⟩)))) ?_))
  have e : (isIntB d && !isBlB d) = whB d := by cases d <;> rfl
  rw [e]; exact hp
/-- a tuple of ints from 0 to m - 1 -/
def spInts : SpD := fun ds P _ => ∃ (l : List Int) (m : Int), ds = [.tup (l.map .int), .int m] ∧ (∀ x ∈ l, 0 ≤ x ∧ x < m) ∧ P (.bl true)
abbrev N59 : List PySem.Str := ["_law_value", "_law_many", "_law_one"]
theorem body_law_ints {X : Cx} (c : CtxT X N59 (defScope (top 59))) (bi : Bi X.mg) {k : Nat} (hr : Room k X.A) (fInt : FnD X.prog X.w X.K X.mg X.base "_law_int" k spWhole) : BodyOk X N59 spInts (defBody (top 59)) := by
  intro ds P R h B0 H0 air
  obtain ⟨l, m, rfl, hl, hp⟩ := h
  refine go_cons (g1_if (tx_not (tx_val (ex_isi (tn := "tuple") c.toCtx bi.isinstance bi.tuple (ex_var c.toCtx 0 ⟨"tuple", true, rfl, rfl, true, rfl, fun z => (by cases z), fun _ => go_nil ?_⟩)))))
  let I : LoopI := fun k sds os => ∃ x : SD, sds = [.d (.tup (l.map .int)), .d (.int m), x] ∧ os = []
  refine go_cut (I l.length) (g1_for (t := .nm 2) c.own c.calm (tg_nm c.toCtxD 2) (ix_tup (ex_var c.toCtx 0 ⟨_, rfl, forOk_map I ⟨_, rfl, rfl⟩ ?_ fun _ _ h => h⟩))) ?_
  · rintro k i sds os hk ⟨x, rfl, rfl⟩
    have hi := hl i (List.mem_of_getElem? hk)
    refine go_cons (g1_if (tx_w (wx_or (k1 := false) (k2 := false) ?_ (fun _ => wx_or (k1 := false) (k2 := false) ?_ (fun _ => ?_) rfl) ⟨fun z => (by cases z), fun _ => go_nil (go_nil ⟨_, rfl, rfl⟩)⟩)))
    · exact tx_not (tx_val (ex_call c.toCtx fInt hr (ea_cons (ex_var c.toCtx 2 (ea_nil ⟨.int i, rfl, rfl, _, rfl, rfl⟩)))))
    · exact tx_ltI (ex_var c.toCtx 2 ⟨i, rfl, ex_int ⟨0, rfl, by simp; omega⟩⟩)
    · exact tx_or1 (tx_geI (ex_var c.toCtx 2 ⟨i, rfl, ex_var c.toCtx 1 ⟨m, rfl, by simp; omega⟩⟩))
  · rintro sds os ⟨x, rfl, rfl⟩
    exact go_cons (g1_ret (ex_bl hp))
/-- ascending pairs -/
def spPairsL : SpD := fun ds P _ => ∃ (l : List (Int × Int)) (n : Int), ds = [.tup (l.map pr), .int n] ∧ (∀ p ∈ l, 0 ≤ p.1 ∧ p.1 < n ∧ 0 ≤ p.2 ∧ p.2 < n ∧ p.1 ≠ p.2) ∧ l.Pairwise (SrtO.lexB · ·) ∧ P (.bl true)
abbrev N60 : List PySem.Str := ["_law_value", "_law_size", "_law_last", "_law_pair"]
theorem body_law_pairs {X : Cx} (c : CtxT X N60 (defScope (top 60))) (bi : Bi X.mg) {k : Nat} (hr : Room k X.A) (fInts : FnD X.prog X.w X.K X.mg X.base "_law_ints" k spInts) : BodyOk X N60 spPairsL (defBody (top 60)) := by
  intro ds P R h B0 H0 air
  obtain ⟨l, n, rfl, hl, hs, hp⟩ := h
  refine go_cons (g1_if (tx_not (tx_val (ex_isi (tn := "tuple") c.toCtx bi.isinstance bi.tuple (ex_var c.toCtx 0 ⟨"tuple", true, rfl, rfl, true, rfl, fun z => (by cases z), fun _ => go_nil ?_⟩)))))
  refine go_cons (g1_asg c.toCtxD 2 (ex_tup (ea_cons (ex_neg (ex_int ⟨1, rfl, ea_cons (ex_neg (ex_int ⟨1, rfl, ea_nil ⟨le2, ?_⟩⟩))⟩)))))
  let I : LoopI := fun k sds os => ∃ (x : SD) (q : Int × Int), sds = [.d (.tup (l.map pr)), .d (.int n), .d (pr q), x] ∧ os = [] ∧ ∀ p, l[k]? = some p → SrtO.lexB q p = true
  refine go_cut (fun sds os => ∃ (x y : SD), sds = [.d (.tup (l.map pr)), .d (.int n), x, y] ∧ os = []) (g1_for (t := .nm 3) c.own c.calm (tg_nm c.toCtxD 3) (ix_tup (ex_var c.toCtx 0 ⟨_, rfl, forOk_map I ⟨_, (-1, -1), rfl, rfl, fun p hp => ?_⟩ ?_ ?_⟩))) ?_
  · have := hl p (List.mem_of_getElem? hp)
    unfold SrtO.lexB
    by_cases e : (-1 : Int) = p.1 <;> simp [e] <;> omega
  · rintro k p sds os hk ⟨x, q, rfl, rfl, hq⟩
    have hi := hl p (List.mem_of_getElem? hk)
    refine go_cons (g1_if (tx_w (wx_or (k1 := false) (k2 := false) ?_ (fun _ => wx_or (k1 := false) (k2 := false) ?_ (fun _ => wx_or (k1 := false) (k2 := false) ?_ (fun _ => ?_) rfl) rfl) ⟨fun z => (by cases z), fun _ => go_nil ?_⟩)))
    · exact tx_not (tx_val (ex_call c.toCtx fInts hr (ea_cons (ex_var c.toCtx 3 (ea_cons (ex_var c.toCtx 1 (ea_nil ⟨[p.1, p.2], n, rfl, by simp; omega, _, rfl, rfl⟩)))))))
    · exact tx_neI (ex_len c.toCtx bi.len (ex_var (d := pr p) c.toCtx 3 ⟨2, rfl, _, rfl, ex_int ⟨2, rfl, rfl⟩⟩))
    · exact tx_eqI (ex_ix (ex_var c.toCtx 3 (ex_int ⟨0, rfl, ixT 0 rfl ⟨p.1, rfl, ex_ix (ex_var c.toCtx 3 (ex_int ⟨1, rfl, ixT 1 rfl ⟨p.2, rfl, by simp; omega⟩⟩))⟩⟩)))
    · exact tx_or1 (tx_not (tx_ltP hr (ex_var c.toCtx 2 ⟨q, rfl, ex_var c.toCtx 3 ⟨p, rfl, by rw [hq p hk]; rfl⟩⟩)))
    · refine go_cons (g1_asg c.toCtxD 2 (ex_var c.toCtx 3 (go_nil ⟨_, p, rfl, rfl, fun p' hp' => ?_⟩)))
      obtain ⟨l1, e1⟩ := List.getElem?_eq_some_iff.mp hk
      obtain ⟨l2, e2⟩ := List.getElem?_eq_some_iff.mp hp'
      have := List.pairwise_iff_getElem.mp hs k (k + 1) l1 l2 (by omega)
      rw [e1, e2] at this
      exact this
  · rintro sds os ⟨x, q, rfl, rfl, _⟩
    exact ⟨_, _, rfl, rfl⟩
  · rintro sds os ⟨x, y, rfl, rfl⟩
    exact go_cons (g1_ret (ex_bl hp))
def spSays : SpD := fun ds P _ => ∃ v w : Bool, ds = [.bl v, .bl w] ∧ P (.bl (decide (v = w)))
abbrev N62 : List PySem.Str := ["_law_value", "_law_due"]
theorem body_law_says {X : Cx} (c : CtxT X N62 (defScope (top 62))) (bi : Bi X.mg) : BodyOk X N62 spSays (defBody (top 62)) := by
  intro ds P R h B0 H0 air
  obtain ⟨v, w, rfl, hp⟩ := h
  exact go_cons (g1_ret (ex_andV (k1 := true) (k2 := decide (v = w)) (ex_isi (tn := "bool") c.toCtx bi.isinstance bi.bool (ex_var c.toCtx 0 ⟨"bool", true, rfl, rfl, rfl⟩)) (fun _ => ex_one (ex_eqB (ex_var c.toCtx 0 ⟨v, rfl, ex_var c.toCtx 1 ⟨w, rfl, rfl⟩⟩))) hp))
def spSteps : SpD := fun ds P _ => ∃ (n : Nat) (g : Nat → Nat → Bool) (a b : Nat), ds = [webD n g, prn (a, b)] ∧ n ≤ 100 ∧ Sym g ∧ a < n ∧ b < n ∧ P (.lst ((stepsN n g a b).map prn))
abbrev N61 : List PySem.Str := ["_law_near_here", "_law_arrow", "_law_a", "_law_b", "_law_size", "_law_out", "_law_c"]
theorem bit_eq0 (b : Bool) : (decide ((if b then 1 else 0 : Int) = 0)) = !b := by cases b <;> rfl
theorem body_law_steps {X : Cx} (c : CtxT X N61 (defScope (top 61))) (bi : Bi X.mg) : BodyOk X N61 spSteps (defBody (top 61)) := by
  intro ds P R h B0 H0 air
  obtain ⟨n, g, a, b, rfl, hn, hg, ha, hb, hp⟩ := h
  have hfl : ∀ f : Nat → Bool, ((List.range n).filter f).length ≤ n := fun f => Nat.le_trans (List.length_filter_le _ _) (by simp)
  refine go_cons (g1_asg c.toCtxD 2 (ex_ix (ex_var c.toCtx 1 (ex_int ⟨0, rfl, ixPn0 ?_⟩))))
  refine go_cons (g1_asg c.toCtxD 3 (ex_ix (ex_var c.toCtx 1 (ex_int ⟨1, rfl, ixPn1 ?_⟩))))
  refine go_cons (g1_asg c.toCtxD 4 (ex_len c.toCtx bi.len (ex_var c.toCtx 0 ⟨n, web_len, ?_⟩)))
  refine go_cons (g1_setLc1 c.toCtxD 5 [("_law_c", 6)] (.nm 6) (fun X' b => tb_nm (b.ctx c.toCtx) 6) (ix_range1 c.toCtx bi.range (ex_var c.toCtx 4 ⟨(n : Int), rfl, by omega, by omega, ?_⟩)))
  rw [rngI]
  refine ⟨Nat, List.range n, natD, fun x => g a x && !g b x && decide (x ≠ b), fun x => prn (a, x), rfl, by simp; omega, fun x hx X' bx => ⟨?_, fun _ => ?_⟩, ?_⟩
  · have c' := bx.ctx c.toCtx
    have hx' := List.mem_range.mp hx
    refine tx_w (wx_and (k1 := decide (x ≠ b)) (k2 := g a x && !g b x) (tx_neI (ex_var c' 6 ⟨(x : Int), rfl, ex_var c' 3 ⟨(b : Int), rfl, ?_⟩⟩)) (fun _ => wx_and (k1 := g a x) (k2 := !g b x) ?_ (fun _ => tx_and1 ?_) rfl) ?_)
    · by_cases e : x = b <;> simp [e, Int.ofNat_inj]
    · exact tx_eqI (ex_ix (ex_ix (ex_var c' 0 (ex_var c' 2 ⟨_, rfl, ixW ha (ex_var c' 6 ⟨_, rfl, ixR hx' ⟨_, rfl, ex_int ⟨1, rfl, bit_eq1 _⟩⟩⟩)⟩))))
    · exact tx_eqI (ex_ix (ex_ix (ex_var c' 0 (ex_var c' 3 ⟨_, rfl, ixW hb (ex_var c' 6 ⟨_, rfl, ixR hx' ⟨_, rfl, ex_int ⟨0, rfl, bit_eq0 _⟩⟩⟩)⟩))))
    · rw [Bool.and_comm]
  · exact ex_tup (ea_cons (ex_var (bx.ctx c.toCtx) 2 (ea_cons (ex_var (bx.ctx c.toCtx) 6 (ea_nil ⟨le2, rfl⟩)))))
  refine go_cons (g1_ret (ex_ofL (el_cat (ex_var c.toCtx 5 ⟨_, rfl, ex_ofL (el_lc1 c.toCtx [("_law_c", 6)] (.nm 6) (fun X' b => tb_nm (b.ctx c.toCtx) 6) (ix_range1 c.toCtx bi.range (ex_var c.toCtx 4 ⟨(n : Int), rfl, by omega, by omega, ?_⟩)))⟩))))
  rw [rngI]
  refine ⟨Nat, List.range n, natD, fun x => g b x && !g a x && decide (x ≠ a), fun x => prn (x, b), rfl, by simp; omega, fun x hx X' bx => ⟨?_, fun _ => ?_⟩, _, rfl, ?_, ?_⟩
  · have c' := bx.ctx c.toCtx
    have hx' := List.mem_range.mp hx
    refine tx_w (wx_and (k1 := decide (x ≠ a)) (k2 := g b x && !g a x) (tx_neI (ex_var c' 6 ⟨(x : Int), rfl, ex_var c' 2 ⟨(a : Int), rfl, ?_⟩⟩)) (fun _ => wx_and (k1 := g b x) (k2 := !g a x) ?_ (fun _ => tx_and1 ?_) rfl) ?_)
    · by_cases e : x = a <;> simp [e, Int.ofNat_inj]
    · exact tx_eqI (ex_ix (ex_ix (ex_var c' 0 (ex_var c' 6 ⟨_, rfl, ixW hx' (ex_var c' 3 ⟨_, rfl, ixR hb ⟨_, rfl, ex_int ⟨1, rfl, by rw [bit_eq1, hg.1]⟩⟩⟩)⟩))))
    · exact tx_eqI (ex_ix (ex_ix (ex_var c' 0 (ex_var c' 2 ⟨_, rfl, ixW ha (ex_var c' 6 ⟨_, rfl, ixR hx' ⟨_, rfl, ex_int ⟨0, rfl, bit_eq0 _⟩⟩⟩)⟩))))
    · rw [Bool.and_comm]
  · exact ex_tup (ea_cons (ex_var (bx.ctx c.toCtx) 6 (ea_cons (ex_var (bx.ctx c.toCtx) 3 (ea_nil ⟨le2, rfl⟩)))))
  · rw [List.length_map, List.length_map]
    have := hfl (fun c => g a c && !g b c && decide (c ≠ b))
    have := hfl (fun c => g b c && !g a c && decide (c ≠ a))
    omega
  · unfold stepsN at hp
    rw [List.map_append, List.map_map, List.map_map] at hp
    exact hp
end OB
set_option Elab.async false
set_option linter.all false
set_option maxRecDepth 100000
set_option maxHeartbeats 4000000
namespace OB
open PySem PySem.Spec PyProof.Rows L2
theorem body_take {X : Cx} (c : CtxT X ["_law_draws_here", "_law_many"] (defScope (top 40))) (bi : Bi X.mg) : BodyOk X ["_law_draws_here", "_law_many"] spTake (defBody (top 40)) := by
  intro ds P R h B0 H0 air
  obtain ⟨m, rfl, hm, hp⟩ := h
  intro A B H σ ea s
  obtain ⟨v0, e0, i0⟩ := s.var (i := 0) (d := .drw) rfl
  obtain ⟨v1, e1, i1⟩ := s.var (i := 1) (d := .int m) rfl
  cases i1
  cases i0 with
  | @drw a hB =>
  have hH := s.g.bh _ _ hB
  refine wSs_view hH fun ns => ?_
  have back : ∀ H' : Hp, Ex (upd H a (.lst (ns.map V.int))) H' → Ex H (upd H' a (drawsHO a)) := fun H' e b o q => by
    by_cases hb : b = a
    · subst hb; rw [upd_same]; rw [hH] at q; exact q
    · rw [upd_ne hb]; exact e _ _ (by rw [upd_ne hb]; exact q)
  have fin : ∀ (H' : Hp) (r : Int), Ex (upd H a (.lst (ns.map V.int))) H' → 0 ≤ r → r < m → (DE.ends X.K B0 H0 A { rt := P, nx := fun _ _ => P .non }).rt (.int r) (upd H' a (drawsHO a)) := fun H' r e h1 h2 =>
    ⟨B, .int r, ea, ⟨s.g.b, s.g.h.trans (back H' e), s.g.bh.trans (back H' e), s.g.fr⟩, .int r, hp r h1 h2⟩
  have st1 : St X.K (fun _ => none) (fun b => if b = a then none else H b) (fun _ => none) (upd H a (.lst (ns.map V.int))) σ [.v (.ref a), .d (.int m)] [(a, .lst (ns.map .int))] := by
    refine ⟨⟨fun _ _ q => q, fun b o q => ?_, (fun _ _ q => nomatch q), fun _ q => .inl q⟩, ⟨s.sl.len, fun i sd q => ?_⟩, fun e he => ?_, fun b hb => ?_, by simp [fpt]⟩
    · by_cases hb : b = a
      · simp [hb] at q
      · simp [hb] at q; rw [upd_ne hb]; exact q
    · match i, q with
      | 0, q => cases q; exact e0
      | 1, q => cases q; exact ⟨_, e1, .int m⟩
    · have e' : e = (a, .lst (ns.map .int)) := by simpa using he
      subst e'; exact ⟨_, upd_same, of_ints⟩
    · have e' : b = a := by simpa [fpt] using hb
      subst e'; exact ⟨rfl, by simp⟩
  refine PSs.to (pss_cons (ps_if pt_w pss_w pss_w) (pss_cons ps_w pss_nil)) ?_
  refine (tx_borrow (P := fun b => b = decide (ns = [])) 0 0 (tx_eqI (ex_len c.toCtx bi.len (ex_var c.toCtx 0 ⟨_, lenL, ⟨_, rfl, ex_int ⟨_, rfl, ?_⟩⟩⟩)))) _ _ _ st1 _ ?_
  · rw [List.length_map]
    cases ns with
    | nil => rfl
    | cons x r => exact decide_eq_decide.mpr (by simp; omega)
  intro b B' H' g hb
  subst hb
  by_cases hn : ns = []
  · rw [if_pos (by simp [hn])]
    refine PSs.to (pss_cons (ps_ret pe_int) pss_nil) ?_
    exact ⟨ns, g.h _ _ upd_same, fin _ _ g.h (by omega) hm⟩
  · rw [if_neg (by simp [hn])]
    refine PSs.to pss_nil ?_
    refine PS.to (ps_ret (pe_op op_mod (pe_callTy call_int1 (c.toCtx.gl (by decide +kernel)) bi.int PyProof.Rows.boot_int (pa_cons (pe_bm0 PySem.F.plainAttrs_list PySem.F.slot_list_pop PySem.F.type_list_pop mt_pop (pe_var (i := 0) (by rw [c.hN]; rfl) (c.toCtx.vis (by decide +kernel)) (by decide +kernel) (by decide +kernel))) pa_nil rfl)  (by decide +kernel) (by decide +kernel) rfl rfl) (pe_var (i := 1) (by rw [c.hN]; rfl) (c.toCtx.vis (by decide +kernel)) (by decide +kernel) (by decide +kernel)))) ?_
    have ha : H' a = some (.lst (ns.map V.int)) := g.h _ _ upd_same
    have hl : ns.getLast? = some (ns.getLast hn) := List.getLast?_eq_some_getLast hn
    refine ⟨.ref a, e0, .inl ⟨rfl, _, SqL.of ha⟩, a, _, .int (ns.getLast hn), rfl, rfl, ha, ?_, ?_⟩
    · rw [List.getElem?_map, List.length_map, ← List.getLast?_eq_getElem?, hl] <;> rfl
    refine .inl ⟨_, rfl, .int m, e1, _, _, rfl, rfl, hm, ns.dropLast, ?_, ?_⟩
    · rw [← List.map_dropLast]; exact upd_same
    · have e : ∀ x y : HO, upd (upd H' a x) a y = upd H' a y := fun x y => by
        funext b
        by_cases hb : b = a
        · subst hb; rw [upd_same, upd_same]
        · rw [upd_ne hb, upd_ne hb, upd_ne hb]
      rw [e]
      exact fin _ _ g.h (Int.emod_nonneg _ (by omega)) (Int.emod_lt_of_pos _ hm)

/-! ### steps, seen from all sides -/
theorem steps_facts {n : Nat} {g : Nat → Nat → Bool} (hg : Sym g) {a b : Nat} (ha : a < n) (hb : b < n) (hab : g a b = true) {p : Nat × Nat} (h : p ∈ stepsN n g a b) :
    p.1 < n ∧ p.2 < n ∧ p.1 ≠ p.2 ∧ g p.1 p.2 = true ∧ (a, b) ∈ stepsN n g p.1 p.2 ∧ (p.2, p.1) ∈ stepsN n g b a := by
  obtain ⟨x, y⟩ := p
  have hba : g b a = true := by rw [hg.1]; exact hab
  rcases mem_steps.mp h with ⟨h1, h2, h3, h4, h5⟩ | ⟨h1, h2, h3, h4, h5⟩
  · have h1' : x = a := h1
    subst h1'
    have e1 : g x y = true := h3
    have e2 : g b y = false := h4
    have ne : x ≠ y := fun e => by rw [e, hg.2] at e1; cases e1
    refine ⟨ha, h2, ne, e1, mem_steps.mpr (.inl ⟨rfl, hb, hab, by rw [hg.1]; exact e2, Ne.symm h5⟩), mem_steps.mpr (.inr ⟨rfl, h2, e1, e2, h5⟩)⟩
  · have h1' : y = b := h1
    subst h1'
    have e1 : g y x = true := h3
    have e2 : g a x = false := h4
    have ne : x ≠ y := fun e => by rw [e, hg.2] at e1; cases e1
    refine ⟨h2, hb, ne, by rw [hg.1]; exact e1, mem_steps.mpr (.inr ⟨rfl, ha, hba, by rw [hg.1]; exact e2, Ne.symm h5⟩), mem_steps.mpr (.inl ⟨rfl, h2, e1, e2, h5⟩)⟩
theorem steps_not {n : Nat} {g : Nat → Nat → Bool} (hg : Sym g) {a b : Nat} (hab : g a b = true) : (a, b) ∉ stepsN n g a b ∧ (b, a) ∉ stepsN n g a b := by
  have ne : a ≠ b := fun e => by rw [e, hg.2] at hab; cases hab
  refine ⟨fun h => ?_, fun h => ?_⟩
  · rcases mem_steps.mp h with ⟨_, _, _, _, h5⟩ | ⟨_, _, _, _, h5⟩
    · exact h5 rfl
    · exact h5 rfl
  · rcases mem_steps.mp h with ⟨h1, _⟩ | ⟨h1, _⟩
    · exact ne h1.symm
    · exact ne h1
theorem steps_nodup (n : Nat) (g : Nat → Nat → Bool) (a b : Nat) : (stepsN n g a b).Nodup := by
  unfold stepsN
  refine List.nodup_append.mpr ⟨?_, ?_, ?_⟩
  · refine List.Pairwise.map _ (fun x y h e => h ?_) (List.nodup_range.filter _)
    exact congrArg Prod.snd e
  · refine List.Pairwise.map _ (fun x y h e => h ?_) (List.nodup_range.filter _)
    exact congrArg Prod.fst e
  · intro p hp q hq e
    subst e
    obtain ⟨c, hc, rfl⟩ := List.mem_map.mp hp
    obtain ⟨d, hd, e⟩ := List.mem_map.mp hq
    rw [List.mem_filter] at hc hd
    have h1 := congrArg Prod.fst e
    have h2 := congrArg Prod.snd e
    simp at h1 h2 hc
    exact hc.2.2 h2.symm
/-- sorted without equal ones: ascending -/
theorem srt_lt {l : List (Int × Int)} (h : l.Nodup) : (srt l).Pairwise (SrtO.lexB · ·) := by
  have h1 := srt_sorted l
  have h2 : (srt l).Nodup := (srt_perm l).nodup_iff.mpr h
  have h3 := h1.and h2
  refine h3.imp fun {p q} ⟨e1, e2⟩ => ?_
  rw [leP_iff] at e1
  rw [SrtO.lexB_iff]
  rcases e1 with e1 | ⟨e1, e3⟩
  · exact .inl e1
  · refine .inr ⟨e1, ?_⟩
    rcases Int.lt_or_eq_of_le e3 with h | h
    · exact h
    · exact absurd (Prod.ext e1 h) e2
def dueL (n : Nat) (g : Nat → Nat → Bool) (a b : Nat) : List (Int × Int) := srt ((stepsN n g a b).map cp)
theorem mem_due {n : Nat} {g : Nat → Nat → Bool} {a b : Nat} {q : Int × Int} : q ∈ dueL n g a b ↔ ∃ p ∈ stepsN n g a b, q = cp p := by
  unfold dueL
  rw [(srt_perm _).mem_iff, List.mem_map]
  exact ⟨fun ⟨p, h, e⟩ => ⟨p, h, e.symm⟩, fun ⟨p, h, e⟩ => ⟨p, h, e.symm⟩⟩
theorem mem_due_cp {n : Nat} {g : Nat → Nat → Bool} {a b : Nat} {p : Nat × Nat} : cp p ∈ dueL n g a b ↔ p ∈ stepsN n g a b := by
  unfold dueL
  rw [(srt_perm _).mem_iff, mem_cp]
theorem due_lt (n : Nat) (g : Nat → Nat → Bool) (a b : Nat) : (dueL n g a b).Pairwise (SrtO.lexB · ·) := srt_lt (List.Pairwise.map _ (fun _ _ h e => h (cp_inj e)) (steps_nodup n g a b))
theorem due_len (n : Nat) (g : Nat → Nat → Bool) (a b : Nat) : (dueL n g a b).length ≤ 2 * n := by
  unfold dueL
  rw [(srt_perm _).length_eq, List.length_map]
  exact steps_len n g a b
/-- a pair of things, as a list or a tuple -/
theorem pairOf_seq {n : Nat} {d : D} {a b : Nat} (h : seqD d = some [.int (a : Int), .int (b : Int)]) (ha : a < n) (hb : b < n) (hab : a ≠ b) : pairOf (n : Int) d = some ((a : Int), (b : Int)) := by
  unfold pairOf
  rw [h]
  show (if _ then _ else _) = _
  rw [if_pos]
  simp [thB]
  omega
theorem okP_seq {d : D} {a b : Nat} (h : seqD d = some [.int (a : Int), .int (b : Int)]) : okP d := by
  refine ⟨?_, fun l hl x hx => ?_⟩
  · cases d <;> first | rfl | cases h
  · rw [h] at hl
    cases hl
    simp at hx
    rcases hx with rfl | rfl <;> rfl
theorem arrD_good {CB CT : Addr} {n : Nat} {g : Nat → Nat → Bool} {d : D} {P : Nat → Nat → Prop} {R : Addr → List (PySem.Str × D) → Prop} {a b : Nat} (h : pairOf (n : Int) d = some ((a : Int), (b : Int))) (hg : g a b = true) (p : P a b) : ArrD CB CT n g d P R := by
  refine ⟨fun e => (by rw [h] at e; cases e), fun a' b' e => ?_⟩
  rw [h] at e
  have e1 : (a : Int) = a' ∧ (b : Int) = b' := by simpa using e
  obtain rfl : a = a' := by omega
  obtain rfl : b = b' := by omega
  exact ⟨fun _ => p, fun z => (by rw [hg] at z; cases z)⟩
theorem forces_good {CW CB CT : Addr} {n : Nat} {g : Nat → Nat → Bool} {d d' : D} {P : D → Prop} {R : Addr → List (PySem.Str × D) → Prop} {a b a' b' : Nat} (hn : n ≤ 1000) (ok : okP d) (ok' : okP d') (h : pairOf (n : Int) d = some ((a : Int), (b : Int))) (h' : pairOf (n : Int) d' = some ((a' : Int), (b' : Int))) (hg : g a b = true) (hg' : g a' b' = true)
    (p : P (.bl (decide ((a', b') ∈ stepsN n g a b)))) : spForces CW CB CT [webO CW n g, d, d'] P R := by
  refine ⟨n, g, d, d', rfl, hn, ok, ok', fun e => (by rw [h] at e; cases e), fun x y e => ?_⟩
  rw [h] at e
  have e1 : (a : Int) = x ∧ (b : Int) = y := by simpa using e
  obtain rfl : a = x := by omega
  obtain rfl : b = y := by omega
  refine ⟨fun e => (by rw [h'] at e; cases e), fun x' y' e' => ?_⟩
  rw [h'] at e'
  have e2 : (a' : Int) = x' ∧ (b' : Int) = y' := by simpa using e'
  obtain rfl : a' = x' := by omega
  obtain rfl : b' = y' := by omega
  exact ⟨fun z => (by rw [hg] at z; cases z), fun _ => ⟨fun z => (by rw [hg'] at z; cases z), fun _ => p⟩⟩
/-- what the law has of the package -/
structure Fo (P : Program) (w : World) (K : PySem.W.Frag) (mg : PySem.Str → Option Value) (base : Heap) (k : Nat) (CW CB CT : Addr) : Prop where
  bi : Bi mg
  take : FnD P w K mg base "_law_take" k spTake
  pairs : FnD P w K mg base "_law_pairs" k spPairsL
  steps : FnD P w K mg base "_law_steps" k spSteps
  says : FnD P w K mg base "_law_says" k spSays
  by' : FnD P w K mg base "forced_by" k (spForcedBy CW CB CT)
  forces : FnD P w K mg base "forces" k (spForces CW CB CT)
def spRight (CW : Addr) : SpD := fun ds P _ => ∃ (n : Nat) (g : Nat → Nat → Bool) (a b : Nat) (l : List (Nat × Nat)), ds = [.drw, webO CW n g, webD n g, prn (a, b), .lst (l.map prn)] ∧ n ≤ 40 ∧ Sym g ∧ a < n ∧ b < n ∧ g a b = true ∧ 0 < l.length ∧ (∀ p ∈ l, p.1 < n ∧ p.2 < n ∧ g p.1 p.2 = true) ∧ P (.bl true)
abbrev N63 : List PySem.Str := ["_law_draws_here", "_law_web_here", "_law_near_here", "_law_arrow", "_law_arrows", "_law_a", "_law_b", "_law_due", "_law_told", "_law_c", "_law_d", "_law_k", "_law_other"]
theorem body_right {X : Cx} (c : CtxT X N63 (defScope (top 63))) {CW CB CT : Addr} {k : Nat} (hr : Room k X.A) (F : Fo X.prog X.w X.K X.mg X.base k CW CB CT) : BodyOk X N63 (spRight CW) (defBody (top 63)) := by
  intro ds P R h B0 H0 air
  obtain ⟨n, g, a, b, l, rfl, hn, hg, ha, hb, hab, hl0, hl, hp⟩ := h
  have ne : a ≠ b := fun e => by rw [e, hg.2] at hab; cases hab
  have hba : g b a = true := by rw [hg.1]; exact hab
  have s1 : ∀ x y : Nat, seqD (.lst [.int (x : Int), .int (y : Int)]) = some [.int (x : Int), .int (y : Int)] := fun _ _ => rfl
  have s2 : ∀ x y : Nat, seqD (.tup [.int (x : Int), .int (y : Int)]) = some [.int (x : Int), .int (y : Int)] := fun _ _ => rfl
  have hdl := due_len n g a b
  refine go_cons (g1_asg c.toCtxD 5 (ex_ix (ex_var c.toCtx 3 (ex_int ⟨0, rfl, ixPn0 ?_⟩))))
  refine go_cons (g1_asg c.toCtxD 6 (ex_ix (ex_var c.toCtx 3 (ex_int ⟨1, rfl, ixPn1 ?_⟩))))
  refine go_cons (g1_asg c.toCtxD 7 (ex_ofL (el_sortP c.toCtx F.bi.sorted (ex_call c.toCtx F.steps hr (ea_cons (ex_var c.toCtx 2 (ea_cons (ex_var c.toCtx 3 (ea_nil ⟨n, g, a, b, rfl, by omega, hg, ha, hb, (stepsN n g a b).map cp, congrArg D.lst (map_prn _), ?_⟩)))))))))
  refine go_cons (g1_asg c.toCtxD 8 (ex_call c.toCtx F.by' hr (ea_cons (ex_var c.toCtx 1 (ea_cons (ex_ofL (el_lst (ea_cons (ex_var c.toCtx 5 (ea_cons (ex_var c.toCtx 6 (ea_nil ⟨le2, ea_nil ⟨n, g, _, rfl, by omega, okP_seq (s1 a b), arrD_good (pairOf_seq (s1 a b) ha hb ne) hab fun _ _ => ?_⟩⟩))))))))))))
  show Go X B0 H0 [.d .drw, .d (webO CW n g), .d (webD n g), .d (prn (a, b)), .d (.lst (l.map prn)), .d (.int (a : Int)), .d (.int (b : Int)), .d (.lst ((dueL n g a b).map pr)), .d (.tup ((dueL n g a b).map pr)), .un, .un, .un, .un] _ _ _
  refine go_cons (g1_if (tx_w (wx_or (k1 := false) (k2 := false) ?_ (fun _ => wx_or (k1 := false) (k2 := false) ?_ (fun _ => wx_or (k1 := false) (k2 := false) ?_ (fun _ => ?_) rfl) rfl) ⟨fun z => (by cases z), fun _ => go_nil ?_⟩)))
  · refine tx_not (tx_val (ex_call c.toCtx F.pairs hr (ea_cons (ex_var c.toCtx 8 (ea_cons (ex_len c.toCtx F.bi.len (ex_var c.toCtx 2 ⟨n, web_len, ea_nil ⟨dueL n g a b, (n : Int), rfl, fun q hq => ?_, due_lt n g a b, _, rfl, rfl⟩⟩)))))))
    obtain ⟨p, hp, rfl⟩ := mem_due.mp hq
    obtain ⟨h1, h2, h3, _⟩ := steps_facts hg ha hb hab hp
    simp [cp]; omega
  · refine tx_neD hr (ex_ofL (el_listOf c.toCtx F.bi.list (ex_var c.toCtx 8 ⟨(dueL n g a b).map pr, .inr rfl, ex_var c.toCtx 7 ⟨shp_prs (dueL n g a b), shp_prs (dueL n g a b), ?_⟩⟩)))
    rw [eqd_prs]; simp
  · refine tx_neD hr (ex_call c.toCtx F.by' hr (ea_cons (ex_var c.toCtx 1 (ea_cons (ex_tup (ea_cons (ex_var c.toCtx 5 (ea_cons (ex_var c.toCtx 6 (ea_nil ⟨le2, ea_nil ⟨n, g, _, rfl, by omega, okP_seq (s2 a b), arrD_good (pairOf_seq (s2 a b) ha hb ne) hab fun _ _ => ex_var c.toCtx 8 ⟨shp_prsT _, shp_prsT (dueL n g a b), ?_⟩⟩⟩))))))))))
    rw [eqd_prsT]; simp [dueL]
  · refine tx_or1 (tx_inT hr (ex_var c.toCtx 3 (ex_var c.toCtx 8 ⟨_, rfl, shp_pr (cp (a, b)), shp_prsT _, ?_⟩)))
    show ((dueL n g a b).map pr).any (fun z => eqd z (pr (cp (a, b)))) = false
    rw [any_prs]
    exact decide_eq_false fun h => (steps_not hg hab).1 (mem_due_cp.mp h)
  let I : LoopI := fun k sds os => ∃ (x y : SD), sds = [.d .drw, .d (webO CW n g), .d (webD n g), .d (prn (a, b)), .d (.lst (l.map prn)), .d (.int (a : Int)), .d (.int (b : Int)), .d (.lst ((dueL n g a b).map pr)), .d (.tup ((dueL n g a b).map pr)), x, y, .un, .un] ∧ os = []
  refine go_cut (I 0) (g1_for (t := .tp [9, 10]) c.own c.calm (tg_tp c.toCtxD (tgs_cons c.toCtxD 9 (tgs_cons c.toCtxD 10 tgs_nil))) (ix_list (ex_var c.toCtx 7 ⟨_, rfl, forOk_map I ⟨_, _, rfl, rfl⟩ ?_ fun _ _ h => h⟩))) ?_
  · rintro k q sds os hk ⟨x, y, rfl, rfl⟩
    obtain ⟨⟨u, v⟩, hp', rfl⟩ := mem_due.mp (List.mem_of_getElem? hk)
    obtain ⟨h1, h2, h3, h4, h5, h6⟩ := steps_facts hg ha hb hab hp'
    have h1' : u < n := h1
    have h2' : v < n := h2
    have h3' : u ≠ v := h3
    have h4' : g u v = true := h4
    have h7 : g v u = true := by rw [hg.1]; exact h4'
    refine ⟨_, rfl, rfl, ?_⟩
    refine go_cons (g1_if (tx_w (wx_or (k1 := false) (k2 := false) ?_ (fun _ => ?_) ⟨fun z => (by cases z), fun _ => go_nil ?_⟩)))
    · exact tx_not (tx_val (ex_call c.toCtx F.says hr (ea_cons (ex_call c.toCtx F.forces hr (ea_cons (ex_var c.toCtx 1 (ea_cons (ex_var c.toCtx 3 (ea_cons (ex_tup (ea_cons (ex_var c.toCtx 9 (ea_cons (ex_var c.toCtx 10 (ea_nil ⟨le2, ea_nil (forces_good (by omega) (okP_seq (s2 a b)) (okP_seq (s2 u v)) (pairOf_seq (s2 a b) ha hb ne) (pairOf_seq (s2 u v) h1' h2' h3') hab h4' (ea_cons (ex_bl (ea_nil ⟨_, _, rfl, _, rfl, by rw [decide_eq_true hp']; rfl⟩))))⟩)))))))))))))))
    · exact tx_or1 (tx_not (tx_val (ex_call c.toCtx F.says hr (ea_cons (ex_call c.toCtx F.forces hr (ea_cons (ex_var c.toCtx 1 (ea_cons (ex_ofL (el_lst (ea_cons (ex_var c.toCtx 9 (ea_cons (ex_var c.toCtx 10 (ea_nil ⟨le2, ea_cons (ex_ofL (el_lst (ea_cons (ex_var c.toCtx 5 (ea_cons (ex_var c.toCtx 6 (ea_nil ⟨le2, ea_nil (forces_good (by omega) (okP_seq (s1 u v)) (okP_seq (s1 a b)) (pairOf_seq (s1 u v) h1' h2' h3') (pairOf_seq (s1 a b) ha hb ne) h4' hab (ea_cons (ex_bl (ea_nil ⟨_, _, rfl, _, rfl, by rw [decide_eq_true h5]; rfl⟩))))⟩)))))))⟩)))))))))))))))
    refine go_cons (g1_if (tx_not (tx_val (ex_call c.toCtx F.says hr (ea_cons (ex_call c.toCtx F.forces hr (ea_cons (ex_var c.toCtx 1 (ea_cons (ex_tup (ea_cons (ex_var c.toCtx 6 (ea_cons (ex_var c.toCtx 5 (ea_nil ⟨le2, ea_cons (ex_tup (ea_cons (ex_var c.toCtx 10 (ea_cons (ex_var c.toCtx 9 (ea_nil ⟨le2, ea_nil (forces_good (by omega) (okP_seq (s2 b a)) (okP_seq (s2 v u)) (pairOf_seq (s2 b a) hb ha (Ne.symm ne)) (pairOf_seq (s2 v u) h2' h1' (Ne.symm h3')) hba h7 (ea_cons (ex_bl (ea_nil ⟨_, _, rfl, _, rfl, fun z => ?_, fun _ => go_nil (go_nil ⟨_, _, rfl, rfl⟩)⟩))))⟩))))))⟩)))))))))))))))
    rw [decide_eq_true h6] at z
    cases z
  rintro sds os ⟨x, y, rfl, rfl⟩
  let I : LoopI := fun k sds os => ∃ (z u : SD), sds = [.d .drw, .d (webO CW n g), .d (webD n g), .d (prn (a, b)), .d (.lst (l.map prn)), .d (.int (a : Int)), .d (.int (b : Int)), .d (.lst ((dueL n g a b).map pr)), .d (.tup ((dueL n g a b).map pr)), x, y, z, u] ∧ os = []
  refine go_cut (I 0) (g1_for (t := .nm 11) c.own c.calm (tg_nm c.toCtxD 11) (ix_range1 c.toCtx F.bi.range (ex_int ⟨3, rfl, by decide, by decide, ?_⟩))) ?_
  · rw [show rngD 0 (3 : Int).toNat = intsTo 3 from rngI 3]
    refine forOk_rng I ⟨_, _, rfl, rfl⟩ ?_ fun _ _ h => h
    rintro k sds os hk ⟨z, u, rfl, rfl⟩
    refine go_cons (g1_asg c.toCtxD 12 (ex_ix (ex_var c.toCtx 4 (ex_take c.toCtx F.take hr 0 (ex_len c.toCtx F.bi.len (ex_var (d := .lst (l.map prn)) c.toCtx 4 ⟨(l.map prn).length, rfl, l.length, by rw [List.length_map], hl0, fun r hr' => ⟨_, rfl, ?_⟩⟩))))))
    obtain ⟨⟨p, q⟩, hq⟩ : ∃ p, l[r]? = some p := ⟨_, List.getElem?_eq_getElem hr'⟩
    obtain ⟨h1, h2, h4⟩ := hl _ (List.mem_of_getElem? hq)
    have h1' : p < n := h1
    have h2' : q < n := h2
    have h4' : g p q = true := h4
    have h3' : p ≠ q := fun e => by rw [e, hg.2] at h4'; cases h4'
    refine ixL (x := prn (p, q)) r (by rw [List.getElem?_map, hq]; rfl) ?_
    refine go_cons (g1_if (tx_not (tx_val (ex_call c.toCtx F.says hr (ea_cons (ex_call c.toCtx F.forces hr (ea_cons (ex_var c.toCtx 1 (ea_cons (ex_var c.toCtx 3 (ea_cons (ex_var c.toCtx 12 (ea_nil (forces_good (by omega) (okP_seq (s2 a b)) (okP_seq (s2 p q)) (pairOf_seq (s2 a b) ha hb ne) (pairOf_seq (s2 p q) h1' h2' h3') hab h4' (ea_cons (ex_inD hr (ex_var c.toCtx 12 (ex_var c.toCtx 7 ⟨_, rfl, shp_pr (cp (p, q)), shp_prs _, (ea_nil ⟨_, _, rfl, _, rfl, fun z => ?_, fun _ => go_nil (go_nil ⟨_, _, rfl, rfl⟩)⟩)⟩))))))))))))))))))
    have e : ((dueL n g a b).map pr).any (fun z => eqd z (pr (cp (p, q)))) = decide ((p, q) ∈ stepsN n g a b) := by
      rw [any_prs]; exact decide_eq_decide.mpr mem_due_cp
    rw [e] at z
    simp at z
  rintro sds os ⟨z, u, rfl, rfl⟩
  refine go_cons (g1_ret (ex_andV (k1 := true) (k2 := true) ?_ (fun _ => ex_one ?_) hp))
  · exact ex_call c.toCtx F.says hr (ea_cons (ex_call c.toCtx F.forces hr (ea_cons (ex_var c.toCtx 1 (ea_cons (ex_var c.toCtx 3 (ea_cons (ex_var c.toCtx 3 (ea_nil (forces_good (by omega) (okP_seq (s2 a b)) (okP_seq (s2 a b)) (pairOf_seq (s2 a b) ha hb ne) (pairOf_seq (s2 a b) ha hb ne) hab hab (ea_cons (ex_bl (ea_nil ⟨_, _, rfl, by rw [decide_eq_false (steps_not hg hab).1]; rfl⟩)))))))))))))
  · exact ex_call c.toCtx F.says hr (ea_cons (ex_call c.toCtx F.forces hr (ea_cons (ex_var c.toCtx 1 (ea_cons (ex_var c.toCtx 3 (ea_cons (ex_tup (ea_cons (ex_var c.toCtx 6 (ea_cons (ex_var c.toCtx 5 (ea_nil ⟨le2, ea_nil (forces_good (by omega) (okP_seq (s2 a b)) (okP_seq (s2 b a)) (pairOf_seq (s2 a b) ha hb ne) (pairOf_seq (s2 b a) hb ha (Ne.symm ne)) hab hba (ea_cons (ex_bl (ea_nil ⟨_, _, rfl, by rw [decide_eq_false (steps_not hg hab).2]; rfl⟩))))⟩)))))))))))))
end OB
set_option Elab.async false
set_option linter.all false
set_option maxRecDepth 100000
set_option maxHeartbeats 4000000
namespace OB
open PySem PySem.Spec PyProof.Rows L2
def pairV : D := .tup [.str "pair", .int 0]
def tiedV (a b : Nat) : D := .tup [.str "tied", prn (a, b)]
/-- what a refusal is told as -/
def RefOk (n : Nat) (g : Nat → Nat → Bool) (deed : Int) (d d' v : D) : Prop :=
  (deed = 0 ∧ ((pairOf n d = none ∧ v = pairV) ∨ ∃ a b : Nat, pairOf n d = some ((a : Int), (b : Int)) ∧ g a b = false ∧ v = tiedV a b)) ∨
  (deed = 1 ∧ ((pairOf n d = none ∧ v = pairV) ∨ (∃ a b : Nat, pairOf n d = some ((a : Int), (b : Int)) ∧ pairOf n d' = none ∧ v = pairV) ∨
    (∃ a b a' b' : Nat, pairOf n d = some ((a : Int), (b : Int)) ∧ pairOf n d' = some ((a' : Int), (b' : Int)) ∧ ((g a b = false ∧ v = tiedV a b) ∨ (g a b = true ∧ g a' b' = false ∧ v = tiedV a' b')))))
/-- the classes of errors that the law names -/
structure Xs (K : PySem.W.Frag) (mg : PySem.Str → Option Value) (CB CT CE : Addr) : Prop where
  gB : mg "BadPair" = some (.ref CB)
  gT : mg "NotTied" = some (.ref CT)
  gE : mg "BehindError" = some (.ref CE)
  xB : XfC K CB
  xT : XfC K CT
  np : PySem.W.findIn K (.ref CB) "place" = some none
  n1 : PySem.W.findIn K (.ref CT) "first" = some none
  n2 : PySem.W.findIn K (.ref CT) "second" = some none
  bb : PySem.W.exmOne K (.ref CB) (.ref CB) = some true
  tb : PySem.W.exmOne K (.ref CT) (.ref CB) = some false
  tt : PySem.W.exmOne K (.ref CT) (.ref CT) = some true
def spRefusal (CW : Addr) : SpD := fun ds P _ => ∃ (n : Nat) (g : Nat → Nat → Bool) (deed : Int) (d d' v : D), ds = [.int deed, webO CW n g, d, d'] ∧ n ≤ 1000 ∧ okP d ∧ okP d' ∧ RefOk n g deed d d' v ∧ P v
abbrev N64 : List PySem.Str := ["_law_deed", "_law_web_here", "_law_first", "_law_last", "_law_told", "e"]
theorem int_pair {i j i' j' : Nat} (e : some ((i : Int), (j : Int)) = some ((i' : Int), (j' : Int))) : i = i' ∧ j = j' := by
  have : (i : Int) = i' ∧ (j : Int) = j' := by simpa using e
  omega
theorem body_refusal {X : Cx} (c : CtxT X N64 (defScope (top 64))) {CW CB CT CE : Addr} {k : Nat} (hr : Room k X.A) (xs : Xs X.K X.mg CB CT CE) (fBy : FnD X.prog X.w X.K X.mg X.base "forced_by" k (spForcedBy CW CB CT)) (fForces : FnD X.prog X.w X.K X.mg X.base "forces" k (spForces CW CB CT)) : BodyOk X N64 (spRefusal CW) (defBody (top 64)) := by
  intro ds P R h B0 H0 air
  obtain ⟨n, g, deed, d, d', v, rfl, hn, ok, ok', hv, hp⟩ := h
  refine go_cons (g1_asg c.toCtxD 4 (ex_tup (ea_cons (ex_str (ea_cons (ex_int (ea_nil ⟨le2, ?_⟩)))))))
  have glB' : Gl X "BadPair" := c.toCtx.gl (by decide +kernel)
  have glT' : Gl X "NotTied" := c.toCtx.gl (by decide +kernel)
  have glE' : Gl X "BehindError" := c.toCtx.gl (by decide +kernel)
  refine go_cut (fun sds os => sds[4]? = some (.d v) ∧ os = [] ∧ sds.length = 6) (g1_try (R := fun C fs => (C = CB ∧ fs = placeF ∧ v = pairV) ∨ ∃ a b : Nat, C = CT ∧ fs = tiedF a b ∧ v = tiedV a b) c 5 _ (.cons ⟨glB', by decide +kernel, .inl xs.gB⟩ (.cons ⟨glT', by decide +kernel, .inl xs.gT⟩ (.cons ⟨glE', by decide +kernel, .inl xs.gE⟩ .nil))) rfl (by decide +kernel) ?_ ?_) ?_
  · rintro B1 H1 C fs (⟨rfl, rfl, rfl⟩ | ⟨a, b, rfl, rfl, rfl⟩)
    · refine ⟨true, xs.bb, fun _ => ?_, fun z => (by cases z)⟩
      intro a d ws oe pn B' H' hz hf g' hx hfs hna
      have cb := sub_suite c (a := a) (pn := (a, oe) :: pn)
      exact go_cons (g1_asgB cb 4 (ex_tup (ea_cons (ex_str (ea_cons (ex_xf cb 5 xs.xB xs.np hz hf hx hfs rfl (ea_nil ⟨le2, go_nil ⟨rfl, rfl, rfl⟩⟩)))))))
    · refine ⟨false, xs.tb, fun z => (by cases z), fun _ => ⟨true, xs.tt, fun _ => ?_, fun z => (by cases z)⟩⟩
      intro a1 d1 ws oe pn B' H' hz hf g' hx hfs hna
      have cb := sub_suite c (a := a1) (pn := (a1, oe) :: pn)
      exact go_cons (g1_asgB cb 4 (ex_tup (ea_cons (ex_str (ea_cons (ex_tup (ea_cons (ex_xf cb 5 xs.xT xs.n1 hz hf hx hfs rfl (ea_cons (ex_xf cb 5 xs.xT xs.n2 hz hf hx hfs rfl (ea_nil ⟨le2, ea_nil ⟨le2, go_nil ⟨rfl, rfl, rfl⟩⟩⟩)))))))))))
  · intro pn xe B1 H1 c1 air1
    refine go_cons (g1_if (tx_eqI (ex_var c1.toCtx 0 ⟨deed, rfl, ex_int ⟨0, rfl, fun hd => ?_, fun hd => ?_⟩⟩)))
    · have hd0 : deed = 0 := by simpa using hd
      rcases hv with ⟨_, hv⟩ | ⟨h1, _⟩
      · refine go_cons (g1_expr (ex_callX (R := fun C fs => (C = CB ∧ fs = placeF ∧ v = pairV) ∨ ∃ a b : Nat, C = CT ∧ fs = tiedF a b ∧ v = tiedV a b) c1.toCtx fBy hr air1 (ea_cons (ex_var c1.toCtx 1 (ea_cons (ex_var c1.toCtx 2 (ea_nil ⟨n, g, d, rfl, hn, ok, ?_⟩)))))))
        rcases hv with ⟨e, ev⟩ | ⟨a, b, e, hg, ev⟩
        · exact ⟨fun _ => .inl ⟨rfl, rfl, ev⟩, fun a b e' => (by rw [e] at e'; cases e')⟩
        · refine ⟨fun e' => (by rw [e] at e'; cases e'), fun a' b' e' => ?_⟩
          rw [e] at e'
          obtain ⟨rfl, rfl⟩ := int_pair e'
          exact ⟨fun z => (by rw [hg] at z; cases z), fun _ => .inr ⟨a, b, rfl, rfl, ev⟩⟩
      · omega
    · have hd0 : deed ≠ 0 := by simpa using hd
      rcases hv with ⟨h1, _⟩ | ⟨_, hv⟩
      · omega
      · refine go_cons (g1_expr (ex_callX (R := fun C fs => (C = CB ∧ fs = placeF ∧ v = pairV) ∨ ∃ a b : Nat, C = CT ∧ fs = tiedF a b ∧ v = tiedV a b) c1.toCtx fForces hr air1 (ea_cons (ex_var c1.toCtx 1 (ea_cons (ex_var c1.toCtx 2 (ea_cons (ex_var c1.toCtx 3 (ea_nil ⟨n, g, d, d', rfl, hn, ok, ok', ?_⟩)))))))))
        rcases hv with ⟨e, ev⟩ | ⟨a, b, e, e2, ev⟩ | ⟨a, b, a2, b2, e, e2, hv⟩
        · exact ⟨fun _ => .inl ⟨rfl, rfl, ev⟩, fun a b e' => (by rw [e] at e'; cases e')⟩
        · refine ⟨fun e' => (by rw [e] at e'; cases e'), fun a' b' e' => ⟨fun _ => .inl ⟨rfl, rfl, ev⟩, fun a3 b3 e3 => (by rw [e2] at e3; cases e3)⟩⟩
        · refine ⟨fun e' => (by rw [e] at e'; cases e'), fun a' b' e' => ⟨fun e3 => (by rw [e2] at e3; cases e3), fun a3 b3 e3 => ?_⟩⟩
          rw [e] at e'
          obtain ⟨rfl, rfl⟩ := int_pair e'
          rw [e2] at e3
          obtain ⟨rfl, rfl⟩ := int_pair e3
          rcases hv with ⟨hg, ev⟩ | ⟨hg, hg2, ev⟩
          · exact ⟨fun _ => .inr ⟨a, b, rfl, rfl, ev⟩, fun z => (by rw [hg] at z; cases z)⟩
          · exact ⟨fun z => (by rw [hg] at z; cases z), fun _ => ⟨fun _ => .inr ⟨a2, b2, rfl, rfl, ev⟩, fun z => (by rw [hg2] at z; cases z)⟩⟩
  · rintro sds os ⟨h4, rfl, h6⟩
    exact go_cons (g1_ret (ex_var c.toCtx 4 hp h4))
end OB
set_option Elab.async false
set_option linter.all false
set_option maxRecDepth 100000
set_option maxHeartbeats 4000000
namespace OB
open PySem PySem.Spec PyProof.Rows L2
theorem eqd_refl {d : D} (h : shp d = true) : eqd d d = true := by
  unfold shp at h
  have h2 := (Bool.and_eq_true_iff.mp h).2
  unfold SeqAt.shaped at h2
  exact PySem.SeqAt.eqv_refl _ (Bool.and_eq_true_iff.mp h2).1
theorem shp_pairV : shp pairV = true := by simp [shp, pairV, pok, pokAll, py, pyAll, SeqAt.shaped, PyData.canLay0, PyData.canLayAll0, PyData.depth, PyData.depthAll]; decide +kernel
theorem shp_tiedV (a b : Nat) : shp (tiedV a b) = true := by simp [shp, tiedV, prn, pok, pokAll, py, pyAll, SeqAt.shaped, PyData.canLay0, PyData.canLayAll0, PyData.depth, PyData.depthAll]; decide +kernel
theorem RefOk.shp {n : Nat} {g : Nat → Nat → Bool} {deed : Int} {d d' v : D} (h : RefOk n g deed d d' v) : shp v = true := by
  rcases h with ⟨_, ⟨_, rfl⟩ | ⟨a, b, _, _, rfl⟩⟩ | ⟨_, ⟨_, rfl⟩ | ⟨a, b, _, _, rfl⟩ | ⟨a, b, a', b', _, _, ⟨_, rfl⟩ | ⟨_, _, rfl⟩⟩⟩
  all_goals first | exact shp_pairV | exact shp_tiedV _ _
structure Due where
  deed : Int
  d : D
  d' : D
  v : D
def dueD (x : Due) : D := .tup [.int x.deed, x.d, x.d', x.v]
def GoodDue (n : Nat) (g : Nat → Nat → Bool) (x : Due) : Prop := okP x.d ∧ okP x.d' ∧ RefOk n g x.deed x.d x.d' x.v
def badL (n : Nat) : List D := [.non, .tup [.int 0, .int 0], .lst [.int 0], .tup [.int 0, .int (n : Int)], .tup [.bl true, .int 0], .str "01", .tup [.int (-1), .int 0], .tup [.int 0, .int 1, .int 0]]
theorem okP_all {d : D} (h1 : okT d) (h2 : ∀ l, seqD d = some l → ∀ x ∈ l, okT x) : okP d := ⟨h1, h2⟩
theorem bad_get (n : Nat) {r : Nat} (h : r < 8) : ∃ x, (badL n)[r]? = some x ∧ okP x ∧ pairOf (n : Int) x = none := by
  have k : ∀ x ∈ badL n, okP x ∧ pairOf (n : Int) x = none := by
    intro x hx
    simp only [badL, List.mem_cons, List.not_mem_nil, or_false] at hx
    rcases hx with rfl | rfl | rfl | rfl | rfl | rfl | rfl | rfl
    all_goals refine ⟨⟨rfl, fun l hl y hy => ?_⟩, ?_⟩
    all_goals first
      | (cases hl; done)
      | (cases hl; simp at hy; rcases hy with rfl | rfl | rfl <;> rfl)
      | (cases hl; simp at hy; rcases hy with rfl | rfl <;> rfl)
      | (cases hl; simp at hy; subst hy; rfl)
      | rfl
      | (simp [pairOf, seqD, thB])
  have hl : r < (badL n).length := h
  exact ⟨_, List.getElem?_eq_getElem hl, k _ (List.getElem_mem hl)⟩
/-- what the law has besides -/
structure Fr2 (P : Program) (w : World) (K : PySem.W.Frag) (mg : PySem.Str → Option Value) (base : Heap) (k : Nat) (CW : Addr) : Prop where
  bi : Bi mg
  take : FnD P w K mg base "_law_take" k spTake
  ties : FnD P w K mg base "_law_ties" k spTies
  con : FnD P w K mg base "_law_contrary" k spContrary
  ref : FnD P w K mg base "_law_refusal" k (spRefusal CW)
def spRefused (CW : Addr) : SpD := fun ds P _ => ∃ (n : Nat) (g : Nat → Nat → Bool), ds = [.drw, webO CW n g, webD n g] ∧ n ≤ 40 ∧ Sym g ∧ P (.bl true)
abbrev N65 : List PySem.Str := ["_law_draws_here", "_law_web_here", "_law_near_here", "_law_size", "_law_bad", "_law_good", "_law_a", "_law_b", "_law_free", "_law_dues", "_law_one", "_law_two", "_law_wrong", "_law_deed", "_law_first", "_law_last", "_law_due"]
theorem goodDue_pair {n : Nat} {g : Nat → Nat → Bool} {deed : Int} {d d' : D} (hd : deed = 0 ∨ deed = 1) (ok : okP d) (ok' : okP d') (h : pairOf (n : Int) d = none) : GoodDue n g ⟨deed, d, d', pairV⟩ := by
  refine ⟨ok, ok', ?_⟩
  rcases hd with hd | hd
  · exact .inl ⟨hd, .inl ⟨h, rfl⟩⟩
  · exact .inr ⟨hd, .inl ⟨h, rfl⟩⟩
theorem body_refused {X : Cx} (c : CtxT X N65 (defScope (top 65))) {CW : Addr} {k : Nat} (hr : Room k X.A) (F : Fr2 X.prog X.w X.K X.mg X.base k CW) : BodyOk X N65 (spRefused CW) (defBody (top 65)) := by
  intro ds P R h B0 H0 air
  obtain ⟨n, g, rfl, hn, hg, hp⟩ := h
  have hnn : n * n ≤ 40 * 40 := Nat.mul_le_mul hn hn
  have ht1 := ties_len n g
  have ht2 := ties_len n (conG g)
  have s1 : ∀ x y : Nat, seqD (.lst [.int (x : Int), .int (y : Int)]) = some [.int (x : Int), .int (y : Int)] := fun _ _ => rfl
  have s2 : ∀ x y : Nat, seqD (prn (x, y)) = some [.int (x : Int), .int (y : Int)] := fun _ _ => rfl
  refine go_cons (g1_asg c.toCtxD 3 (ex_len c.toCtx F.bi.len (ex_var c.toCtx 2 ⟨n, web_len, ?_⟩)))
  refine go_cons (g1_asg c.toCtxD 4 (ex_ix (ex_ofL (el_lst (ea_cons (ex_non ?_))))))
  refine ea_cons (ex_tup (ea_cons (ex_int (ea_cons (ex_int (ea_nil ⟨le2, ?_⟩))))))
  refine ea_cons (ex_ofL (el_lst (ea_cons (ex_int (ea_nil ⟨le1, ?_⟩)))))
  refine ea_cons (ex_tup (ea_cons (ex_int (ea_cons (ex_var c.toCtx 3 (ea_nil ⟨le2, ?_⟩))))))
  refine ea_cons (ex_tup (ea_cons (ex_bl (ea_cons (ex_int (ea_nil ⟨le2, ?_⟩))))))
  refine ea_cons (ex_str ?_)
  refine ea_cons (ex_tup (ea_cons (ex_neg (ex_int ⟨1, rfl, ea_cons (ex_int (ea_nil ⟨le2, ?_⟩))⟩))))
  refine ea_cons (ex_tup (ea_cons (ex_int (ea_cons (ex_int (ea_cons (ex_int (ea_nil ⟨le3, ?_⟩))))))))
  refine ea_nil ⟨le8, ex_take c.toCtx F.take hr 0 (ex_int ⟨8, rfl, by decide, fun r hr' => ⟨_, rfl, ?_⟩⟩)⟩
  obtain ⟨bad, hb1, okb, hb2⟩ := bad_get n hr'
  refine ixL (x := bad) r hb1 ?_
  refine go_cons (g1_setLc0 c.toCtxD 5 [("_law_a", 6), ("_law_b", 7)] (.tp [6, 7]) (fun X' b => tb_tp (b.ctx c.toCtx) (tbs_cons (b.ctx c.toCtx) 6 (tbs_cons (b.ctx c.toCtx) 7 tgs_nil))) (ix_list (ex_call c.toCtx F.ties hr (ea_cons (ex_var c.toCtx 2 (ea_nil ⟨n, g, rfl, by omega, _, rfl, ?_⟩))))))
  refine ⟨Nat × Nat, tiesOf n g, prn, prn, rfl, by omega, fun q _ => ⟨_, rfl, rfl, fun X' b => ex_tup (ea_cons (ex_var (b.ctx c.toCtx) 6 (ea_cons (ex_var (b.ctx c.toCtx) 7 (ea_nil ⟨le2, rfl⟩)))))⟩, ?_⟩
  refine go_cons (g1_asg c.toCtxD 8 (ex_call c.toCtx F.ties hr (ea_cons (ex_call c.toCtx F.con hr (ea_cons (ex_var c.toCtx 2 (ea_nil ⟨n, g, rfl, by omega, ea_nil ⟨n, conG g, rfl, by omega, ?_⟩⟩)))))))
  refine go_cons (g1_asg c.toCtxD 9 (ex_ofL (el_lst (ea_cons (ex_tup (ea_cons (ex_int (ea_cons (ex_var c.toCtx 4 (ea_cons (ex_var c.toCtx 4 (ea_cons (ex_tup (ea_cons (ex_str (ea_cons (ex_int (ea_nil ⟨le2, ea_nil ⟨le4, ea_cons (ex_tup (ea_cons (ex_int (ea_cons (ex_var c.toCtx 4 (ea_cons (ex_var c.toCtx 4 (ea_cons (ex_tup (ea_cons (ex_str (ea_cons (ex_int (ea_nil ⟨le2, ea_nil ⟨le4, ea_nil ⟨le2, ?_⟩⟩⟩))))))))))))))⟩⟩))))))))))))))))))
  let M : Nat → List SD → List (Addr × OV) → Prop := fun m sds os => ∃ (L : List Due) (x y z : SD), (∀ u ∈ L, GoodDue n g u) ∧ L.length ≤ m ∧ sds = [.d .drw, .d (webO CW n g), .d (webD n g), .d (.int (n : Int)), .d bad, .d (.lst ((tiesOf n g).map prn)), .un, .un, .d (.lst ((tiesOf n (conG g)).map prn)), .d (.lst (L.map dueD)), x, y, z, .un, .un, .un, .un] ∧ os = []
  have tieOk : ∀ r : Nat, r < (tiesOf n g).length → ∃ a b, (tiesOf n g)[r]? = some (a, b) ∧ a < n ∧ b < n ∧ a ≠ b ∧ g a b = true := fun r hr => by
    obtain ⟨⟨a, b⟩, e⟩ : ∃ p, (tiesOf n g)[r]? = some p := ⟨_, List.getElem?_eq_getElem hr⟩
    have h1 : a < b ∧ b < n ∧ g a b = true := mem_ties.mp (List.mem_of_getElem? e)
    exact ⟨a, b, e, by omega, by omega, by omega, h1.2.2⟩
  have freeOk : ∀ r : Nat, r < (tiesOf n (conG g)).length → ∃ a b, (tiesOf n (conG g))[r]? = some (a, b) ∧ a < n ∧ b < n ∧ a ≠ b ∧ g a b = false ∧ g b a = false := fun r hr => by
    obtain ⟨⟨a, b⟩, e⟩ : ∃ p, (tiesOf n (conG g))[r]? = some p := ⟨_, List.getElem?_eq_getElem hr⟩
    have h1 : a < b ∧ b < n ∧ conG g a b = true := mem_ties.mp (List.mem_of_getElem? e)
    have h2 : g a b = false := by have := h1.2.2; simp [conG] at this; exact this.2
    exact ⟨a, b, e, by omega, by omega, by omega, h2, by rw [hg.1]; exact h2⟩
  refine go_cut (M 4) (g1_if (tx_gtI (ex_len c.toCtx F.bi.len (ex_var (d := .lst ((tiesOf n g).map prn)) c.toCtx 5 ⟨((tiesOf n g).map prn).length, rfl, _, rfl, ex_int ⟨0, rfl, fun hc => ?_, fun _ => ?_⟩⟩)))) ?_
  · have hl0 : 0 < (tiesOf n g).length := by simpa using hc
    refine go_cons (g1_asg c.toCtxD 10 (ex_ix (ex_var c.toCtx 5 (ex_take c.toCtx F.take hr 0 (ex_len c.toCtx F.bi.len (ex_var (d := .lst ((tiesOf n g).map prn)) c.toCtx 5 ⟨((tiesOf n g).map prn).length, rfl, (tiesOf n g).length, by rw [List.length_map], hl0, fun r hr' => ⟨_, rfl, ?_⟩⟩))))))
    obtain ⟨a, b, e, ha, hb, hab, hgt⟩ := tieOk r hr'
    refine ixL (x := prn (a, b)) r (by rw [List.getElem?_map, e]; rfl) ?_
    refine go_cons (g1_asg c.toCtxD 9 (ex_ofL (el_cat (ex_var c.toCtx 9 ⟨_, rfl, ex_ofL (el_lst (ea_cons (ex_tup (ea_cons (ex_int (ea_cons (ex_var c.toCtx 10 (ea_cons (ex_var c.toCtx 4 (ea_cons (ex_tup (ea_cons (ex_str (ea_cons (ex_int (ea_nil ⟨le2, ea_nil ⟨le4, ea_cons (ex_tup (ea_cons (ex_int (ea_cons (ex_var c.toCtx 4 (ea_cons (ex_var c.toCtx 10 (ea_cons (ex_tup (ea_cons (ex_str (ea_cons (ex_int (ea_nil ⟨le2, ea_nil ⟨le4, ea_nil ⟨le2, _, rfl, ?_, ?_⟩⟩⟩))))))))))))))⟩⟩))))))))))))))))⟩))))
    · show 2 + 2 ≤ 100000; decide
    refine go_nil ⟨[⟨0, bad, bad, pairV⟩, ⟨1, bad, bad, pairV⟩, ⟨1, prn (a, b), bad, pairV⟩, ⟨1, bad, prn (a, b), pairV⟩], _, _, _, ?_, (show 4 ≤ 4 by decide), rfl, rfl⟩
    intro u hu
    simp only [List.mem_cons, List.not_mem_nil, or_false] at hu
    rcases hu with rfl | rfl | rfl | rfl
    · exact goodDue_pair (.inl rfl) okb okb hb2
    · exact goodDue_pair (.inr rfl) okb okb hb2
    · exact ⟨okP_seq (s2 a b), okb, .inr ⟨rfl, .inr (.inl ⟨a, b, pairOf_seq (s2 a b) ha hb hab, hb2, rfl⟩)⟩⟩
    · exact goodDue_pair (.inr rfl) okb (okP_seq (s2 a b)) hb2
  · refine go_nil ⟨[⟨0, bad, bad, pairV⟩, ⟨1, bad, bad, pairV⟩], _, _, _, ?_, (show 2 ≤ 4 by decide), rfl, rfl⟩
    intro u hu
    simp only [List.mem_cons, List.not_mem_nil, or_false] at hu
    rcases hu with rfl | rfl
    · exact goodDue_pair (.inl rfl) okb okb hb2
    · exact goodDue_pair (.inr rfl) okb okb hb2
  rintro sds os ⟨L, x, y, z, hL, hlen, rfl, rfl⟩
  refine go_cut (M 10) (g1_if (tx_gtI (ex_len c.toCtx F.bi.len (ex_var (d := .lst ((tiesOf n (conG g)).map prn)) c.toCtx 8 ⟨((tiesOf n (conG g)).map prn).length, rfl, _, rfl, ex_int ⟨0, rfl, fun hc => ?_, fun _ => ?_⟩⟩)))) ?_
  · have hl0 : 0 < (tiesOf n (conG g)).length := by simpa using hc
    refine go_cons (g1_asg c.toCtxD 11 (ex_ix (ex_var c.toCtx 8 (ex_take c.toCtx F.take hr 0 (ex_len c.toCtx F.bi.len (ex_var (d := .lst ((tiesOf n (conG g)).map prn)) c.toCtx 8 ⟨((tiesOf n (conG g)).map prn).length, rfl, (tiesOf n (conG g)).length, by rw [List.length_map], hl0, fun r hr' => ⟨_, rfl, ?_⟩⟩))))))
    obtain ⟨a, b, e, ha, hb, hab, hgt, hgt2⟩ := freeOk r hr'
    refine ixL (x := prn (a, b)) r (by rw [List.getElem?_map, e]; rfl) ?_
    refine go_cons (g1_asg c.toCtxD 12 (ex_tup (ea_cons (ex_ix (ex_var c.toCtx 11 (ex_int ⟨1, rfl, ixPn1 (ea_cons (ex_ix (ex_var c.toCtx 11 (ex_int ⟨0, rfl, ixPn0 (ea_nil ⟨le2, ?_⟩)⟩))))⟩))))))
    refine go_cons (g1_asg c.toCtxD 9 (ex_ofL (el_cat (ex_var c.toCtx 9 ⟨L.map dueD, rfl, ex_ofL (el_lst (ea_cons (ex_tup (ea_cons (ex_int (ea_cons (ex_var c.toCtx 11 (ea_cons (ex_var c.toCtx 11 (ea_cons (ex_tup (ea_cons (ex_str (ea_cons (ex_var c.toCtx 11 (ea_nil ⟨le2, ea_nil ⟨le4, ea_cons (ex_tup (ea_cons (ex_int (ea_cons (ex_ofL (el_listOf c.toCtx F.bi.list (ex_var c.toCtx 12 ⟨_, .inr rfl, ea_cons (ex_var c.toCtx 11 (ea_cons (ex_tup (ea_cons (ex_str (ea_cons (ex_var c.toCtx 12 (ea_nil ⟨le2, ea_nil ⟨le4, ea_nil ⟨le2, _, rfl, ?_, ?_⟩⟩⟩))))))))⟩)))))))⟩⟩))))))))))))))))⟩))))
    · rw [List.length_map]; show L.length + 2 ≤ 100000; omega
    refine go_cons (g1_asg c.toCtxD 9 (ex_ofL (el_cat (ex_var c.toCtx 9 ⟨_, rfl, ex_ofL (el_lst (ea_cons (ex_tup (ea_cons (ex_int (ea_cons (ex_var c.toCtx 11 (ea_cons (ex_var c.toCtx 12 (ea_cons (ex_tup (ea_cons (ex_str (ea_cons (ex_var c.toCtx 11 (ea_nil ⟨le2, ea_nil ⟨le4, ea_cons (ex_tup (ea_cons (ex_int (ea_cons (ex_var c.toCtx 12 (ea_cons (ex_var c.toCtx 4 (ea_cons (ex_tup (ea_cons (ex_str (ea_cons (ex_int (ea_nil ⟨le2, ea_nil ⟨le4, ea_nil ⟨le2, _, rfl, ?_, ?_⟩⟩⟩))))))))))))))⟩⟩))))))))))))))))⟩))))
    · rw [List.length_append, List.length_map]; show L.length + 2 + 2 ≤ 100000; omega
    have hwr : okP (prn (b, a)) ∧ pairOf (n : Int) (prn (b, a)) = some ((b : Int), (a : Int)) := ⟨okP_seq (s2 b a), pairOf_seq (s2 b a) hb ha (Ne.symm hab)⟩
    have htw : okP (prn (a, b)) ∧ pairOf (n : Int) (prn (a, b)) = some ((a : Int), (b : Int)) := ⟨okP_seq (s2 a b), pairOf_seq (s2 a b) ha hb hab⟩
    have hls : okP (.lst [.int (b : Int), .int (a : Int)]) ∧ pairOf (n : Int) (.lst [.int (b : Int), .int (a : Int)]) = some ((b : Int), (a : Int)) := ⟨okP_seq (s1 b a), pairOf_seq (s1 b a) hb ha (Ne.symm hab)⟩
    have four : ∀ u ∈ ([⟨0, prn (a, b), prn (a, b), tiedV a b⟩, ⟨0, .lst [.int (b : Int), .int (a : Int)], prn (a, b), tiedV b a⟩, ⟨1, prn (a, b), prn (b, a), tiedV a b⟩, ⟨1, prn (b, a), bad, pairV⟩] : List Due), GoodDue n g u := by
      intro u hu
      simp only [List.mem_cons, List.not_mem_nil, or_false] at hu
      rcases hu with rfl | rfl | rfl | rfl
      · exact ⟨htw.1, htw.1, .inl ⟨rfl, .inr ⟨a, b, htw.2, hgt, rfl⟩⟩⟩
      · exact ⟨hls.1, htw.1, .inl ⟨rfl, .inr ⟨b, a, hls.2, hgt2, rfl⟩⟩⟩
      · exact ⟨htw.1, hwr.1, .inr ⟨rfl, .inr (.inr ⟨a, b, b, a, htw.2, hwr.2, .inl ⟨hgt, rfl⟩⟩)⟩⟩
      · exact ⟨hwr.1, okb, .inr ⟨rfl, .inr (.inl ⟨b, a, hwr.2, hb2, rfl⟩)⟩⟩
    have e4 : L.map dueD ++ [dueD ⟨0, prn (a, b), prn (a, b), tiedV a b⟩, dueD ⟨0, .lst [.int (b : Int), .int (a : Int)], prn (a, b), tiedV b a⟩] ++ [dueD ⟨1, prn (a, b), prn (b, a), tiedV a b⟩, dueD ⟨1, prn (b, a), bad, pairV⟩] = (L ++ ([⟨0, prn (a, b), prn (a, b), tiedV a b⟩, ⟨0, .lst [.int (b : Int), .int (a : Int)], prn (a, b), tiedV b a⟩, ⟨1, prn (a, b), prn (b, a), tiedV a b⟩, ⟨1, prn (b, a), bad, pairV⟩] : List Due)).map dueD := by simp
    refine go_cons (g1_if (tx_gtI (ex_len c.toCtx F.bi.len (ex_var (d := .lst ((tiesOf n g).map prn)) c.toCtx 5 ⟨((tiesOf n g).map prn).length, rfl, _, rfl, ex_int ⟨0, rfl, fun hc => ?_, fun _ => ?_⟩⟩))))
    · have hl1 : 0 < (tiesOf n g).length := by simpa using hc
      obtain ⟨p, q, e2, hp', hq', hpq, hgpq⟩ := tieOk 0 hl1
      have hge : ((tiesOf n g).map prn)[0]? = some (prn (p, q)) := by rw [List.getElem?_map, e2]; rfl
      have hpo : okP (prn (p, q)) ∧ pairOf (n : Int) (prn (p, q)) = some ((p : Int), (q : Int)) := ⟨okP_seq (s2 p q), pairOf_seq (s2 p q) hp' hq' hpq⟩
      refine go_cons (g1_asg c.toCtxD 9 (ex_ofL (el_cat (ex_var c.toCtx 9 ⟨_, rfl, ex_ofL (el_lst (ea_cons (ex_tup (ea_cons (ex_int (ea_cons (ex_ix (ex_var c.toCtx 5 (ex_int ⟨0, rfl, ixL 0 hge (ea_cons (ex_var c.toCtx 12 (ea_cons (ex_tup (ea_cons (ex_str (ea_cons (ex_var c.toCtx 12 (ea_nil ⟨le2, ea_nil ⟨le4, ea_cons (ex_tup (ea_cons (ex_int (ea_cons (ex_var c.toCtx 11 (ea_cons (ex_ix (ex_var c.toCtx 5 (ex_int ⟨0, rfl, ixL 0 hge (ea_cons (ex_tup (ea_cons (ex_str (ea_cons (ex_var c.toCtx 11 (ea_nil ⟨le2, ea_nil ⟨le4, ea_nil ⟨le2, _, rfl, ?_, ?_⟩⟩⟩)))))))⟩)))))))))⟩⟩)))))))))⟩)))))))))⟩))))
      · rw [List.length_append, List.length_append, List.length_map]; show L.length + 2 + 2 + 2 ≤ 100000; omega
      refine go_nil (go_nil ⟨L ++ [⟨0, prn (a, b), prn (a, b), tiedV a b⟩, ⟨0, .lst [.int (b : Int), .int (a : Int)], prn (a, b), tiedV b a⟩, ⟨1, prn (a, b), prn (b, a), tiedV a b⟩, ⟨1, prn (b, a), bad, pairV⟩] ++ [⟨1, prn (p, q), prn (b, a), tiedV b a⟩, ⟨1, prn (a, b), prn (p, q), tiedV a b⟩], x, .d (prn (a, b)), .d (prn (b, a)), ?_, ?_, ?_, rfl⟩)
      · intro u hu
        rcases List.mem_append.mp hu with hu | hu
        · rcases List.mem_append.mp hu with hu | hu
          · exact hL u hu
          · exact four u hu
        · simp only [List.mem_cons, List.not_mem_nil, or_false] at hu
          rcases hu with rfl | rfl
          · exact ⟨hpo.1, hwr.1, .inr ⟨rfl, .inr (.inr ⟨p, q, b, a, hpo.2, hwr.2, .inr ⟨hgpq, hgt2, rfl⟩⟩)⟩⟩
          · exact ⟨htw.1, hpo.1, .inr ⟨rfl, .inr (.inr ⟨a, b, p, q, htw.2, hpo.2, .inl ⟨hgt, rfl⟩⟩)⟩⟩
      · simp; omega
      · rw [List.map_append, ← e4]; rfl
    · refine go_nil (go_nil ⟨L ++ [⟨0, prn (a, b), prn (a, b), tiedV a b⟩, ⟨0, .lst [.int (b : Int), .int (a : Int)], prn (a, b), tiedV b a⟩, ⟨1, prn (a, b), prn (b, a), tiedV a b⟩, ⟨1, prn (b, a), bad, pairV⟩], x, .d (prn (a, b)), .d (prn (b, a)), ?_, ?_, ?_, rfl⟩)
      · intro u hu
        rcases List.mem_append.mp hu with hu | hu
        · exact hL u hu
        · exact four u hu
      · simp; omega
      · rw [← e4]; rfl
  · exact go_nil ⟨L, x, y, z, hL, by omega, rfl, rfl⟩
  rintro sds os ⟨L, x, y, z, hL, hlen, rfl, rfl⟩
  refine go_cons (g1_ret (ex_allB c.toCtx F.bi.all (ex_ofL (el_lc0 c.toCtx [("_law_deed", 13), ("_law_first", 14), ("_law_last", 15), ("_law_due", 16)] (.tp [13, 14, 15, 16]) (fun X' b => tb_tp (b.ctx c.toCtx) (tbs_cons (b.ctx c.toCtx) 13 (tbs_cons (b.ctx c.toCtx) 14 (tbs_cons (b.ctx c.toCtx) 15 (tbs_cons (b.ctx c.toCtx) 16 tgs_nil))))) (ix_list (ex_var c.toCtx 9 ⟨_, rfl, ?_⟩))))))
  refine ⟨Due, L, dueD, fun _ => .bl true, rfl, by omega, fun u hu => ⟨_, rfl, rfl, fun X' b => ?_⟩, L.map fun _ => true, by rw [List.map_map]; rfl, ?_⟩
  · have c' := b.ctx c.toCtx
    obtain ⟨ok, ok', hv⟩ := hL u hu
    have hs := hv.shp
    exact ex_eqD (b.room hr) (ex_call c' (b.fnD F.ref) (b.room hr) (ea_cons (ex_var c' 13 (ea_cons (ex_var c' 1 (ea_cons (ex_var c' 14 (ea_cons (ex_var c' 15 (ea_nil ⟨n, g, u.deed, u.d, u.d', u.v, rfl, by omega, ok, ok', hv, ex_var c' 16 ⟨hs, hs, by rw [eqd_refl hs]⟩⟩))))))))))
  · rw [List.all_eq_true.mpr (fun b hb => by obtain ⟨_, _, rfl⟩ := List.mem_map.mp hb; rfl)]
    exact hp
end OB
set_option Elab.async false
set_option linter.all false
set_option maxRecDepth 100000
set_option maxHeartbeats 4000000
namespace OB
open PySem PySem.Spec PyProof.Rows L2
structure DrF (P : Program) (w : World) (K : PySem.W.Frag) (mg : PySem.Str → Option Value) (base : Heap) (x : PySem.Str) (k : Nat) : Prop where
  ex : ∃ (f : Addr) (fd : FuncData) (ps : List PySem.Str), mg x = some (.ref f) ∧ PySem.W.keepIn K (.ref f) = true ∧ Binds K fd ps [] ∧ FnOk P w K mg base (L2.CX P w) k f fd ps (spDr K)
section
variable {X : Cx} {N : List PySem.Str} {S scope : Scope} {B0 H0 : Hp} {sds : List SD} {os : List (Addr × OV)} {P : D → Prop} {p px pos : Pos} {k : Nat}
theorem ex_draws (c : Ctx X N S) (F : DrF X.prog X.w X.K X.mg X.base "_law_draws" k) (hr : Room k X.A) (i : Nat) {x : PySem.Str} {a : Addr} {ns : List Int} (hq : SqL X.K H0 a (ns.map V.int)) (hn : ns.length ≤ 63) (hp : P .drw) (hs : sds[i]? = some (.v (.ref a)) := by rfl)
    (hN : N[i]? = some x := by rfl) (hv : visB S x = true := by decide +kernel) (hd : (x == ("__debug__" : PySem.Str)) = false := by decide +kernel) (hcd : (x == ("__classdict__" : PySem.Str)) = false := by decide +kernel) (hg : glB S "_law_draws" = true := by decide +kernel)
    (he : starEach [.Name x px] X.env = [(false, eval (.Name x px) X.env)] := by rfl) : EX X B0 H0 sds os (.Call (.Name "_law_draws" p) [.Name x px] [] pos) P := fun B H σ s Q q => by
  obtain ⟨f, fd, ps, h1, h2, h3, h4⟩ := F.ex
  refine PE.to (pe_call h4 hr (c.gl hg) h1 h2 h3 .nil passL (pa_cons (pe_var (i := i) (by rw [c.hN]; exact hN) (c.vis hv) hd hcd) pa_nil he) (by decide +kernel) he rfl) ?_
  exact ⟨.ref a, s.varV hs, a, ns, B, rfl, sqL_mono hq s.g.h, hn, s.g.bh, fun v B' H' g i => q v B' H' .drw g i hp⟩
end
/-- what the law's own def calls -/
structure Lw (P : Program) (w : World) (K : PySem.W.Frag) (mg : PySem.Str → Option Value) (base : Heap) (k : Nat) (CW : Addr) : Prop where
  bi : Bi mg
  draws : DrF P w K mg base "_law_draws" k
  web : FnD P w K mg base "_law_web" k (spWeb 4)
  ties : FnD P w K mg base "_law_ties" k spTies
  mkW : MkD P w K mg base "Web" CW k spWebI
  right : FnD P w K mg base "_law_arrow_right" k (spRight CW)
  refused : FnD P w K mg base "_law_refused" k (spRefused CW)
abbrev N66 : List PySem.Str := ["_law_script", "_law_draws_here", "_law_near_here", "_law_web_here", "_law_ties_here", "_law_arrows", "_law_a", "_law_b", "_law_arrow"]
theorem body_law {X : Cx} (c : CtxT X N66 (defScope (top 66))) {CW : Addr} {k : Nat} (hr : Room (k + 1) X.A) (F : Lw X.prog X.w X.K X.mg X.base k CW) {B0 H0 : Hp} {a : Addr} {ns : List Int} (hq : SqL X.K H0 a (ns.map V.int)) (hn : ns.length ≤ 63) :
    Go X B0 H0 [.v (.ref a), .un, .un, .un, .un, .un, .un, .un, .un] [] { rt := (· = .bl true) } (defBody (top 66)) := by
  have hr' : Room k X.A := hr.mono (by omega)
  refine go_cons (g1_asg c.toCtxD 1 (ex_draws c.toCtx F.draws hr' 0 hq hn ?_))
  refine go_cons (g1_asg c.toCtxD 2 (ex_call c.toCtx F.web hr' (ea_cons (ex_var c.toCtx 1 (ea_cons (ex_int (ea_nil ⟨8, rfl, by decide, by decide, fun n g h1 h2 hg => ?_⟩)))))))
  have ht := ties_len n g
  have hnn : n * n ≤ 8 * 8 := Nat.mul_le_mul h2 h2
  refine go_cons (g1_asg c.toCtxD 3 (ex_make c.toCtx F.mkW hr (ea_cons (ex_len c.toCtx F.bi.len (ex_var c.toCtx 2 ⟨n, web_len, ea_cons (ex_call c.toCtx F.ties hr' (ea_cons (ex_var c.toCtx 2 (ea_nil ⟨n, g, rfl, by omega, ea_nil ⟨n, g, rfl, h1, by omega, hg, ?_⟩⟩))))⟩)))))
  refine go_cons (g1_asg c.toCtxD 4 (ex_call c.toCtx F.ties hr' (ea_cons (ex_var c.toCtx 2 (ea_nil ⟨n, g, rfl, by omega, ?_⟩)))))
  refine go_cons (g1_asg c.toCtxD 5 (ex_ofL (el_cat (ex_var c.toCtx 4 ⟨_, rfl, ex_ofL (el_lc0 c.toCtx [("_law_a", 6), ("_law_b", 7)] (.tp [6, 7]) (fun X' b => tb_tp (b.ctx c.toCtx) (tbs_cons (b.ctx c.toCtx) 6 (tbs_cons (b.ctx c.toCtx) 7 tgs_nil))) (ix_list (ex_var c.toCtx 4 ⟨_, rfl, ?_⟩)))⟩))))
  refine ⟨Nat × Nat, tiesOf n g, prn, fun q => prn (q.2, q.1), rfl, by omega, fun q _ => ⟨_, rfl, rfl, fun X' b => ex_tup (ea_cons (ex_var (b.ctx c.toCtx) 7 (ea_cons (ex_var (b.ctx c.toCtx) 6 (ea_nil ⟨le2, rfl⟩)))))⟩, _, rfl, by rw [List.length_map, List.length_map]; omega, ?_⟩
  have e : (tiesOf n g).map prn ++ (tiesOf n g).map (fun q => prn (q.2, q.1)) = (tiesOf n g ++ (tiesOf n g).map fun q => (q.2, q.1)).map prn := by rw [List.map_append, List.map_map]; rfl
  rw [e]
  have hl : ∀ p ∈ tiesOf n g ++ (tiesOf n g).map fun q => (q.2, q.1), p.1 < n ∧ p.2 < n ∧ g p.1 p.2 = true := by
    intro p hp
    rcases List.mem_append.mp hp with hp | hp
    · have := mem_ties.mp hp
      exact ⟨by omega, by omega, this.2.2⟩
    · obtain ⟨q, hq, rfl⟩ := List.mem_map.mp hp
      have := mem_ties.mp hq
      exact ⟨by show q.2 < n; omega, by show q.1 < n; omega, by show g q.2 q.1 = true; rw [hg.1]; exact this.2.2⟩
  generalize tiesOf n g ++ (tiesOf n g).map (fun q => (q.2, q.1)) = l at hl ⊢
  let M : List SD → List (Addr × OV) → Prop := fun sds os => os = [] ∧ ∃ x : SD, sds = [.v (.ref a), .d .drw, .d (webD n g), .d (webO CW n g), .d (.lst ((tiesOf n g).map prn)), .d (.lst (l.map prn)), .un, .un, x]
  refine go_cut M (g1_for (t := .nm 8) c.own c.calm (tg_nm c.toCtxD 8) (ix_list (ex_var c.toCtx 5 ⟨_, rfl, forOk_map (fun _ => M) ⟨rfl, _, rfl⟩ ?_ fun _ _ h => h⟩))) ?_
  · rintro i ⟨p, q⟩ sds os hi ⟨rfl, x, rfl⟩
    have hm := List.mem_of_getElem? hi
    obtain ⟨h3, h4, h5⟩ := hl _ hm
    exact go_cons (g1_if (tx_not (tx_val (ex_call c.toCtx F.right hr' (ea_cons (ex_var c.toCtx 1 (ea_cons (ex_var c.toCtx 3 (ea_cons (ex_var c.toCtx 2 (ea_cons (ex_var c.toCtx 8 (ea_cons (ex_var c.toCtx 5 (ea_nil ⟨n, g, p, q, l, rfl, by omega, hg, h3, h4, h5, List.length_pos_of_mem hm, hl, true, rfl, fun z => (by cases z), fun _ => go_nil (go_nil ⟨rfl, _, rfl⟩)⟩)))))))))))))))
  rintro sds os ⟨rfl, x, rfl⟩
  exact go_cons (g1_ret (ex_call c.toCtx F.refused hr' (ea_cons (ex_var c.toCtx 1 (ea_cons (ex_var c.toCtx 3 (ea_cons (ex_var c.toCtx 2 (ea_nil ⟨n, g, rfl, by omega, hg, rfl⟩)))))))))
end OB
set_option Elab.async false
set_option linter.all false
set_option maxRecDepth 100000
set_option maxHeartbeats 4000000
namespace OB
open PySem PySem.Spec PyProof.Rows L2
abbrev FnP (K : PySem.W.Frag) (x : PySem.Str) (st : Stmt) (f : Addr) (fd : FuncData) : Prop := FunD K x x (defArgs st) (defBody st) (defScope st) [] [] f fd
section
variable {P : Program} {w : World} {K : PySem.W.Frag} {mg : PySem.Str → Option Value} {base : Heap} {f CW CB CT CE : Addr} {fd : FuncData}
theorem Ws.mono {k k' : Nat} (W : Ws P w K mg base k) (l : k ≤ k') : Ws P w K mg base k' := ⟨W.bi, W.take.mono l, W.blank.mono l, W.near.mono l, W.con.mono l, W.graft.mono l, W.path.mono l, W.round.mono l⟩
theorem mk_is_whole (Fd : FnP K "is_whole" (top 9) f fd) (hm : mg "is_whole" = some (.ref f)) (bi : Bi mg) : FnD P w K mg base "is_whole" 1 spWhole :=
  fn3 (N := N9) (ps := (N9 : List PySem.Str).take 1) Fd hm (Fd.bindsN fun _ _ _ _ _ _ us hl => match us, hl with | [_], _ => rfl) ⟨rfl, rfl, rfl, by decide +kernel, rfl, by decide +kernel, by decide +kernel⟩ (fun ds P R h => by
    unfold spWhole at h
    repeat (first | (obtain ⟨e, _⟩ := h; subst e; rfl) | (obtain ⟨_, h⟩ := h)))
    (fun X e1 e2 e3 e4 e5 hr c => by subst e1 e2 e3 e4 e5; exact body_is_whole c bi)
theorem mk_is_thing (Fd : FnP K "is_thing" (top 10) f fd) (hm : mg "is_thing" = some (.ref f)) (h1 : FnD P w K mg base "is_whole" 1 spWhole) : FnD P w K mg base "is_thing" 2 spThing :=
  fn3 (N := N10) (ps := (N10 : List PySem.Str).take 2) Fd hm (Fd.bindsN fun _ _ _ _ _ _ us hl => match us, hl with | [_, _], _ => rfl) ⟨rfl, rfl, rfl, by decide +kernel, rfl, by decide +kernel, by decide +kernel⟩ (fun ds P R h => by
    unfold spThing at h
    repeat (first | (obtain ⟨e, _⟩ := h; subst e; rfl) | (obtain ⟨_, h⟩ := h)))
    (fun X e1 e2 e3 e4 e5 hr c => by subst e1 e2 e3 e4 e5; exact body_is_thing c hr h1)
theorem mk_is_several (Fd : FnP K "is_several" (top 11) f fd) (hm : mg "is_several" = some (.ref f)) (bi : Bi mg) : FnD P w K mg base "is_several" 1 spSev :=
  fn3 (N := N9) (ps := (N9 : List PySem.Str).take 1) Fd hm (Fd.bindsN fun _ _ _ _ _ _ us hl => match us, hl with | [_], _ => rfl) ⟨rfl, rfl, rfl, by decide +kernel, rfl, by decide +kernel, by decide +kernel⟩ (fun ds P R h => by
    unfold spSev at h
    repeat (first | (obtain ⟨e, _⟩ := h; subst e; rfl) | (obtain ⟨_, h⟩ := h)))
    (fun X e1 e2 e3 e4 e5 hr c => by subst e1 e2 e3 e4 e5; exact body_is_several c bi)
theorem mk_is_pair (Fd : FnP K "is_pair" (top 12) f fd) (hm : mg "is_pair" = some (.ref f)) (bi : Bi mg) (h1 : FnD P w K mg base "is_several" 2 spSev) (h2 : FnD P w K mg base "is_thing" 2 spThing) : FnD P w K mg base "is_pair" 3 spIsPair :=
  fn3 (N := N10) (ps := (N10 : List PySem.Str).take 2) Fd hm (Fd.bindsN fun _ _ _ _ _ _ us hl => match us, hl with | [_, _], _ => rfl) ⟨rfl, rfl, rfl, by decide +kernel, rfl, by decide +kernel, by decide +kernel⟩ (fun ds P R h => by
    unfold spIsPair at h
    repeat (first | (obtain ⟨e, _⟩ := h; subst e; rfl) | (obtain ⟨_, h⟩ := h)))
    (fun X e1 e2 e3 e4 e5 hr c => by subst e1 e2 e3 e4 e5; exact body_is_pair c bi hr h1 h2)
theorem mk_pair_of (Fd : FnP K "pair_of" (top 14) f fd) (hm : mg "pair_of" = some (.ref f)) (h1 : FnD P w K mg base "is_pair" 3 spIsPair) (h2 : ExcD P w K mg base "BadPair" CB 3 ["place"]) : FnD P w K mg base "pair_of" 5 (spPairOf CB) :=
  fn3 (N := N14) (ps := (N14 : List PySem.Str).take 2) Fd hm (Fd.bindsN fun _ _ _ _ _ _ us hl => match us, hl with | [_, _], _ => rfl) ⟨rfl, rfl, rfl, by decide +kernel, rfl, by decide +kernel, by decide +kernel⟩ (fun ds P R h => by
    unfold spPairOf at h
    repeat (first | (obtain ⟨e, _⟩ := h; subst e; rfl) | (obtain ⟨_, h⟩ := h)))
    (fun X e1 e2 e3 e4 e5 hr c => by subst e1 e2 e3 e4 e5; exact body_pair_of c hr h1 h2)
theorem mk_ties_of (Fd : FnP K "ties_of" (top 15) f fd) (hm : mg "ties_of" = some (.ref f)) (bi : Bi mg) (h1 : FnD P w K mg base "pairs_of" 4 spPairs) : FnD P w K mg base "ties_of" 5 spTiesOf :=
  fn3 (N := N15) (ps := (N15 : List PySem.Str).take 2) Fd hm (Fd.bindsN fun _ _ _ _ _ _ us hl => match us, hl with | [_, _], _ => rfl) ⟨rfl, rfl, rfl, by decide +kernel, rfl, by decide +kernel, by decide +kernel⟩ (fun ds P R h => by
    unfold spTiesOf at h
    repeat (first | (obtain ⟨e, _⟩ := h; subst e; rfl) | (obtain ⟨_, h⟩ := h)))
    (fun X e1 e2 e3 e4 e5 hr c => by subst e1 e2 e3 e4 e5; exact body_ties_of c bi hr h1)
theorem mk_pairs_of (Fd : FnP K "pairs_of" (top 16) f fd) (hm : mg "pairs_of" = some (.ref f)) (bi : Bi mg) (h1 : FnD P w K mg base "is_several" 3 spSev) (h2 : FnD P w K mg base "is_pair" 3 spIsPair) : FnD P w K mg base "pairs_of" 4 spPairs :=
  fn3 (N := N16) (ps := (N16 : List PySem.Str).take 2) Fd hm (Fd.bindsN fun _ _ _ _ _ _ us hl => match us, hl with | [_, _], _ => rfl) ⟨rfl, rfl, rfl, by decide +kernel, rfl, by decide +kernel, by decide +kernel⟩ (fun ds P R h => by
    unfold spPairs at h
    repeat (first | (obtain ⟨e, _⟩ := h; subst e; rfl) | (obtain ⟨_, h⟩ := h)))
    (fun X e1 e2 e3 e4 e5 hr c => by subst e1 e2 e3 e4 e5; exact body_pairs_of c bi hr h1 h2)
theorem mk_number_of_kind (Fd : FnP K "number_of_kind" (top 17) f fd) (hm : mg "number_of_kind" = some (.ref f)) (h1 : FnD P w K mg base "is_whole" 1 spWhole) : FnD P w K mg base "number_of_kind" 2 spNum :=
  fn3 (N := N17) (ps := (N17 : List PySem.Str).take 4) Fd hm (Fd.bindsN fun _ _ _ _ _ _ us hl => match us, hl with | [_, _, _, _], _ => rfl) ⟨rfl, rfl, rfl, by decide +kernel, rfl, by decide +kernel, by decide +kernel⟩ (fun ds P R h => by
    unfold spNum at h
    repeat (first | (obtain ⟨e, _⟩ := h; subst e; rfl) | (obtain ⟨_, h⟩ := h)))
    (fun X e1 e2 e3 e4 e5 hr c => by subst e1 e2 e3 e4 e5; exact body_number c hr h1)
theorem mk_least_in (Fd : FnP K "least_in" (top 21) f fd) (hm : mg "least_in" = some (.ref f))  : FnD P w K mg base "least_in" 1 spLeast :=
  fn3 (N := N21) (ps := (N21 : List PySem.Str).take 1) Fd hm (Fd.bindsN fun _ _ _ _ _ _ us hl => match us, hl with | [_], _ => rfl) ⟨rfl, rfl, rfl, by decide +kernel, rfl, by decide +kernel, by decide +kernel⟩ (fun ds P R h => by
    unfold spLeast at h
    repeat (first | (obtain ⟨e, _⟩ := h; subst e; rfl) | (obtain ⟨_, h⟩ := h)))
    (fun X e1 e2 e3 e4 e5 hr c => by subst e1 e2 e3 e4 e5; exact body_least_in c)
theorem mk_things_in (Fd : FnP K "things_in" (top 20) f fd) (hm : mg "things_in" = some (.ref f)) (bi : Bi mg) (h1 : FnD P w K mg base "least_in" 1 spLeast) : FnD P w K mg base "things_in" 2 spThings :=
  fn3 (N := N20) (ps := (N20 : List PySem.Str).take 1) Fd hm (Fd.bindsN fun _ _ _ _ _ _ us hl => match us, hl with | [_], _ => rfl) ⟨rfl, rfl, rfl, by decide +kernel, rfl, by decide +kernel, by decide +kernel⟩ (fun ds P R h => by
    unfold spThings at h
    repeat (first | (obtain ⟨e, _⟩ := h; subst e; rfl) | (obtain ⟨_, h⟩ := h)))
    (fun X e1 e2 e3 e4 e5 hr c => by subst e1 e2 e3 e4 e5; exact body_things_in c bi hr h1)
theorem mk_has_thing (Fd : FnP K "has_thing" (top 22) f fd) (hm : mg "has_thing" = some (.ref f))  : FnD P w K mg base "has_thing" 1 spHas :=
  fn3 (N := N22) (ps := (N22 : List PySem.Str).take 2) Fd hm (Fd.bindsN fun _ _ _ _ _ _ us hl => match us, hl with | [_, _], _ => rfl) ⟨rfl, rfl, rfl, by decide +kernel, rfl, by decide +kernel, by decide +kernel⟩ (fun ds P R h => by
    unfold spHas at h
    repeat (first | (obtain ⟨e, _⟩ := h; subst e; rfl) | (obtain ⟨_, h⟩ := h)))
    (fun X e1 e2 e3 e4 e5 hr c => by subst e1 e2 e3 e4 e5; exact body_has_thing c)
theorem mk_masks_of_pairs (Fd : FnP K "masks_of_pairs" (top 23) f fd) (hm : mg "masks_of_pairs" = some (.ref f)) (bi : Bi mg) : FnD P w K mg base "masks_of_pairs" 1 spMasks :=
  fn3 (N := N23) (ps := (N23 : List PySem.Str).take 2) Fd hm (Fd.bindsN fun _ _ _ _ _ _ us hl => match us, hl with | [_, _], _ => rfl) ⟨rfl, rfl, rfl, by decide +kernel, rfl, by decide +kernel, by decide +kernel⟩ (fun ds P R h => by
    unfold spMasks at h
    repeat (first | (obtain ⟨e, _⟩ := h; subst e; rfl) | (obtain ⟨_, h⟩ := h)))
    (fun X e1 e2 e3 e4 e5 hr c => by subst e1 e2 e3 e4 e5; exact body_masks_of_pairs c bi)
theorem mk_check_tied (Fd : FnP K "check_tied" (top 26) f fd) (hm : mg "check_tied" = some (.ref f)) (wc : WebC K CW) (h1 : FnD P w K mg base "has_thing" 1 spHas) (h2 : ExcD P w K mg base "NotTied" CT 1 ["first", "second"]) : FnD P w K mg base "check_tied" 3 (spCheck CW CT) :=
  fn3 (N := N26) (ps := (N26 : List PySem.Str).take 2) Fd hm (Fd.bindsN fun _ _ _ _ _ _ us hl => match us, hl with | [_, _], _ => rfl) ⟨rfl, rfl, rfl, by decide +kernel, rfl, by decide +kernel, by decide +kernel⟩ (fun ds P R h => by
    unfold spCheck at h
    repeat (first | (obtain ⟨e, _⟩ := h; subst e; rfl) | (obtain ⟨_, h⟩ := h)))
    (fun X e1 e2 e3 e4 e5 hr c => by subst e1 e2 e3 e4 e5; exact body_check_tied c wc hr h1 h2)
theorem mk_arrow_of (Fd : FnP K "arrow_of" (top 27) f fd) (hm : mg "arrow_of" = some (.ref f)) (wc : WebC K CW) (h1 : FnD P w K mg base "pair_of" 5 (spPairOf CB)) (h2 : FnD P w K mg base "check_tied" 5 (spCheck CW CT)) : FnD P w K mg base "arrow_of" 6 (spArrow CW CB CT) :=
  fn3 (N := N27) (ps := (N27 : List PySem.Str).take 2) Fd hm (Fd.bindsN fun _ _ _ _ _ _ us hl => match us, hl with | [_, _], _ => rfl) ⟨rfl, rfl, rfl, by decide +kernel, rfl, by decide +kernel, by decide +kernel⟩ (fun ds P R h => by
    unfold spArrow at h
    repeat (first | (obtain ⟨e, _⟩ := h; subst e; rfl) | (obtain ⟨_, h⟩ := h)))
    (fun X e1 e2 e3 e4 e5 hr c => by subst e1 e2 e3 e4 e5; exact body_arrow_of c wc hr h1 h2)
theorem mk_two_arrows_of (Fd : FnP K "two_arrows_of" (top 28) f fd) (hm : mg "two_arrows_of" = some (.ref f)) (wc : WebC K CW) (h1 : FnD P w K mg base "pair_of" 5 (spPairOf CB)) (h2 : FnD P w K mg base "check_tied" 5 (spCheck CW CT)) : FnD P w K mg base "two_arrows_of" 6 (spTwo CW CB CT) :=
  fn3 (N := N28) (ps := (N28 : List PySem.Str).take 3) Fd hm (Fd.bindsN fun _ _ _ _ _ _ us hl => match us, hl with | [_, _, _], _ => rfl) ⟨rfl, rfl, rfl, by decide +kernel, rfl, by decide +kernel, by decide +kernel⟩ (fun ds P R h => by
    unfold spTwo at h
    repeat (first | (obtain ⟨e, _⟩ := h; subst e; rfl) | (obtain ⟨_, h⟩ := h)))
    (fun X e1 e2 e3 e4 e5 hr c => by subst e1 e2 e3 e4 e5; exact body_two_arrows c wc hr h1 h2)
theorem mk_forced_from (Fd : FnP K "forced_from" (top 29) f fd) (hm : mg "forced_from" = some (.ref f)) (wc : WebC K CW) (h1 : FnD P w K mg base "things_in" 2 spThings) : FnD P w K mg base "forced_from" 3 (spFrom CW) :=
  fn3 (N := N29) (ps := (N29 : List PySem.Str).take 2) Fd hm (Fd.bindsN fun _ _ _ _ _ _ us hl => match us, hl with | [_, _], _ => rfl) ⟨rfl, rfl, rfl, by decide +kernel, rfl, by decide +kernel, by decide +kernel⟩ (fun ds P R h => by
    unfold spFrom at h
    repeat (first | (obtain ⟨e, _⟩ := h; subst e; rfl) | (obtain ⟨_, h⟩ := h)))
    (fun X e1 e2 e3 e4 e5 hr c => by subst e1 e2 e3 e4 e5; exact body_forced_from c wc hr h1)
theorem mk_forced_by (Fd : FnP K "forced_by" (top 30) f fd) (hm : mg "forced_by" = some (.ref f)) (bi : Bi mg) (wc : WebC K CW) (h1 : FnD P w K mg base "arrow_of" 6 (spArrow CW CB CT)) (h2 : FnD P w K mg base "forced_from" 6 (spFrom CW)) : FnD P w K mg base "forced_by" 7 (spForcedBy CW CB CT) :=
  fn3 (N := N27) (ps := (N27 : List PySem.Str).take 2) Fd hm (Fd.bindsN fun _ _ _ _ _ _ us hl => match us, hl with | [_, _], _ => rfl) ⟨rfl, rfl, rfl, by decide +kernel, rfl, by decide +kernel, by decide +kernel⟩ (fun ds P R h => by
    unfold spForcedBy at h
    repeat (first | (obtain ⟨e, _⟩ := h; subst e; rfl) | (obtain ⟨_, h⟩ := h)))
    (fun X e1 e2 e3 e4 e5 hr c => by subst e1 e2 e3 e4 e5; exact body_forced_by c bi wc hr h1 h2)
theorem mk_forces (Fd : FnP K "forces" (top 31) f fd) (hm : mg "forces" = some (.ref f)) (bi : Bi mg) (wc : WebC K CW) (h1 : FnD P w K mg base "two_arrows_of" 6 (spTwo CW CB CT)) (h2 : FnD P w K mg base "forced_from" 6 (spFrom CW)) : FnD P w K mg base "forces" 7 (spForces CW CB CT) :=
  fn3 (N := N31) (ps := (N31 : List PySem.Str).take 3) Fd hm (Fd.bindsN fun _ _ _ _ _ _ us hl => match us, hl with | [_, _, _], _ => rfl) ⟨rfl, rfl, rfl, by decide +kernel, rfl, by decide +kernel, by decide +kernel⟩ (fun ds P R h => by
    unfold spForces at h
    repeat (first | (obtain ⟨e, _⟩ := h; subst e; rfl) | (obtain ⟨_, h⟩ := h)))
    (fun X e1 e2 e3 e4 e5 hr c => by subst e1 e2 e3 e4 e5; exact body_forces c bi wc hr h1 h2)
theorem mk__law_take (Fd : FnP K "_law_take" (top 40) f fd) (hm : mg "_law_take" = some (.ref f)) (bi : Bi mg) : FnD P w K mg base "_law_take" 1 spTake :=
  fn3 (N := ["_law_draws_here", "_law_many"]) (ps := (["_law_draws_here", "_law_many"] : List PySem.Str).take 2) Fd hm (Fd.bindsN fun _ _ _ _ _ _ us hl => match us, hl with | [_, _], _ => rfl) ⟨rfl, rfl, rfl, by decide +kernel, rfl, by decide +kernel, by decide +kernel⟩ (fun ds P R h => by
    unfold spTake at h
    repeat (first | (obtain ⟨e, _⟩ := h; subst e; rfl) | (obtain ⟨_, h⟩ := h)))
    (fun X e1 e2 e3 e4 e5 hr c => by subst e1 e2 e3 e4 e5; exact body_take c bi)
theorem mk__law_row (Fd : FnP K "_law_row" (top 41) f fd) (hm : mg "_law_row" = some (.ref f)) (bi : Bi mg) (h1 : FnD P w K mg base "_law_take" 1 spTake) : FnD P w K mg base "_law_row" 2 spRow :=
  fn3 (N := N41) (ps := (N41 : List PySem.Str).take 2) Fd hm (Fd.bindsN fun _ _ _ _ _ _ us hl => match us, hl with | [_, _], _ => rfl) ⟨rfl, rfl, rfl, by decide +kernel, rfl, by decide +kernel, by decide +kernel⟩ (fun ds P R h => by
    unfold spRow at h
    repeat (first | (obtain ⟨e, _⟩ := h; subst e; rfl) | (obtain ⟨_, h⟩ := h)))
    (fun X e1 e2 e3 e4 e5 hr c => by subst e1 e2 e3 e4 e5; exact body_row c hr bi h1)
theorem mk__law_near (Fd : FnP K "_law_near" (top 43) f fd) (hm : mg "_law_near" = some (.ref f)) (h1 : FnM P w K mg base "_law_blank" 1 spBlank) : FnD P w K mg base "_law_near" 2 spNear :=
  fn3 (N := N43) (ps := (N43 : List PySem.Str).take 2) Fd hm (Fd.bindsN fun _ _ _ _ _ _ us hl => match us, hl with | [_, _], _ => rfl) ⟨rfl, rfl, rfl, by decide +kernel, rfl, by decide +kernel, by decide +kernel⟩ (fun ds P R h => by
    unfold spNear at h
    repeat (first | (obtain ⟨e, _⟩ := h; subst e; rfl) | (obtain ⟨_, h⟩ := h)))
    (fun X e1 e2 e3 e4 e5 hr c => by subst e1 e2 e3 e4 e5; exact body_near c hr h1)
theorem mk__law_ties (Fd : FnP K "_law_ties" (top 44) f fd) (hm : mg "_law_ties" = some (.ref f)) (bi : Bi mg) : FnD P w K mg base "_law_ties" 1 spTies :=
  fn3 (N := N44) (ps := (N44 : List PySem.Str).take 1) Fd hm (Fd.bindsN fun _ _ _ _ _ _ us hl => match us, hl with | [_], _ => rfl) ⟨rfl, rfl, rfl, by decide +kernel, rfl, by decide +kernel, by decide +kernel⟩ (fun ds P R h => by
    unfold spTies at h
    repeat (first | (obtain ⟨e, _⟩ := h; subst e; rfl) | (obtain ⟨_, h⟩ := h)))
    (fun X e1 e2 e3 e4 e5 hr c => by subst e1 e2 e3 e4 e5; exact body_ties c bi)
theorem mk__law_contrary (Fd : FnP K "_law_contrary" (top 45) f fd) (hm : mg "_law_contrary" = some (.ref f)) (bi : Bi mg) (h1 : FnM P w K mg base "_law_blank" 1 spBlank) : FnD P w K mg base "_law_contrary" 2 spContrary :=
  fn3 (N := N45) (ps := (N45 : List PySem.Str).take 1) Fd hm (Fd.bindsN fun _ _ _ _ _ _ us hl => match us, hl with | [_], _ => rfl) ⟨rfl, rfl, rfl, by decide +kernel, rfl, by decide +kernel, by decide +kernel⟩ (fun ds P R h => by
    unfold spContrary at h
    repeat (first | (obtain ⟨e, _⟩ := h; subst e; rfl) | (obtain ⟨_, h⟩ := h)))
    (fun X e1 e2 e3 e4 e5 hr c => by subst e1 e2 e3 e4 e5; exact body_contrary c bi hr h1)
theorem mk__law_renamed (Fd : FnP K "_law_renamed" (top 46) f fd) (hm : mg "_law_renamed" = some (.ref f)) (bi : Bi mg) (h1 : FnM P w K mg base "_law_blank" 1 spBlank) : FnD P w K mg base "_law_renamed" 2 spRenamed :=
  fn3 (N := N46) (ps := (N46 : List PySem.Str).take 2) Fd hm (Fd.bindsN fun _ _ _ _ _ _ us hl => match us, hl with | [_, _], _ => rfl) ⟨rfl, rfl, rfl, by decide +kernel, rfl, by decide +kernel, by decide +kernel⟩ (fun ds P R h => by
    unfold spRenamed at h
    repeat (first | (obtain ⟨e, _⟩ := h; subst e; rfl) | (obtain ⟨_, h⟩ := h)))
    (fun X e1 e2 e3 e4 e5 hr c => by subst e1 e2 e3 e4 e5; exact body_renamed c bi hr h1)
theorem mk__law_graft (Fd : FnP K "_law_graft" (top 47) f fd) (hm : mg "_law_graft" = some (.ref f)) (bi : Bi mg) (h1 : FnM P w K mg base "_law_blank" 1 spBlank) : FnD P w K mg base "_law_graft" 2 spGraft :=
  fn3 (N := N47) (ps := (N47 : List PySem.Str).take 3) Fd hm (Fd.bindsN fun _ _ _ _ _ _ us hl => match us, hl with | [_, _, _], _ => rfl) ⟨rfl, rfl, rfl, by decide +kernel, rfl, by decide +kernel, by decide +kernel⟩ (fun ds P R h => by
    unfold spGraft at h
    repeat (first | (obtain ⟨e, _⟩ := h; subst e; rfl) | (obtain ⟨_, h⟩ := h)))
    (fun X e1 e2 e3 e4 e5 hr c => by subst e1 e2 e3 e4 e5; exact body_graft c bi hr h1)
theorem mk__law_path (Fd : FnP K "_law_path" (top 48) f fd) (hm : mg "_law_path" = some (.ref f)) (bi : Bi mg) (h1 : FnD P w K mg base "_law_near" 2 spNear) : FnD P w K mg base "_law_path" 3 (spPath 1) :=
  fn3 (N := N48) (ps := (N48 : List PySem.Str).take 1) Fd hm (Fd.bindsN fun _ _ _ _ _ _ us hl => match us, hl with | [_], _ => rfl) ⟨rfl, rfl, rfl, by decide +kernel, rfl, by decide +kernel, by decide +kernel⟩ (fun ds P R h => by
    unfold spPath at h
    repeat (first | (obtain ⟨e, _⟩ := h; subst e; rfl) | (obtain ⟨_, h⟩ := h)))
    (fun X e1 e2 e3 e4 e5 hr c => by subst e1 e2 e3 e4 e5; exact body_path c bi hr h1)
theorem mk__law_round (Fd : FnP K "_law_round" (top 49) f fd) (hm : mg "_law_round" = some (.ref f)) (bi : Bi mg) (h1 : FnD P w K mg base "_law_near" 2 spNear) : FnD P w K mg base "_law_round" 3 (spPath 2) :=
  fn3 (N := N48) (ps := (N48 : List PySem.Str).take 1) Fd hm (Fd.bindsN fun _ _ _ _ _ _ us hl => match us, hl with | [_], _ => rfl) ⟨rfl, rfl, rfl, by decide +kernel, rfl, by decide +kernel, by decide +kernel⟩ (fun ds P R h => by
    unfold spPath at h
    repeat (first | (obtain ⟨e, _⟩ := h; subst e; rfl) | (obtain ⟨_, h⟩ := h)))
    (fun X e1 e2 e3 e4 e5 hr c => by subst e1 e2 e3 e4 e5; exact body_round c bi hr h1)
theorem mk__law_agree (Fd : FnP K "_law_agree" (top 50) f fd) (hm : mg "_law_agree" = some (.ref f)) (W : Ws P w K mg base 3) : FnD P w K mg base "_law_agree" 4 spAgree :=
  fn3 (N := N50) (ps := (N50 : List PySem.Str).take 1) Fd hm (Fd.bindsN fun _ _ _ _ _ _ us hl => match us, hl with | [_], _ => rfl) ⟨rfl, rfl, rfl, by decide +kernel, rfl, by decide +kernel, by decide +kernel⟩ (fun ds P R h => by
    unfold spAgree at h
    repeat (first | (obtain ⟨e, _⟩ := h; subst e; rfl) | (obtain ⟨_, h⟩ := h)))
    (fun X e1 e2 e3 e4 e5 hr c => by subst e1 e2 e3 e4 e5; exact body_agree c hr W)
theorem mk__law_base (Fd : FnP K "_law_base" (top 51) f fd) (hm : mg "_law_base" = some (.ref f)) (W : Ws P w K mg base 3) : FnD P w K mg base "_law_base" 4 spBase :=
  fn3 (N := N51) (ps := (N51 : List PySem.Str).take 1) Fd hm (Fd.bindsN fun _ _ _ _ _ _ us hl => match us, hl with | [_], _ => rfl) ⟨rfl, rfl, rfl, by decide +kernel, rfl, by decide +kernel, by decide +kernel⟩ (fun ds P R h => by
    unfold spBase at h
    repeat (first | (obtain ⟨e, _⟩ := h; subst e; rfl) | (obtain ⟨_, h⟩ := h)))
    (fun X e1 e2 e3 e4 e5 hr c => by subst e1 e2 e3 e4 e5; exact body_base c hr W)
theorem mk__law_nested (Fd : FnP K "_law_nested" (top 52) f fd) (hm : mg "_law_nested" = some (.ref f)) (W : Ws P w K mg base 4) (h1 : FnD P w K mg base "_law_base" 4 spBase) : FnD P w K mg base "_law_nested" 5 (spWeb 4) :=
  fn3 (N := N52) (ps := (N52 : List PySem.Str).take 2) Fd hm (Fd.bindsN fun _ _ _ _ _ _ us hl => match us, hl with | [_, _], _ => rfl) ⟨rfl, rfl, rfl, by decide +kernel, rfl, by decide +kernel, by decide +kernel⟩ (fun ds P R h => by
    unfold spWeb at h
    repeat (first | (obtain ⟨e, _⟩ := h; subst e; rfl) | (obtain ⟨_, h⟩ := h)))
    (fun X e1 e2 e3 e4 e5 hr c => by subst e1 e2 e3 e4 e5; exact body_nested c hr W h1)
theorem mk__law_any_ties (Fd : FnP K "_law_any_ties" (top 53) f fd) (hm : mg "_law_any_ties" = some (.ref f)) (W : Ws P w K mg base 3) : FnD P w K mg base "_law_any_ties" 4 spAny :=
  fn3 (N := N53) (ps := (N53 : List PySem.Str).take 2) Fd hm (Fd.bindsN fun _ _ _ _ _ _ us hl => match us, hl with | [_, _], _ => rfl) ⟨rfl, rfl, rfl, by decide +kernel, rfl, by decide +kernel, by decide +kernel⟩ (fun ds P R h => by
    unfold spAny at h
    repeat (first | (obtain ⟨e, _⟩ := h; subst e; rfl) | (obtain ⟨_, h⟩ := h)))
    (fun X e1 e2 e3 e4 e5 hr c => by subst e1 e2 e3 e4 e5; exact body_any c hr W)
theorem mk__law_spans (Fd : FnP K "_law_spans" (top 54) f fd) (hm : mg "_law_spans" = some (.ref f)) (W : Ws P w K mg base 3) : FnD P w K mg base "_law_spans" 4 spSpans :=
  fn3 (N := N54) (ps := (N54 : List PySem.Str).take 2) Fd hm (Fd.bindsN fun _ _ _ _ _ _ us hl => match us, hl with | [_, _], _ => rfl) ⟨rfl, rfl, rfl, by decide +kernel, rfl, by decide +kernel, by decide +kernel⟩ (fun ds P R h => by
    unfold spSpans at h
    repeat (first | (obtain ⟨e, _⟩ := h; subst e; rfl) | (obtain ⟨_, h⟩ := h)))
    (fun X e1 e2 e3 e4 e5 hr c => by subst e1 e2 e3 e4 e5; exact body_spans c hr W)
theorem mk__law_meeting (Fd : FnP K "_law_meeting" (top 55) f fd) (hm : mg "_law_meeting" = some (.ref f)) (W : Ws P w K mg base 3) : FnD P w K mg base "_law_meeting" 4 spMeeting :=
  fn3 (N := N55) (ps := (N55 : List PySem.Str).take 1) Fd hm (Fd.bindsN fun _ _ _ _ _ _ us hl => match us, hl with | [_], _ => rfl) ⟨rfl, rfl, rfl, by decide +kernel, rfl, by decide +kernel, by decide +kernel⟩ (fun ds P R h => by
    unfold spMeeting at h
    repeat (first | (obtain ⟨e, _⟩ := h; subst e; rfl) | (obtain ⟨_, h⟩ := h)))
    (fun X e1 e2 e3 e4 e5 hr c => by subst e1 e2 e3 e4 e5; exact body_meeting c hr W)
theorem mk__law_edge (Fd : FnP K "_law_edge" (top 56) f fd) (hm : mg "_law_edge" = some (.ref f)) (W : Ws P w K mg base 3) : FnD P w K mg base "_law_edge" 4 (spWeb 4) :=
  fn3 (N := N56) (ps := (N56 : List PySem.Str).take 2) Fd hm (Fd.bindsN fun _ _ _ _ _ _ us hl => match us, hl with | [_, _], _ => rfl) ⟨rfl, rfl, rfl, by decide +kernel, rfl, by decide +kernel, by decide +kernel⟩ (fun ds P R h => by
    unfold spWeb at h
    repeat (first | (obtain ⟨e, _⟩ := h; subst e; rfl) | (obtain ⟨_, h⟩ := h)))
    (fun X e1 e2 e3 e4 e5 hr c => by subst e1 e2 e3 e4 e5; exact body_edge c hr W)
theorem mk__law_web (Fd : FnP K "_law_web" (top 57) f fd) (hm : mg "_law_web" = some (.ref f)) (W : Ws2 P w K mg base 5) : FnD P w K mg base "_law_web" 6 (spWeb 4) :=
  fn3 (N := N57) (ps := (N57 : List PySem.Str).take 2) Fd hm (Fd.bindsN fun _ _ _ _ _ _ us hl => match us, hl with | [_, _], _ => rfl) ⟨rfl, rfl, rfl, by decide +kernel, rfl, by decide +kernel, by decide +kernel⟩ (fun ds P R h => by
    unfold spWeb at h
    repeat (first | (obtain ⟨e, _⟩ := h; subst e; rfl) | (obtain ⟨_, h⟩ := h)))
    (fun X e1 e2 e3 e4 e5 hr c => by subst e1 e2 e3 e4 e5; exact body_web c hr W)
theorem mk__law_int (Fd : FnP K "_law_int" (top 58) f fd) (hm : mg "_law_int" = some (.ref f)) (bi : Bi mg) : FnD P w K mg base "_law_int" 1 spWhole :=
  fn3 (N := ["_law_value"]) (ps := (["_law_value"] : List PySem.Str).take 1) Fd hm (Fd.bindsN fun _ _ _ _ _ _ us hl => match us, hl with | [_], _ => rfl) ⟨rfl, rfl, rfl, by decide +kernel, rfl, by decide +kernel, by decide +kernel⟩ (fun ds P R h => by
    unfold spWhole at h
    repeat (first | (obtain ⟨e, _⟩ := h; subst e; rfl) | (obtain ⟨_, h⟩ := h)))
    (fun X e1 e2 e3 e4 e5 hr c => by subst e1 e2 e3 e4 e5; exact body_law_int c bi)
theorem mk__law_ints (Fd : FnP K "_law_ints" (top 59) f fd) (hm : mg "_law_ints" = some (.ref f)) (bi : Bi mg) (h1 : FnD P w K mg base "_law_int" 1 spWhole) : FnD P w K mg base "_law_ints" 2 spInts :=
  fn3 (N := N59) (ps := (N59 : List PySem.Str).take 2) Fd hm (Fd.bindsN fun _ _ _ _ _ _ us hl => match us, hl with | [_, _], _ => rfl) ⟨rfl, rfl, rfl, by decide +kernel, rfl, by decide +kernel, by decide +kernel⟩ (fun ds P R h => by
    unfold spInts at h
    repeat (first | (obtain ⟨e, _⟩ := h; subst e; rfl) | (obtain ⟨_, h⟩ := h)))
    (fun X e1 e2 e3 e4 e5 hr c => by subst e1 e2 e3 e4 e5; exact body_law_ints c bi hr h1)
theorem mk__law_pairs (Fd : FnP K "_law_pairs" (top 60) f fd) (hm : mg "_law_pairs" = some (.ref f)) (bi : Bi mg) (h1 : FnD P w K mg base "_law_ints" 2 spInts) : FnD P w K mg base "_law_pairs" 3 spPairsL :=
  fn3 (N := N60) (ps := (N60 : List PySem.Str).take 2) Fd hm (Fd.bindsN fun _ _ _ _ _ _ us hl => match us, hl with | [_, _], _ => rfl) ⟨rfl, rfl, rfl, by decide +kernel, rfl, by decide +kernel, by decide +kernel⟩ (fun ds P R h => by
    unfold spPairsL at h
    repeat (first | (obtain ⟨e, _⟩ := h; subst e; rfl) | (obtain ⟨_, h⟩ := h)))
    (fun X e1 e2 e3 e4 e5 hr c => by subst e1 e2 e3 e4 e5; exact body_law_pairs c bi hr h1)
theorem mk__law_steps (Fd : FnP K "_law_steps" (top 61) f fd) (hm : mg "_law_steps" = some (.ref f)) (bi : Bi mg) : FnD P w K mg base "_law_steps" 1 spSteps :=
  fn3 (N := N61) (ps := (N61 : List PySem.Str).take 2) Fd hm (Fd.bindsN fun _ _ _ _ _ _ us hl => match us, hl with | [_, _], _ => rfl) ⟨rfl, rfl, rfl, by decide +kernel, rfl, by decide +kernel, by decide +kernel⟩ (fun ds P R h => by
    unfold spSteps at h
    repeat (first | (obtain ⟨e, _⟩ := h; subst e; rfl) | (obtain ⟨_, h⟩ := h)))
    (fun X e1 e2 e3 e4 e5 hr c => by subst e1 e2 e3 e4 e5; exact body_law_steps c bi)
theorem mk__law_says (Fd : FnP K "_law_says" (top 62) f fd) (hm : mg "_law_says" = some (.ref f)) (bi : Bi mg) : FnD P w K mg base "_law_says" 1 spSays :=
  fn3 (N := N62) (ps := (N62 : List PySem.Str).take 2) Fd hm (Fd.bindsN fun _ _ _ _ _ _ us hl => match us, hl with | [_, _], _ => rfl) ⟨rfl, rfl, rfl, by decide +kernel, rfl, by decide +kernel, by decide +kernel⟩ (fun ds P R h => by
    unfold spSays at h
    repeat (first | (obtain ⟨e, _⟩ := h; subst e; rfl) | (obtain ⟨_, h⟩ := h)))
    (fun X e1 e2 e3 e4 e5 hr c => by subst e1 e2 e3 e4 e5; exact body_law_says c bi)
theorem mk__law_arrow_right (Fd : FnP K "_law_arrow_right" (top 63) f fd) (hm : mg "_law_arrow_right" = some (.ref f)) (F : Fo P w K mg base 7 CW CB CT) : FnD P w K mg base "_law_arrow_right" 8 (spRight CW) :=
  fn3 (N := N63) (ps := (N63 : List PySem.Str).take 5) Fd hm (Fd.bindsN fun _ _ _ _ _ _ us hl => match us, hl with | [_, _, _, _, _], _ => rfl) ⟨rfl, rfl, rfl, by decide +kernel, rfl, by decide +kernel, by decide +kernel⟩ (fun ds P R h => by
    unfold spRight at h
    repeat (first | (obtain ⟨e, _⟩ := h; subst e; rfl) | (obtain ⟨_, h⟩ := h)))
    (fun X e1 e2 e3 e4 e5 hr c => by subst e1 e2 e3 e4 e5; exact body_right c hr F)
theorem mk__law_refusal (Fd : FnP K "_law_refusal" (top 64) f fd) (hm : mg "_law_refusal" = some (.ref f)) (xs : Xs K mg CB CT CE) (h1 : FnD P w K mg base "forced_by" 7 (spForcedBy CW CB CT)) (h2 : FnD P w K mg base "forces" 7 (spForces CW CB CT)) : FnD P w K mg base "_law_refusal" 8 (spRefusal CW) :=
  fn3 (N := N64) (ps := (N64 : List PySem.Str).take 4) Fd hm (Fd.bindsN fun _ _ _ _ _ _ us hl => match us, hl with | [_, _, _, _], _ => rfl) ⟨rfl, rfl, rfl, by decide +kernel, rfl, by decide +kernel, by decide +kernel⟩ (fun ds P R h => by
    unfold spRefusal at h
    repeat (first | (obtain ⟨e, _⟩ := h; subst e; rfl) | (obtain ⟨_, h⟩ := h)))
    (fun X e1 e2 e3 e4 e5 hr c => by subst e1 e2 e3 e4 e5; exact body_refusal c hr xs h1 h2)
theorem mk__law_refused (Fd : FnP K "_law_refused" (top 65) f fd) (hm : mg "_law_refused" = some (.ref f)) (F : Fr2 P w K mg base 8 CW) : FnD P w K mg base "_law_refused" 9 (spRefused CW) :=
  fn3 (N := N65) (ps := (N65 : List PySem.Str).take 3) Fd hm (Fd.bindsN fun _ _ _ _ _ _ us hl => match us, hl with | [_, _, _], _ => rfl) ⟨rfl, rfl, rfl, by decide +kernel, rfl, by decide +kernel, by decide +kernel⟩ (fun ds P R h => by
    unfold spRefused at h
    repeat (first | (obtain ⟨e, _⟩ := h; subst e; rfl) | (obtain ⟨_, h⟩ := h)))
    (fun X e1 e2 e3 e4 e5 hr c => by subst e1 e2 e3 e4 e5; exact body_refused c hr F)
theorem mk__law_blank (Fd : FnP K "_law_blank" (top 42) f fd) (hm : mg "_law_blank" = some (.ref f)) (bi : Bi mg) : FnM P w K mg base "_law_blank" 1 spBlank := by
  have h : ∃ e rp, defBody (top 42) = [.Return (some e) rp] := ⟨_, _, rfl⟩
  obtain ⟨e, rp, he⟩ := h
  exact fnm3 (N := ["_law_size", "_law_b", "_law_a"]) (ps := ["_law_size"]) Fd hm (Fd.bindsN fun _ _ _ _ _ _ us hl => match us, hl with | [_], _ => rfl) ⟨rfl, rfl, rfl, by decide +kernel, rfl, by decide +kernel, by decide +kernel⟩ (fun ds P h => by
    unfold spBlank at h
    obtain ⟨_, e, _⟩ := h
    subst e; rfl) he (fun X e1 e2 e3 e4 e5 hr c ds P h B0 H0 => by subst e1 e2 e3 e4 e5; exact em_blank c bi h he)
theorem mk__law_draws (Fd : FnP K "_law_draws" (top 39) f fd) (hm : mg "_law_draws" = some (.ref f)) (bi : Bi mg) : DrF P w K mg base "_law_draws" 1 := by
  refine ⟨f, fd, ["_law_script"], hm, Fd.kp, Fd.bindsN fun _ _ _ _ _ _ us hl => match us, hl with | [_], _ => rfl, fnr3 (N := N39) Fd ⟨rfl, rfl, rfl, by decide +kernel, rfl, by decide +kernel, by decide +kernel⟩ (by decide) (fun vs H Q E ⟨a, ns, B, e, _⟩ => ⟨a, e⟩) fun X e1 e2 e3 e4 e5 hr c a H Q E h => ?_⟩
  subst e1 e2 e3 e4 e5
  obtain ⟨a', ns, B, e, hq, hn, eb, k⟩ := h
  cases e
  exact ⟨B, (· = .drw), eb, body_draws c bi hq hn, fun v B' H' d g i e => by subst e; exact k v B' H' g i⟩
def spLaw (K : PySem.W.Frag) : Sp := fun vs H Q _ => ∃ (a : Addr) (ns : List Int), vs = [.ref a] ∧ SqL K H a (ns.map V.int) ∧ ns.length ≤ 63 ∧ ∀ H', Q (.bl true) H'
theorem mk_law (Fd : FnP K "law" (top 66) f fd) (F : Lw P w K mg base 9 CW) : FnOk P w K mg base (L2.CX P w) 11 f fd ["_law_script"] (spLaw K) := by
  refine fnr3 (N := N66) Fd ⟨rfl, rfl, rfl, by decide +kernel, rfl, by decide +kernel, by decide +kernel⟩ (by decide) (fun vs H Q E ⟨a, ns, e, _⟩ => ⟨a, e⟩) fun X e1 e2 e3 e4 e5 hr c a H Q E h => ?_
  subst e1 e2 e3 e4 e5
  obtain ⟨a', ns, e, hq, hn, k⟩ := h
  cases e
  exact ⟨fun _ => none, (· = .bl true), (fun _ _ h => nomatch h), body_law c hr F hq hn, fun v B' H' d g i e => by subst e; cases i; exact k H'⟩
/-! the classes -/
abbrev sBadI : Stmt := inClass (top 5) 0
abbrev sTiedI : Stmt := inClass (top 6) 0
theorem mk_web {fd : FuncData} {dvs : List V} (Fd : FunD K "__init__" "Web.__init__" (defArgs sWebI) (defBody sWebI) (defScope sWebI) [V.ref CE] [] f fd) (hm : mg "Web" = some (.ref CW)) (mk : Mk K CW f) (bi : Bi mg) (wc : WebC K CW) (most : ∃ t, mg "MOST_THINGS" = some (.int 40 t))
    (h1 : FnD P w K mg base "number_of_kind" 5 spNum) (h2 : FnD P w K mg base "ties_of" 5 spTiesOf) (h3 : FnD P w K mg base "masks_of_pairs" 5 spMasks) : MkD P w K mg base "Web" CW 6 spWebI := by
  obtain ⟨ds, hv, hb⟩ := Fd.binds1 (ps := ["self", "size", "ties"]) 3 1 (by simp) (by simp) fun T kV doc pm an cdv ct us its hu hi => match us, hu, its, hi with | [_, _, _], _, [_], _ => ⟨_, rfl, rfl⟩
  cases hv
  refine ⟨hm, f, fd, ["self", "size", "ties"], mk, init3 (N := N37) Fd ⟨rfl, rfl, rfl, by decide +kernel, rfl, by decide +kernel, by decide +kernel⟩ (by decide) (fun ds P R h => ?_) ?_, hb⟩
  · obtain ⟨n, g, e, _⟩ := h
    subst e; rfl
  · intro X e1 e2 e3 e4 e5 hr c ds P' R h B0 H0 a dx air
    subst e1 e2 e3 e4 e5
    exact body_web_init c bi wc hr most h1 h2 h3 h B0 H0 a dx
theorem mk_bad (Fd : FunD K "__init__" "BadPair.__init__" (defArgs sBadI) (defBody sBadI) (defScope sBadI) [] [] f fd) (hm : mg "BadPair" = some (.ref CB)) (hc : OexC K CB) (hf : PySem.W.findIn K (.ref CB) "__init__" = some (some (.ref f))) (ht : PySem.W.typeIn K (.ref f) = some (.type "function")) (hno : PySem.W.findIn K (.ref CB) "place" = some none) : ExcD P w K mg base "BadPair" CB 1 ["place"] :=
  ⟨hm, hc, f, fd, ["self", "place"], hf, ht, exc_init1 (FunD.fun Fd) ⟨rfl, rfl, rfl, by decide +kernel, rfl, by decide +kernel, by decide +kernel⟩ hc hno, Fd.bindsN fun _ _ _ _ _ _ us hl => match us, hl with | [_, _], _ => rfl⟩
theorem mk_tied (Fd : FunD K "__init__" "NotTied.__init__" (defArgs sTiedI) (defBody sTiedI) (defScope sTiedI) [] [] f fd) (hm : mg "NotTied" = some (.ref CT)) (hc : OexC K CT) (hf : PySem.W.findIn K (.ref CT) "__init__" = some (some (.ref f))) (ht : PySem.W.typeIn K (.ref f) = some (.type "function")) (hno : PySem.W.findIn K (.ref CT) "first" = some none) (hno2 : PySem.W.findIn K (.ref CT) "second" = some none) : ExcD P w K mg base "NotTied" CT 1 ["first", "second"] :=
  ⟨hm, hc, f, fd, ["self", "first", "second"], hf, ht, exc_init2 (FunD.fun Fd) ⟨rfl, rfl, rfl, by decide +kernel, rfl, by decide +kernel, by decide +kernel⟩ hc hno hno2, Fd.bindsN fun _ _ _ _ _ _ us hl => match us, hl with | [_, _, _], _ => rfl⟩
end
end OB
set_option Elab.async false
set_option linter.all false
set_option maxRecDepth 100000
set_option maxHeartbeats 0
namespace OB
open PySem PySem.Spec PyProof.Rows L2
abbrev KRow : PySem.W.OpenRow := PySem.W.OpenLaw.row PySem.Challenge.rw_ordersbehind_k04_forced_in_one_step
def dfn (x : PySem.Str) (i : Nat) : He.DefD := ⟨(x, none), x, x, defArgs (top i), defBody (top i), defScope (top i), [], []⟩
def dWebI : He.DefD := ⟨("Web", some "__init__"), "__init__", "Web.__init__", defArgs sWebI, defBody sWebI, defScope sWebI, [.adr (He.dflAt ("Web", some "__init__") 0)], []⟩
def dBadI : He.DefD := ⟨("BadPair", some "__init__"), "__init__", "BadPair.__init__", defArgs sBadI, defBody sBadI, defScope sBadI, [], []⟩
def dTiedI : He.DefD := ⟨("NotTied", some "__init__"), "__init__", "NotTied.__init__", defArgs sTiedI, defBody sTiedI, defScope sTiedI, [], []⟩
def fn : List He.DefD := [dfn "is_whole" 9, dfn "is_thing" 10, dfn "is_several" 11, dfn "is_pair" 12, dfn "pair_of" 14, dfn "ties_of" 15, dfn "pairs_of" 16, dfn "number_of_kind" 17, dfn "least_in" 21, dfn "things_in" 20, dfn "has_thing" 22, dfn "masks_of_pairs" 23, dfn "check_tied" 26, dfn "arrow_of" 27, dfn "two_arrows_of" 28, dfn "forced_from" 29, dfn "forced_by" 30, dfn "forces" 31, dfn "_law_take" 40, dfn "_law_row" 41, dfn "_law_near" 43, dfn "_law_ties" 44, dfn "_law_contrary" 45, dfn "_law_renamed" 46, dfn "_law_graft" 47, dfn "_law_path" 48, dfn "_law_round" 49, dfn "_law_agree" 50, dfn "_law_base" 51, dfn "_law_nested" 52, dfn "_law_any_ties" 53, dfn "_law_spans" 54, dfn "_law_meeting" 55, dfn "_law_edge" 56, dfn "_law_web" 57, dfn "_law_int" 58, dfn "_law_ints" 59, dfn "_law_pairs" 60, dfn "_law_steps" 61, dfn "_law_says" 62, dfn "_law_arrow_right" 63, dfn "_law_refusal" 64, dfn "_law_refused" 65, dfn "_law_blank" 42, dfn "_law_draws" 39, dfn "law" 66, dWebI, dBadI, dTiedI]
def faL : List He.Fa := [.glo "is_whole", .glo "is_thing", .glo "is_several", .glo "is_pair", .glo "pair_of", .glo "ties_of", .glo "pairs_of", .glo "number_of_kind", .glo "least_in", .glo "things_in", .glo "has_thing", .glo "masks_of_pairs", .glo "check_tied", .glo "arrow_of", .glo "two_arrows_of", .glo "forced_from", .glo "forced_by", .glo "forces", .glo "_law_take", .glo "_law_row", .glo "_law_near", .glo "_law_ties", .glo "_law_contrary", .glo "_law_renamed", .glo "_law_graft", .glo "_law_path", .glo "_law_round", .glo "_law_agree", .glo "_law_base", .glo "_law_nested", .glo "_law_any_ties", .glo "_law_spans", .glo "_law_meeting", .glo "_law_edge", .glo "_law_web", .glo "_law_int", .glo "_law_ints", .glo "_law_pairs", .glo "_law_steps", .glo "_law_says", .glo "_law_arrow_right", .glo "_law_refusal", .glo "_law_refused", .glo "_law_blank", .glo "_law_draws", .glo "law", .glo "Web", .glo "BadPair", .glo "NotTied", .glo "BehindError", .int "MOST_THINGS" 40, .cls "Web", .noat "Web" "size", .noat "Web" "ties", .noat "Web" "masks", .mkr "Web", .noat "BadPair" "place", .noat "NotTied" "first", .noat "NotTied" "second", .exm "BadPair" "BadPair" true, .exm "NotTied" "BadPair" false, .exm "NotTied" "NotTied" true, .meth "BadPair" "__init__", .meth "NotTied" "__init__"]
def fa : List He.Fa := freeL ++ faL
def ex (K : PySem.W.Frag) : Bool := excB K (He.ga K "BadPair") && excB K (He.ga K "NotTied")
def looseA : List PySem.Str := [("_wall" : PySem.Str), ("__name__" : PySem.Str), ("BehindError" : PySem.Str), ("BadNumber" : PySem.Str), ("BadThing" : PySem.Str), ("BadPair" : PySem.Str), ("NotTied" : PySem.Str), ("MOST_THINGS" : PySem.Str), ("is_whole" : PySem.Str), ("is_thing" : PySem.Str), ("is_several" : PySem.Str), ("is_pair" : PySem.Str), ("thing_of" : PySem.Str), ("pair_of" : PySem.Str), ("ties_of" : PySem.Str), ("pairs_of" : PySem.Str), ("number_of_kind" : PySem.Str), ("all_of" : PySem.Str), ("things_in" : PySem.Str), ("least_in" : PySem.Str), ("has_thing" : PySem.Str), ("masks_of_pairs" : PySem.Str), ("contrary_masks" : PySem.Str), ("check_tied" : PySem.Str), ("arrow_of" : PySem.Str), ("two_arrows_of" : PySem.Str), ("forced_from" : PySem.Str), ("forced_by" : PySem.Str), ("forces" : PySem.Str), ("pairs_moved" : PySem.Str), ("pairs_between" : PySem.Str), ("ties_of_masks" : PySem.Str), ("Web" : PySem.Str), ("_law_draws" : PySem.Str), ("_law_take" : PySem.Str)]
def looseB : List PySem.Str := [("_law_row" : PySem.Str), ("_law_blank" : PySem.Str), ("_law_near" : PySem.Str), ("_law_ties" : PySem.Str), ("_law_contrary" : PySem.Str), ("_law_renamed" : PySem.Str), ("_law_graft" : PySem.Str), ("_law_path" : PySem.Str), ("_law_round" : PySem.Str), ("_law_agree" : PySem.Str), ("_law_base" : PySem.Str), ("_law_nested" : PySem.Str), ("_law_any_ties" : PySem.Str), ("_law_spans" : PySem.Str), ("_law_meeting" : PySem.Str), ("_law_edge" : PySem.Str), ("_law_web" : PySem.Str), ("_law_int" : PySem.Str), ("_law_ints" : PySem.Str), ("_law_pairs" : PySem.Str), ("_law_steps" : PySem.Str), ("_law_says" : PySem.Str), ("_law_arrow_right" : PySem.Str), ("_law_refusal" : PySem.Str), ("_law_refused" : PySem.Str)]
abbrev hk : PySem.W.Hook := He.hookX 4 fa fn [] [] ex
def ob (s : PySem.W.SharedT) : He.AlX := He.obsX 4 fa fn [] [] ex (HandSHeadRun.getT s)
theorem ob_eq (s : PySem.W.SharedT) : ob s = hk.obs s.abs := He.obsX_eq (HandSHeadRun.getT_eq s)
end OB
set_option Elab.async false
set_option linter.all false
set_option maxRecDepth 100000
set_option maxHeartbeats 0
namespace OB
open PySem PySem.Spec PyProof.Rows L2
theorem run (w : World) : HandSHeadRun.RunEq KRow (PySem.W.view KRow.prog [66]) hk ob 20000 (looseA ++ looseB) w := by
  intro os
  kernel_rfl
end OB
set_option Elab.async false
set_option linter.all false
set_option maxRecDepth 100000
set_option maxHeartbeats 0
namespace OB
open PySem PySem.Spec PyProof.Rows L2
/-- a def that lets nothing out, for any air -/
theorem cx0_of {P : Program} {w : World} {K : PySem.W.Frag} {mg : PySem.Str → Option Value} {base : Heap} {k : Nat} {f : Addr} {fd : FuncData} {ps : List PySem.Str} {sp : Sp} (F : FnOk P w K mg base (L2.CX P w) k f fd ps sp) (h : ∀ vs H Q E E', sp vs H Q E → sp vs H Q E') : FnOk P w K mg base CX0 k f fd ps sp := by
  refine ⟨F.len, fun A outer s H args us vs Q E hr he hb hv hs => PySem.codeAny_mono (F.run A outer s H args us vs Q (fun _ _ _ => False) hr he hb hv (h _ _ _ _ _ hs)) fun r s' g => ?_⟩
  match r, g with
  | .ok (.ret u), g => exact g
  | .error e, g => obtain ⟨_, _, _, _, _, _, _, _, _, _, _, _, z⟩ := g; exact z.elim
theorem facts {P : Program} {w : World} {K : PySem.W.Frag} {h : Heap} {mg : PySem.Str → Option Value} {f : Addr} (X : K.In h) (G : h.Ns mainGlobals mg) (hfa : mg ("law" : PySem.Str) = some (.ref f)) (c : He.SaysX fa fn [] [] ex w h K) :
    ∃ fd : FuncData, (∀ (s : Shared) (v : Value), BindsTo s fd ⟨[v], []⟩ [("_law_script", v)]) ∧ ∀ base : Heap, K.In base → base.Ns mainGlobals mg → FnOk P w K mg base CX0 11 f fd ["_law_script"] (spLaw K) := by
  have cd := c.t.d
  have hex := c.more
  unfold ex at hex
  obtain ⟨xB, xT⟩ := Bool.and_eq_true_iff.mp hex
  obtain ⟨oB, fB⟩ := excB_ok xB
  obtain ⟨oT, fT⟩ := excB_ok xT
  have fc : ∀ (i : Nat) {q : He.Fa}, faL[i]? = some q → q.ok K = true := fun i q e => cd.facts (List.mem_append_right _ (List.mem_of_getElem? e))
  have bi : Bi mg := bi_of (fa := fa) X G (fun q hq => cd.facts hq) fun q hq => List.mem_append_left _ hq
  obtain ⟨d_is_whole, F_is_whole⟩ := cd.def_ 0 (d := dfn "is_whole" 9) rfl
  have F_is_whole : FnP K "is_whole" (top 9) (He.ga K "is_whole") d_is_whole := F_is_whole
  have g_is_whole : mg "is_whole" = some (.ref (He.ga K "is_whole")) := He.glo_ok X G (fc 0 rfl)
  obtain ⟨d_is_thing, F_is_thing⟩ := cd.def_ 1 (d := dfn "is_thing" 10) rfl
  have F_is_thing : FnP K "is_thing" (top 10) (He.ga K "is_thing") d_is_thing := F_is_thing
  have g_is_thing : mg "is_thing" = some (.ref (He.ga K "is_thing")) := He.glo_ok X G (fc 1 rfl)
  obtain ⟨d_is_several, F_is_several⟩ := cd.def_ 2 (d := dfn "is_several" 11) rfl
  have F_is_several : FnP K "is_several" (top 11) (He.ga K "is_several") d_is_several := F_is_several
  have g_is_several : mg "is_several" = some (.ref (He.ga K "is_several")) := He.glo_ok X G (fc 2 rfl)
  obtain ⟨d_is_pair, F_is_pair⟩ := cd.def_ 3 (d := dfn "is_pair" 12) rfl
  have F_is_pair : FnP K "is_pair" (top 12) (He.ga K "is_pair") d_is_pair := F_is_pair
  have g_is_pair : mg "is_pair" = some (.ref (He.ga K "is_pair")) := He.glo_ok X G (fc 3 rfl)
  obtain ⟨d_pair_of, F_pair_of⟩ := cd.def_ 4 (d := dfn "pair_of" 14) rfl
  have F_pair_of : FnP K "pair_of" (top 14) (He.ga K "pair_of") d_pair_of := F_pair_of
  have g_pair_of : mg "pair_of" = some (.ref (He.ga K "pair_of")) := He.glo_ok X G (fc 4 rfl)
  obtain ⟨d_ties_of, F_ties_of⟩ := cd.def_ 5 (d := dfn "ties_of" 15) rfl
  have F_ties_of : FnP K "ties_of" (top 15) (He.ga K "ties_of") d_ties_of := F_ties_of
  have g_ties_of : mg "ties_of" = some (.ref (He.ga K "ties_of")) := He.glo_ok X G (fc 5 rfl)
  obtain ⟨d_pairs_of, F_pairs_of⟩ := cd.def_ 6 (d := dfn "pairs_of" 16) rfl
  have F_pairs_of : FnP K "pairs_of" (top 16) (He.ga K "pairs_of") d_pairs_of := F_pairs_of
  have g_pairs_of : mg "pairs_of" = some (.ref (He.ga K "pairs_of")) := He.glo_ok X G (fc 6 rfl)
  obtain ⟨d_number_of_kind, F_number_of_kind⟩ := cd.def_ 7 (d := dfn "number_of_kind" 17) rfl
  have F_number_of_kind : FnP K "number_of_kind" (top 17) (He.ga K "number_of_kind") d_number_of_kind := F_number_of_kind
  have g_number_of_kind : mg "number_of_kind" = some (.ref (He.ga K "number_of_kind")) := He.glo_ok X G (fc 7 rfl)
  obtain ⟨d_least_in, F_least_in⟩ := cd.def_ 8 (d := dfn "least_in" 21) rfl
  have F_least_in : FnP K "least_in" (top 21) (He.ga K "least_in") d_least_in := F_least_in
  have g_least_in : mg "least_in" = some (.ref (He.ga K "least_in")) := He.glo_ok X G (fc 8 rfl)
  obtain ⟨d_things_in, F_things_in⟩ := cd.def_ 9 (d := dfn "things_in" 20) rfl
  have F_things_in : FnP K "things_in" (top 20) (He.ga K "things_in") d_things_in := F_things_in
  have g_things_in : mg "things_in" = some (.ref (He.ga K "things_in")) := He.glo_ok X G (fc 9 rfl)
  obtain ⟨d_has_thing, F_has_thing⟩ := cd.def_ 10 (d := dfn "has_thing" 22) rfl
  have F_has_thing : FnP K "has_thing" (top 22) (He.ga K "has_thing") d_has_thing := F_has_thing
  have g_has_thing : mg "has_thing" = some (.ref (He.ga K "has_thing")) := He.glo_ok X G (fc 10 rfl)
  obtain ⟨d_masks_of_pairs, F_masks_of_pairs⟩ := cd.def_ 11 (d := dfn "masks_of_pairs" 23) rfl
  have F_masks_of_pairs : FnP K "masks_of_pairs" (top 23) (He.ga K "masks_of_pairs") d_masks_of_pairs := F_masks_of_pairs
  have g_masks_of_pairs : mg "masks_of_pairs" = some (.ref (He.ga K "masks_of_pairs")) := He.glo_ok X G (fc 11 rfl)
  obtain ⟨d_check_tied, F_check_tied⟩ := cd.def_ 12 (d := dfn "check_tied" 26) rfl
  have F_check_tied : FnP K "check_tied" (top 26) (He.ga K "check_tied") d_check_tied := F_check_tied
  have g_check_tied : mg "check_tied" = some (.ref (He.ga K "check_tied")) := He.glo_ok X G (fc 12 rfl)
  obtain ⟨d_arrow_of, F_arrow_of⟩ := cd.def_ 13 (d := dfn "arrow_of" 27) rfl
  have F_arrow_of : FnP K "arrow_of" (top 27) (He.ga K "arrow_of") d_arrow_of := F_arrow_of
  have g_arrow_of : mg "arrow_of" = some (.ref (He.ga K "arrow_of")) := He.glo_ok X G (fc 13 rfl)
  obtain ⟨d_two_arrows_of, F_two_arrows_of⟩ := cd.def_ 14 (d := dfn "two_arrows_of" 28) rfl
  have F_two_arrows_of : FnP K "two_arrows_of" (top 28) (He.ga K "two_arrows_of") d_two_arrows_of := F_two_arrows_of
  have g_two_arrows_of : mg "two_arrows_of" = some (.ref (He.ga K "two_arrows_of")) := He.glo_ok X G (fc 14 rfl)
  obtain ⟨d_forced_from, F_forced_from⟩ := cd.def_ 15 (d := dfn "forced_from" 29) rfl
  have F_forced_from : FnP K "forced_from" (top 29) (He.ga K "forced_from") d_forced_from := F_forced_from
  have g_forced_from : mg "forced_from" = some (.ref (He.ga K "forced_from")) := He.glo_ok X G (fc 15 rfl)
  obtain ⟨d_forced_by, F_forced_by⟩ := cd.def_ 16 (d := dfn "forced_by" 30) rfl
  have F_forced_by : FnP K "forced_by" (top 30) (He.ga K "forced_by") d_forced_by := F_forced_by
  have g_forced_by : mg "forced_by" = some (.ref (He.ga K "forced_by")) := He.glo_ok X G (fc 16 rfl)
  obtain ⟨d_forces, F_forces⟩ := cd.def_ 17 (d := dfn "forces" 31) rfl
  have F_forces : FnP K "forces" (top 31) (He.ga K "forces") d_forces := F_forces
  have g_forces : mg "forces" = some (.ref (He.ga K "forces")) := He.glo_ok X G (fc 17 rfl)
  obtain ⟨d__law_take, F__law_take⟩ := cd.def_ 18 (d := dfn "_law_take" 40) rfl
  have F__law_take : FnP K "_law_take" (top 40) (He.ga K "_law_take") d__law_take := F__law_take
  have g__law_take : mg "_law_take" = some (.ref (He.ga K "_law_take")) := He.glo_ok X G (fc 18 rfl)
  obtain ⟨d__law_row, F__law_row⟩ := cd.def_ 19 (d := dfn "_law_row" 41) rfl
  have F__law_row : FnP K "_law_row" (top 41) (He.ga K "_law_row") d__law_row := F__law_row
  have g__law_row : mg "_law_row" = some (.ref (He.ga K "_law_row")) := He.glo_ok X G (fc 19 rfl)
  obtain ⟨d__law_near, F__law_near⟩ := cd.def_ 20 (d := dfn "_law_near" 43) rfl
  have F__law_near : FnP K "_law_near" (top 43) (He.ga K "_law_near") d__law_near := F__law_near
  have g__law_near : mg "_law_near" = some (.ref (He.ga K "_law_near")) := He.glo_ok X G (fc 20 rfl)
  obtain ⟨d__law_ties, F__law_ties⟩ := cd.def_ 21 (d := dfn "_law_ties" 44) rfl
  have F__law_ties : FnP K "_law_ties" (top 44) (He.ga K "_law_ties") d__law_ties := F__law_ties
  have g__law_ties : mg "_law_ties" = some (.ref (He.ga K "_law_ties")) := He.glo_ok X G (fc 21 rfl)
  obtain ⟨d__law_contrary, F__law_contrary⟩ := cd.def_ 22 (d := dfn "_law_contrary" 45) rfl
  have F__law_contrary : FnP K "_law_contrary" (top 45) (He.ga K "_law_contrary") d__law_contrary := F__law_contrary
  have g__law_contrary : mg "_law_contrary" = some (.ref (He.ga K "_law_contrary")) := He.glo_ok X G (fc 22 rfl)
  obtain ⟨d__law_renamed, F__law_renamed⟩ := cd.def_ 23 (d := dfn "_law_renamed" 46) rfl
  have F__law_renamed : FnP K "_law_renamed" (top 46) (He.ga K "_law_renamed") d__law_renamed := F__law_renamed
  have g__law_renamed : mg "_law_renamed" = some (.ref (He.ga K "_law_renamed")) := He.glo_ok X G (fc 23 rfl)
  obtain ⟨d__law_graft, F__law_graft⟩ := cd.def_ 24 (d := dfn "_law_graft" 47) rfl
  have F__law_graft : FnP K "_law_graft" (top 47) (He.ga K "_law_graft") d__law_graft := F__law_graft
  have g__law_graft : mg "_law_graft" = some (.ref (He.ga K "_law_graft")) := He.glo_ok X G (fc 24 rfl)
  obtain ⟨d__law_path, F__law_path⟩ := cd.def_ 25 (d := dfn "_law_path" 48) rfl
  have F__law_path : FnP K "_law_path" (top 48) (He.ga K "_law_path") d__law_path := F__law_path
  have g__law_path : mg "_law_path" = some (.ref (He.ga K "_law_path")) := He.glo_ok X G (fc 25 rfl)
  obtain ⟨d__law_round, F__law_round⟩ := cd.def_ 26 (d := dfn "_law_round" 49) rfl
  have F__law_round : FnP K "_law_round" (top 49) (He.ga K "_law_round") d__law_round := F__law_round
  have g__law_round : mg "_law_round" = some (.ref (He.ga K "_law_round")) := He.glo_ok X G (fc 26 rfl)
  obtain ⟨d__law_agree, F__law_agree⟩ := cd.def_ 27 (d := dfn "_law_agree" 50) rfl
  have F__law_agree : FnP K "_law_agree" (top 50) (He.ga K "_law_agree") d__law_agree := F__law_agree
  have g__law_agree : mg "_law_agree" = some (.ref (He.ga K "_law_agree")) := He.glo_ok X G (fc 27 rfl)
  obtain ⟨d__law_base, F__law_base⟩ := cd.def_ 28 (d := dfn "_law_base" 51) rfl
  have F__law_base : FnP K "_law_base" (top 51) (He.ga K "_law_base") d__law_base := F__law_base
  have g__law_base : mg "_law_base" = some (.ref (He.ga K "_law_base")) := He.glo_ok X G (fc 28 rfl)
  obtain ⟨d__law_nested, F__law_nested⟩ := cd.def_ 29 (d := dfn "_law_nested" 52) rfl
  have F__law_nested : FnP K "_law_nested" (top 52) (He.ga K "_law_nested") d__law_nested := F__law_nested
  have g__law_nested : mg "_law_nested" = some (.ref (He.ga K "_law_nested")) := He.glo_ok X G (fc 29 rfl)
  obtain ⟨d__law_any_ties, F__law_any_ties⟩ := cd.def_ 30 (d := dfn "_law_any_ties" 53) rfl
  have F__law_any_ties : FnP K "_law_any_ties" (top 53) (He.ga K "_law_any_ties") d__law_any_ties := F__law_any_ties
  have g__law_any_ties : mg "_law_any_ties" = some (.ref (He.ga K "_law_any_ties")) := He.glo_ok X G (fc 30 rfl)
  obtain ⟨d__law_spans, F__law_spans⟩ := cd.def_ 31 (d := dfn "_law_spans" 54) rfl
  have F__law_spans : FnP K "_law_spans" (top 54) (He.ga K "_law_spans") d__law_spans := F__law_spans
  have g__law_spans : mg "_law_spans" = some (.ref (He.ga K "_law_spans")) := He.glo_ok X G (fc 31 rfl)
  obtain ⟨d__law_meeting, F__law_meeting⟩ := cd.def_ 32 (d := dfn "_law_meeting" 55) rfl
  have F__law_meeting : FnP K "_law_meeting" (top 55) (He.ga K "_law_meeting") d__law_meeting := F__law_meeting
  have g__law_meeting : mg "_law_meeting" = some (.ref (He.ga K "_law_meeting")) := He.glo_ok X G (fc 32 rfl)
  obtain ⟨d__law_edge, F__law_edge⟩ := cd.def_ 33 (d := dfn "_law_edge" 56) rfl
  have F__law_edge : FnP K "_law_edge" (top 56) (He.ga K "_law_edge") d__law_edge := F__law_edge
  have g__law_edge : mg "_law_edge" = some (.ref (He.ga K "_law_edge")) := He.glo_ok X G (fc 33 rfl)
  obtain ⟨d__law_web, F__law_web⟩ := cd.def_ 34 (d := dfn "_law_web" 57) rfl
  have F__law_web : FnP K "_law_web" (top 57) (He.ga K "_law_web") d__law_web := F__law_web
  have g__law_web : mg "_law_web" = some (.ref (He.ga K "_law_web")) := He.glo_ok X G (fc 34 rfl)
  obtain ⟨d__law_int, F__law_int⟩ := cd.def_ 35 (d := dfn "_law_int" 58) rfl
  have F__law_int : FnP K "_law_int" (top 58) (He.ga K "_law_int") d__law_int := F__law_int
  have g__law_int : mg "_law_int" = some (.ref (He.ga K "_law_int")) := He.glo_ok X G (fc 35 rfl)
  obtain ⟨d__law_ints, F__law_ints⟩ := cd.def_ 36 (d := dfn "_law_ints" 59) rfl
  have F__law_ints : FnP K "_law_ints" (top 59) (He.ga K "_law_ints") d__law_ints := F__law_ints
  have g__law_ints : mg "_law_ints" = some (.ref (He.ga K "_law_ints")) := He.glo_ok X G (fc 36 rfl)
  obtain ⟨d__law_pairs, F__law_pairs⟩ := cd.def_ 37 (d := dfn "_law_pairs" 60) rfl
  have F__law_pairs : FnP K "_law_pairs" (top 60) (He.ga K "_law_pairs") d__law_pairs := F__law_pairs
  have g__law_pairs : mg "_law_pairs" = some (.ref (He.ga K "_law_pairs")) := He.glo_ok X G (fc 37 rfl)
  obtain ⟨d__law_steps, F__law_steps⟩ := cd.def_ 38 (d := dfn "_law_steps" 61) rfl
  have F__law_steps : FnP K "_law_steps" (top 61) (He.ga K "_law_steps") d__law_steps := F__law_steps
  have g__law_steps : mg "_law_steps" = some (.ref (He.ga K "_law_steps")) := He.glo_ok X G (fc 38 rfl)
  obtain ⟨d__law_says, F__law_says⟩ := cd.def_ 39 (d := dfn "_law_says" 62) rfl
  have F__law_says : FnP K "_law_says" (top 62) (He.ga K "_law_says") d__law_says := F__law_says
  have g__law_says : mg "_law_says" = some (.ref (He.ga K "_law_says")) := He.glo_ok X G (fc 39 rfl)
  obtain ⟨d__law_arrow_right, F__law_arrow_right⟩ := cd.def_ 40 (d := dfn "_law_arrow_right" 63) rfl
  have F__law_arrow_right : FnP K "_law_arrow_right" (top 63) (He.ga K "_law_arrow_right") d__law_arrow_right := F__law_arrow_right
  have g__law_arrow_right : mg "_law_arrow_right" = some (.ref (He.ga K "_law_arrow_right")) := He.glo_ok X G (fc 40 rfl)
  obtain ⟨d__law_refusal, F__law_refusal⟩ := cd.def_ 41 (d := dfn "_law_refusal" 64) rfl
  have F__law_refusal : FnP K "_law_refusal" (top 64) (He.ga K "_law_refusal") d__law_refusal := F__law_refusal
  have g__law_refusal : mg "_law_refusal" = some (.ref (He.ga K "_law_refusal")) := He.glo_ok X G (fc 41 rfl)
  obtain ⟨d__law_refused, F__law_refused⟩ := cd.def_ 42 (d := dfn "_law_refused" 65) rfl
  have F__law_refused : FnP K "_law_refused" (top 65) (He.ga K "_law_refused") d__law_refused := F__law_refused
  have g__law_refused : mg "_law_refused" = some (.ref (He.ga K "_law_refused")) := He.glo_ok X G (fc 42 rfl)
  obtain ⟨d__law_blank, F__law_blank⟩ := cd.def_ 43 (d := dfn "_law_blank" 42) rfl
  have F__law_blank : FnP K "_law_blank" (top 42) (He.ga K "_law_blank") d__law_blank := F__law_blank
  have g__law_blank : mg "_law_blank" = some (.ref (He.ga K "_law_blank")) := He.glo_ok X G (fc 43 rfl)
  obtain ⟨d__law_draws, F__law_draws⟩ := cd.def_ 44 (d := dfn "_law_draws" 39) rfl
  have F__law_draws : FnP K "_law_draws" (top 39) (He.ga K "_law_draws") d__law_draws := F__law_draws
  have g__law_draws : mg "_law_draws" = some (.ref (He.ga K "_law_draws")) := He.glo_ok X G (fc 44 rfl)
  obtain ⟨d_law, F_law⟩ := cd.def_ 45 (d := dfn "law" 66) rfl
  have F_law : FnP K "law" (top 66) (He.ga K "law") d_law := F_law
  have g_law : mg "law" = some (.ref (He.ga K "law")) := He.glo_ok X G (fc 45 rfl)
  obtain ⟨dWI, FWI⟩ := cd.def_ 46 (d := dWebI) rfl
  obtain ⟨dBI, FBI⟩ := cd.def_ 47 (d := dBadI) rfl
  obtain ⟨dTI, FTI⟩ := cd.def_ 48 (d := dTiedI) rfl
  have gWeb := He.glo_ok X G (fc 46 rfl)
  have gBad := He.glo_ok X G (fc 47 rfl)
  have gTied := He.glo_ok X G (fc 48 rfl)
  have gBeh := He.glo_ok X G (fc 49 rfl)
  have most := He.int_ok X G (fc 50 rfl)
  have wc : WebC K (He.ga K "Web") := ⟨He.cls_ok (fc 51 rfl), He.noat_ok (fc 52 rfl), He.noat_ok (fc 53 rfl), He.noat_ok (fc 54 rfl)⟩
  have mk := He.mkr_ok (fc 55 rfl)
  have np := He.noat_ok (fc 56 rfl)
  have n1 := He.noat_ok (fc 57 rfl)
  have n2 := He.noat_ok (fc 58 rfl)
  have xs : Xs K mg (He.ga K "BadPair") (He.ga K "NotTied") (He.ga K "BehindError") := ⟨gBad, gTied, gBeh, fB, fT, np, n1, n2, He.exm_ok (fc 59 rfl), He.exm_ok (fc 60 rfl), He.exm_ok (fc 61 rfl)⟩
  obtain ⟨mB, mB2⟩ := He.ba (fc 62 rfl)
  obtain ⟨mT, mT2⟩ := He.ba (fc 63 rfl)
  have tB := eq_of_beq (He.ba mB2).1
  have tT := eq_of_beq (He.ba mT2).1
  have e := hfa.symm.trans g_law
  cases e
  refine ⟨d_law, fun s v => FunD.bindsA (ps := ["_law_script"]) F_law (fun _ _ _ _ _ _ us hl => match us, hl with | [_], _ => rfl) s [v] rfl, fun base _ _ => ?_⟩
  have B {P : Program} {w : World} {base : Heap} := mk_bad (P := P) (w := w) (mg := mg) (base := base) FBI gBad oB (He.eqO_ok mB) tB np
  have T {P : Program} {w : World} {base : Heap} := mk_tied (P := P) (w := w) (mg := mg) (base := base) FTI gTied oT (He.eqO_ok mT) tT n1 n2
  have a_is_whole := mk_is_whole (P := P) (w := w) (base := base) F_is_whole g_is_whole bi
  have a_is_several := mk_is_several (P := P) (w := w) (base := base) F_is_several g_is_several bi
  have a_is_thing := mk_is_thing F_is_thing g_is_thing a_is_whole
  have a_is_pair := mk_is_pair F_is_pair g_is_pair bi (a_is_several.mono (by omega)) a_is_thing
  have a_pair_of := mk_pair_of F_pair_of g_pair_of a_is_pair (B.mono (by omega))
  have a_pairs_of := mk_pairs_of F_pairs_of g_pairs_of bi (a_is_several.mono (by omega)) a_is_pair
  have a_ties_of := mk_ties_of F_ties_of g_ties_of bi a_pairs_of
  have a_num := mk_number_of_kind F_number_of_kind g_number_of_kind a_is_whole
  have a_least := mk_least_in (P := P) (w := w) (base := base) F_least_in g_least_in
  have a_things := mk_things_in F_things_in g_things_in bi a_least
  have a_has := mk_has_thing (P := P) (w := w) (base := base) F_has_thing g_has_thing
  have a_masks := mk_masks_of_pairs (P := P) (w := w) (base := base) F_masks_of_pairs g_masks_of_pairs bi
  have a_check := mk_check_tied F_check_tied g_check_tied wc a_has T
  have a_arrow := mk_arrow_of F_arrow_of g_arrow_of wc a_pair_of (a_check.mono (by omega))
  have a_two := mk_two_arrows_of F_two_arrows_of g_two_arrows_of wc a_pair_of (a_check.mono (by omega))
  have a_from := mk_forced_from F_forced_from g_forced_from wc a_things
  have a_by := mk_forced_by F_forced_by g_forced_by bi wc a_arrow (a_from.mono (by omega))
  have a_forces := mk_forces F_forces g_forces bi wc a_two (a_from.mono (by omega))
  have a_web := mk_web (P := P) (w := w) (base := base) (dvs := []) FWI gWeb mk bi wc most (a_num.mono (by omega)) a_ties_of (a_masks.mono (by omega))
  have a_take := mk__law_take (P := P) (w := w) (base := base) F__law_take g__law_take bi
  have a_blank := mk__law_blank (P := P) (w := w) (base := base) F__law_blank g__law_blank bi
  have a_near := mk__law_near F__law_near g__law_near a_blank
  have a_ties := mk__law_ties (P := P) (w := w) (base := base) F__law_ties g__law_ties bi
  have a_con := mk__law_contrary F__law_contrary g__law_contrary bi a_blank
  have a_ren := mk__law_renamed F__law_renamed g__law_renamed bi a_blank
  have a_graft := mk__law_graft F__law_graft g__law_graft bi a_blank
  have a_path := mk__law_path F__law_path g__law_path bi a_near
  have a_round := mk__law_round F__law_round g__law_round bi a_near
  have W3 : Ws P w K mg base 3 := ⟨bi, a_take.mono (by omega), a_blank.mono (by omega), a_near.mono (by omega), a_con.mono (by omega), a_graft.mono (by omega), a_path, a_round⟩
  have a_row := mk__law_row F__law_row g__law_row bi a_take
  have a_agree := mk__law_agree F__law_agree g__law_agree W3
  have a_base := mk__law_base F__law_base g__law_base W3
  have a_nested := mk__law_nested F__law_nested g__law_nested (W3.mono (by omega)) a_base
  have a_any := mk__law_any_ties F__law_any_ties g__law_any_ties W3
  have a_spans := mk__law_spans F__law_spans g__law_spans W3
  have a_meet := mk__law_meeting F__law_meeting g__law_meeting W3
  have a_edge := mk__law_edge F__law_edge g__law_edge W3
  have W5 : Ws P w K mg base 5 := W3.mono (by omega)
  have a_webL := mk__law_web F__law_web g__law_web ⟨W5, a_row.mono (by omega), a_nested, a_agree.mono (by omega), a_any.mono (by omega), a_spans.mono (by omega), a_meet.mono (by omega), a_edge.mono (by omega), a_ren.mono (by omega)⟩
  have a_int := mk__law_int (P := P) (w := w) (base := base) F__law_int g__law_int bi
  have a_ints := mk__law_ints F__law_ints g__law_ints bi a_int
  have a_pairs := mk__law_pairs F__law_pairs g__law_pairs bi a_ints
  have a_steps := mk__law_steps (P := P) (w := w) (base := base) F__law_steps g__law_steps bi
  have a_says := mk__law_says (P := P) (w := w) (base := base) F__law_says g__law_says bi
  have a_right := mk__law_arrow_right F__law_arrow_right g__law_arrow_right ⟨bi, a_take.mono (by omega), a_pairs.mono (by omega), a_steps.mono (by omega), a_says.mono (by omega), a_by, a_forces⟩
  have a_ref := mk__law_refusal F__law_refusal g__law_refusal xs a_by a_forces
  have a_refused := mk__law_refused F__law_refused g__law_refused ⟨bi, a_take.mono (by omega), a_ties.mono (by omega), a_con.mono (by omega), a_ref⟩
  have a_draws := mk__law_draws (P := P) (w := w) (base := base) F__law_draws g__law_draws bi
  obtain ⟨fD, fdD, psD, q1, q2, q3, q4⟩ := a_draws.ex
  exact cx0_of (mk_law F_law ⟨bi, ⟨fD, fdD, psD, q1, q2, q3, q4.mono (by omega)⟩, a_webL.mono (by omega), a_ties.mono (by omega), a_web.mono (by omega), a_right.mono (by omega), a_refused⟩) fun vs H Q E E' h => h
end OB
set_option Elab.async false
set_option linter.all false
set_option maxRecDepth 100000
set_option maxHeartbeats 0
open PySem PySem.W PySem.Calls PyProof.Rows
theorem PySem.Challenge.cw_ordersbehind_k04_forced_in_one_step_holds : PySem.Challenge.rw_ordersbehind_k04_forced_in_one_step.Holds := by
  w_on; o_law
  refine HandSHeadRun.head_any (r := OpenLaw.row PySem.Challenge.rw_ordersbehind_k04_forced_in_one_step) (q := view (OpenLaw.row PySem.Challenge.rw_ordersbehind_k04_forced_in_one_step).prog [66]) (H := OB.hk) (ob := OB.ob) (M := 20000) (loose := OB.looseA ++ OB.looseB) (d := HandSHeadRun.topDef (OpenLaw.row PySem.Challenge.rw_ordersbehind_k04_forced_in_one_step).prog 66) (kwd := []) OB.ob_eq
    (by kernel_rfl) (fun s => by kernel_rfl) OB.run (by kernel_rfl) (by kernel_rfl) (by kernel_rfl) (by rfl) (by first | assumption | decide +kernel) (by decide +kernel) ⟨rfl, rfl, rfl, rfl, rfl, by decide +kernel⟩ ?hw ?hc
  case hw => w_witness2
  case hc =>
    refine L2.walk_ofE (l := PySem.Challenge.rw_ordersbehind_k04_forced_in_one_step) (n := 63) (k := 11) (x := "_law_script") (CX := L2.CX0) rfl (by decide) (by kernel_rfl) ⟨rfl, by decide, by decide⟩ ?F (fun _ _ _ _ z => z)
    intro w mg fa h Y G hmg0
    obtain ⟨K, KX, c⟩ := Y
    have hmg : mg ("law" : PySem.Str) = some (.ref fa) := by
      have e : (HandSHeadRun.topDef (OpenLaw.row PySem.Challenge.rw_ordersbehind_k04_forced_in_one_step).prog 66).name = ("law" : PySem.Str) := by kernel_rfl
      rw [← e]
      exact hmg0
    obtain ⟨fd, hb, hF⟩ := OB.facts (P := (PySem.Challenge.rw_ordersbehind_k04_forced_in_one_step).prog) (w := w) KX G hmg c
    exact ⟨K, fd, OB.spLaw K, KX, hb, fun H a ns hl _ hS => ⟨a, ns, rfl, hS, hl, fun _ => rfl⟩, hF⟩
